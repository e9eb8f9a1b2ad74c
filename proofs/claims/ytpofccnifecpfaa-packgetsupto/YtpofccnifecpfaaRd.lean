/- What a Reader's methods do: Fail, pass, Num, Count, close; condition: the Reader lies in memory, alive. -/
import Derived.Test.YtpofccnifecpfaaLn
import Derived.Laws.Pointers
namespace Go.Proofs.Ytpofccnifecpfaa
open Go.RowKit
set_option linter.unusedVariables false
/-- A Reader lies at the block R: what is left, its error, whether it lives. -/
def Rd (w : World) (R : Nat) (rest : Value) (code : Int) (live : Bool) : Prop := w.heap[R]? = some (.cells #[rest, .int .i64 code, .bool live] 60 (0, 0))
theorem Rd.c0 {w : World} {R : Nat} {rest : Value} {code : Int} {live : Bool} (h : Rd w R rest code live) : w.cell? ⟨R, 0, none⟩ = some rest := by unfold Rd at h; simp [World.cell?, h]
theorem Rd.c1 {w : World} {R : Nat} {rest : Value} {code : Int} {live : Bool} (h : Rd w R rest code live) : w.cell? ⟨R, 1, none⟩ = some (.int .i64 code) := by unfold Rd at h; simp [World.cell?, h]
theorem Rd.c2 {w : World} {R : Nat} {rest : Value} {code : Int} {live : Bool} (h : Rd w R rest code live) : w.cell? ⟨R, 2, none⟩ = some (.bool live) := by unfold Rd at h; simp [World.cell?, h]
theorem Rd.fr {w : World} {R : Nat} {rest : Value} {code : Int} {live : Bool} (h : Rd w R rest code live) (j : Nat) : w.frozen? ⟨R, j, none⟩ = false := by unfold Rd at h; simp [World.frozen?, h]
theorem Rd.s0 {w : World} {R : Nat} {rest : Value} {code : Int} {live : Bool} (h : Rd w R rest code live) (v : Value) : Rd (w.setCell ⟨R, 0, none⟩ v) R v code live := by
  have := heap_setCell_same w R 0 _ _ v h; exact this
theorem Rd.s1 {w : World} {R : Nat} {rest : Value} {code : Int} {live : Bool} (h : Rd w R rest code live) (c : Int) : Rd (w.setCell ⟨R, 1, none⟩ (.int .i64 c)) R rest c live := by
  have := heap_setCell_same w R 1 _ _ (.int .i64 c) h; exact this
set_option maxHeartbeats 400000 in
theorem fail_any (R : Nat) (rest : Value) (e : Int) (w : World) (h : Rd w R rest 0 true) (E : Int) (hE : E = if e = 0 then 30 else e) :
    Calls Try.prog 21 #[.pointer (some ⟨R, 0, none⟩), .int .i64 e] w fun en w' => en = .panicked [{ v := .iface 63 (.agg #[.pointer (some ⟨R, 0, none⟩)]), recovered := false }] ∧ w' = (w.setCell ⟨R, 1, none⟩ (.int .i64 E)).setCell ⟨R, 0, none⟩ (.slice none 0 0) := by
  have c0 := h.c0
  have c1 := h.c1
  have c2 := h.c2
  have f0 := h.fr 0
  have f1 := h.fr 1
  have d0 := (h.s1 E).c0
  have g0 := (h.s1 E).fr 0
  clear h
  by_cases he : e = 0
  · subst he
    rw [if_pos rfl] at hE
    subst hE
    go_enter Try.func21, Try.ntmps21
    go_wp2
    exact ⟨rfl, rfl, rfl⟩
  · rw [if_neg he] at hE
    subst hE
    have t0 : (E == 0) = false := by rw [beq_eq_false_iff_ne]; exact he
    go_enter Try.func21, Try.ntmps21
    go_wp2
    exact ⟨rfl, rfl, rfl⟩
/-- A row from its k-th byte on. -/
def sh (k : Nat) (x : Nat → Nat) : Nat → Nat := fun i => x (k + i)
def cutv (b off n cap k : Nat) : Value := .slice (some ⟨b, if cap = k then off else off + k, none⟩) (n - k) (cap - k)
set_option maxHeartbeats 400000 in
theorem pass_some (R b off n cap k : Nat) (hk : 0 < k) (hkn : k ≤ n) (hnc : n ≤ cap) (hm : cap ≤ maxLen) (w : World) (h : Rd w R (.slice (some ⟨b, off, none⟩) n cap) 0 true) :
    Calls Try.prog 36 #[.pointer (some ⟨R, 0, none⟩), .int .i64 (k : Int)] w fun e w' => e = .returned (.tuple #[]) ∧ w' = w.setCell ⟨R, 0, none⟩ (cutv b off n cap k) := by
  have c0 := h.c0
  have f0 := h.fr 0
  have HV : Hid (cutv b off n cap k = .slice (some ⟨b, if cap = k then off else off + k, none⟩) (n - k) (cap - k)) := rfl
  generalize cutv b off n cap k = V at *
  clear h
  unfold maxLen at hm
  by_cases hc : cap = k
  · subst hc
    rw [if_pos rfl] at HV
    have hn : n = cap := by omega
    subst hn
    go_enter Try.func36, Try.ntmps36
    go_wp2
    go_end0
    exact ⟨rfl, by rw [HV.out] <;> simp⟩
  · rw [if_neg hc] at HV
    go_enter Try.func36, Try.ntmps36
    go_wp2
    go_end0
    exact ⟨rfl, by rw [HV.out] <;> simp⟩
set_option maxHeartbeats 400000 in
theorem pass_zero (R : Nat) (rest : Value) (w : World) (h : Rd w R rest 0 true) :
    Calls Try.prog 36 #[.pointer (some ⟨R, 0, none⟩), .int .i64 0] w fun en w' => en = .panicked [{ v := .iface 63 (.agg #[.pointer (some ⟨R, 0, none⟩)]), recovered := false }] ∧ w' = (w.setCell ⟨R, 1, none⟩ (.int .i64 30)).setCell ⟨R, 0, none⟩ (.slice none 0 0) := by
  have hf := hid (fail_any R rest 30 w h 30 rfl)
  clear h
  go_enter Try.func36, Try.ntmps36
  go_wp2_with (go_at_call 21; refine hf.out.mono ?_; rintro e w' ⟨rfl, rfl⟩)
  exact ⟨rfl, rfl, rfl⟩
/-- The world behind a close. -/
def shut (w : World) (R : Nat) : World := ((w.setCell ⟨R, 0, none⟩ (.slice none 0 0)).setCell ⟨R, 1, none⟩ (.int .i64 0)).setCell ⟨R, 2, none⟩ (.bool false)
set_option maxHeartbeats 400000 in
theorem close_code (R : Nat) (rest : Value) (c : Int) (l : Bool) (hc : c ≠ 0) (w : World) (h : Rd w R rest c l) :
    Calls Try.prog 34 #[.pointer (some ⟨R, 0, none⟩)] w fun e w' => e = .returned (.int .i64 c) ∧ w' = shut w R := by
  have c0 := h.c0
  have c1 := h.c1
  have c2 := h.c2
  have f0 := h.fr 0
  have f1 := h.fr 1
  have f2 := h.fr 2
  clear h
  have t0 : (c == 0) = false := by rw [beq_eq_false_iff_ne]; exact hc
  go_enter Try.func34, Try.ntmps34
  go_wp2
  go_ret
  exact ⟨rfl, rfl⟩
set_option maxHeartbeats 400000 in
theorem close_ok (R : Nat) (a : Option Addr) (n cap : Nat) (l : Bool) (F : Int) (hF : F = if 0 < n then 30 else 0) (w : World) (h : Rd w R (.slice a n cap) 0 l) :
    Calls Try.prog 34 #[.pointer (some ⟨R, 0, none⟩)] w fun e w' => e = .returned (.int .i64 F) ∧ w' = shut w R := by
  have c0 := h.c0
  have c1 := h.c1
  have c2 := h.c2
  have f0 := h.fr 0
  have f1 := h.fr 1
  have f2 := h.fr 2
  clear h
  by_cases hn : n = 0
  · subst hn
    rw [if_neg (by omega)] at hF
    subst hF
    go_enter Try.func34, Try.ntmps34
    go_wp2
    go_ret
    exact ⟨rfl, rfl⟩
  · rw [if_pos (by omega)] at hF
    subst hF
    have hp : 0 < n := by omega
    go_enter Try.func34, Try.ntmps34
    go_wp2
    go_ret
    exact ⟨rfl, rfl⟩
theorem slice_row {w : World} {b off n cap : Nat} {x : Nat → Nat} (hc : ∀ i, i < n → x i < 256 ∧ w.cell? ⟨b, off + i, none⟩ = some (.int .u8 (x i : Int))) (hm : cap ≤ maxLen) (lo m c : Nat) (hm0 : 0 < m) (hn : lo + m ≤ n) (hc2 : m ≤ c) (hcm : c ≤ cap) :
    ByRow w (.slice (some ⟨b, off + lo, none⟩) m c) m (sh lo x) :=
  .inr ⟨hm0, by omega, b, off + lo, c, rfl, fun i hi' => by have := hc (lo + i) (by omega); rw [show off + lo + i = off + (lo + i) by omega]; exact this, hc2, by omega⟩
/-- A Reader at R that lives, without an error, with these bytes left. -/
def RS (w : World) (R n : Nat) (x : Nat → Nat) : Prop := ∃ v, Rd w R v 0 true ∧ ByRow w v n x ∧ (n = 0 ∨ v.ownBlock ≠ some R)
/-- A Reader at R that has failed. -/
def RF (w : World) (R : Nat) (c : Int) : Prop := Rd w R (.slice none 0 0) c true
theorem by_set (w : World) (R j : Nat) (v : Value) : w.grownBy (w.setCell ⟨R, j, none⟩ v) (some R) := ⟨rfl, rfl, rfl, by simp, fun k _ hk => heap_setCell_other w ⟨R, j, none⟩ k v (fun e => hk (by simp [e]))⟩
theorem by_trans {a b c : World} {r : Option Nat} (h : a.grownBy b r) (k : b.grownBy c r) : a.grownBy c r :=
  ⟨k.os.trans h.os, k.tape.trans h.tape, k.output.trans h.output, Nat.le_trans h.size k.size, fun i hi hne => (k.block i (Nat.lt_of_lt_of_le hi h.size) hne).trans (h.block i hi hne)⟩
theorem RS.cut {w : World} {R b off n cap : Nat} {x : Nat → Nat} (h : Rd w R (.slice (some ⟨b, off, none⟩) n cap) 0 true) (hr : ByRow w (.slice (some ⟨b, off, none⟩) n cap) n x) (hne : n = 0 ∨ b ≠ R) (k : Nat) (hk : k ≤ n) : RS (w.setCell ⟨R, 0, none⟩ (cutv b off n cap k)) R (n - k) (sh k x) := by
  refine ⟨_, h.s0 _, ?_, ?_⟩
  · by_cases hz : n - k = 0
    · rw [hz]; unfold cutv; rw [hz]; exact .inl ⟨rfl, _, _, rfl, fun h => by cases h⟩
    · obtain ⟨b', off', cap', hv, hc, hcp, hm⟩ := hr.cells (by omega)
      cases hv
      unfold cutv
      rw [if_neg (by omega)]
      refine (slice_row hc hm k (n - k) (cap - k) (by omega) (by omega) (by omega) (by omega)).grown (by_set w R 0 _) (.inr ?_)
      simp [Value.ownBlock]; rcases hne with h | h <;> omega
  · rcases hne with h | h
    · exact .inl (by omega)
    · right; simp [cutv, Value.ownBlock]; exact h
set_option maxHeartbeats 400000 in
theorem num_ok (R n : Nat) (x : Nat → Nat) (w : World) (h : RS w R n x) (hk : lnK x n ≠ 0) :
    Calls Try.prog 17 #[.pointer (some ⟨R, 0, none⟩)] w fun e w' => e = .returned (.int .i64 (lnV x n)) ∧ RS w' R (n - lnK x n) (sh (lnK x n) x) ∧ w.grownBy w' (some R) := by
  obtain ⟨v, hr, hv, hne⟩ := h
  have hkn : lnK x n ≤ n := ln_le x n 11 0
  obtain ⟨b, off, cap, rfl, hc, hcp, hm⟩ := hv.cells (by omega)
  have c0 := hr.c0
  have HL := hid (leadingNum_any _ n x w hv)
  have HP := hid (pass_some R b off n cap (lnK x n) (by omega) hkn hcp hm w hr)
  have HR := hid (RS.cut hr hv (by rcases hne with h | h; exact .inl h; exact .inr (by simpa [Value.ownBlock] using h)) (lnK x n) hkn)
  clear hr hv hc hne
  generalize lnV x n = V at *
  generalize lnK x n = K at *
  go_enter Try.func17, Try.ntmps17
  go_wp2_with (first | (go_at_call 35; refine HL.out.mono ?_; rintro e w' ⟨rfl, hw⟩; have hw2 := hw.symm; subst hw2) | (go_at_call 36; refine HP.out.mono ?_; rintro e w' ⟨rfl, rfl⟩))
  go_ret
  exact ⟨rfl, HR.out, by_set _ _ _ _⟩
set_option maxHeartbeats 400000 in
theorem num_no (R n : Nat) (x : Nat → Nat) (w : World) (h : RS w R n x) (hk : lnK x n = 0) :
    Calls Try.prog 17 #[.pointer (some ⟨R, 0, none⟩)] w fun e w' => e = .panicked [{ v := .iface 63 (.agg #[.pointer (some ⟨R, 0, none⟩)]), recovered := false }] ∧ RF w' R 30 ∧ w.grownBy w' (some R) := by
  obtain ⟨v, hr, hv, hne⟩ := h
  have c0 := hr.c0
  have HL := hid (leadingNum_any _ n x w hv)
  rw [hk] at HL
  have HP := hid (pass_zero R v w hr)
  have HR := hid ((hr.s1 30).s0 (.slice none 0 0))
  clear hr hv hne hk
  generalize lnV x n = V at *
  go_enter Try.func17, Try.ntmps17
  go_wp2_with (first | (go_at_call 35; refine HL.out.mono ?_; rintro e w' ⟨rfl, hw⟩; have hw2 := hw.symm; subst hw2) | (go_at_call 36; refine HP.out.mono ?_; rintro e w' ⟨rfl, rfl⟩))
  exact ⟨rfl, rfl, HR.out, by_trans (by_set _ _ _ _) (by_set _ _ _ _)⟩
def ended (R : Nat) : List PanicEntry := [{ v := .iface 63 (.agg #[.pointer (some ⟨R, 0, none⟩)]), recovered := false }]
theorem RS.fail {w : World} {R n : Nat} {x : Nat → Nat} (h : RS w R n x) (c : Int) : RF ((w.setCell ⟨R, 1, none⟩ (.int .i64 c)).setCell ⟨R, 0, none⟩ (.slice none 0 0)) R c := by
  obtain ⟨v, hr, _⟩ := h
  exact (hr.s1 c).s0 _
set_option maxHeartbeats 400000 in
theorem count_ok (R n : Nat) (x : Nat → Nat) (most : Int) (w : World) (h : RS w R n x) (hk : lnK x n ≠ 0) (h0 : 0 ≤ lnV x n) (hm : lnV x n ≤ most) (hmx : most ≤ 9223372036854775807) :
    Calls Try.prog 38 #[.pointer (some ⟨R, 0, none⟩), .int .i64 most] w fun e w' => e = .returned (.int .i64 (lnV x n)) ∧ RS w' R (n - lnK x n) (sh (lnK x n) x) ∧ w.grownBy w' (some R) := by
  have HN := hid (num_ok R n x w h hk)
  clear h hk
  generalize lnV x n = V at *
  go_enter Try.func38, Try.ntmps38
  go_wp2_with (go_at_call 17; refine HN.out.mono ?_; rintro e w1 ⟨rfl, r1, g1⟩; have H1 := hid r1; clear r1)
  go_ret
  exact ⟨rfl, H1.out, g1⟩
set_option maxHeartbeats 400000 in
theorem count_no (R n : Nat) (x : Nat → Nat) (most : Int) (w : World) (h : RS w R n x) (hk : lnK x n = 0 ∨ lnV x n < 0 ∨ most < lnV x n) :
    Calls Try.prog 38 #[.pointer (some ⟨R, 0, none⟩), .int .i64 most] w fun e w' => e = .panicked (ended R) ∧ RF w' R 30 ∧ w.grownBy w' (some R) := by
  unfold ended
  by_cases hz : lnK x n = 0
  · have HN := hid (num_no R n x w h hz)
    clear h hk hz
    go_enter Try.func38, Try.ntmps38
    go_wp2_with (go_at_call 17; refine HN.out.mono ?_; rintro e w1 ⟨rfl, r1, g1⟩; have H1 := hid r1; clear r1)
    exact ⟨rfl, rfl, H1.out, g1⟩
  · have HN := hid (num_ok R n x w h hz)
    have HF := hid (fun (W : World) (hW : RS W R (n - lnK x n) (sh (lnK x n) x)) => by obtain ⟨v, hr, _⟩ := hW; exact fail_any R v 30 W hr 30 rfl)
    clear h
    have hV : lnV x n < 0 ∨ most < lnV x n := by rcases hk with h | h; exact absurd h hz; exact h
    clear hk hz
    generalize lnV x n = V at *
    by_cases h0 : V < 0
    · go_enter Try.func38, Try.ntmps38
      go_wp2_with (first | (go_at_call 17; refine HN.out.mono ?_; rintro e w1 ⟨rfl, r1, g1⟩; have H1 := hid r1; clear r1) | (go_at_call 21; refine (HF.out _ H1.out).mono ?_; rintro e w' ⟨rfl, rfl⟩))
      exact ⟨rfl, rfl, H1.out.fail 30, by_trans g1 (by_trans (by_set _ _ _ _) (by_set _ _ _ _))⟩
    · have h1 : most < V := by omega
      have h2 : 0 ≤ V := by omega
      clear hV h0
      go_enter Try.func38, Try.ntmps38
      go_wp2_with (first | (go_at_call 17; refine HN.out.mono ?_; rintro e w1 ⟨rfl, r1, g1⟩; have H1 := hid r1; clear r1) | (go_at_call 21; refine (HF.out _ H1.out).mono ?_; rintro e w' ⟨rfl, rfl⟩))
      exact ⟨rfl, rfl, H1.out.fail 30, by_trans g1 (by_trans (by_set _ _ _ _) (by_set _ _ _ _))⟩
end Go.Proofs.Ytpofccnifecpfaa
