/- What a Reader's methods do: Fail, pass, Num, Count, close; condition: the Reader lies in memory, alive. -/
import Derived.Test.YtgpfmohaogppiaaFl
import Derived.Test.YtgpfmohaogppiaaPkA
import Derived.Laws.Pointers
import Derived.Defers
import Derived.Recover
import Derived.Lib.Builder
namespace Go.Proofs.Ytgpfmohaogppiaa.Pk
set_option maxRecDepth 20000
open Go.RowKit
set_option linter.unusedVariables false
/-- A Reader lies at the block R: what is left, its error, whether it lives. -/
def Rd (w : World) (R : Nat) (rest : Value) (code : Int) (live : Bool) : Prop := w.heap[R]? = some (.cells #[rest, .int .i64 code, .bool live] 99 (0, 0))
theorem Rd.c0 {w : World} {R : Nat} {rest : Value} {code : Int} {live : Bool} (h : Rd w R rest code live) : w.cell? ⟨R, 0, none⟩ = some rest := by unfold Rd at h; simp [World.cell?, h]
theorem Rd.c1 {w : World} {R : Nat} {rest : Value} {code : Int} {live : Bool} (h : Rd w R rest code live) : w.cell? ⟨R, 1, none⟩ = some (.int .i64 code) := by unfold Rd at h; simp [World.cell?, h]
theorem Rd.c2 {w : World} {R : Nat} {rest : Value} {code : Int} {live : Bool} (h : Rd w R rest code live) : w.cell? ⟨R, 2, none⟩ = some (.bool live) := by unfold Rd at h; simp [World.cell?, h]
theorem Rd.fr {w : World} {R : Nat} {rest : Value} {code : Int} {live : Bool} (h : Rd w R rest code live) (j : Nat) : w.frozen? ⟨R, j, none⟩ = false := by unfold Rd at h; simp [World.frozen?, h]
theorem Rd.s0 {w : World} {R : Nat} {rest : Value} {code : Int} {live : Bool} (h : Rd w R rest code live) (v : Value) : Rd (w.setCell ⟨R, 0, none⟩ v) R v code live := by
  have := heap_setCell_same w R 0 _ _ v h; exact this
theorem Rd.s1 {w : World} {R : Nat} {rest : Value} {code : Int} {live : Bool} (h : Rd w R rest code live) (c : Int) : Rd (w.setCell ⟨R, 1, none⟩ (.int .i64 c)) R rest c live := by
  have := heap_setCell_same w R 1 _ _ (.int .i64 c) h; exact this
set_option maxHeartbeats 400000 in
set_option maxRecDepth 20000 in
theorem fail_any (R : Nat) (rest : Value) (e : Int) (w : World) (h : Rd w R rest 0 true) (E : Int) (hE : E = if e = 0 then 30 else e) :
    Calls Try.prog 58 #[.pointer (some ⟨R, 0, none⟩), .int .i64 e] w fun en w' => en = .panicked [{ v := .iface 102 (.agg #[.pointer (some ⟨R, 0, none⟩)]), recovered := false }] ∧ w' = (w.setCell ⟨R, 1, none⟩ (.int .i64 E)).setCell ⟨R, 0, none⟩ (.slice none 0 0) := by
  have c0 := h.c0
  have c1 := h.c1
  have c2 := h.c2
  have f0 := h.fr 0
  have f1 := h.fr 1
  have d0 := (h.s1 E).c0
  have g0 := (h.s1 E).fr 0
  clear h
  by_cases he : e = 0
  · subst he
    rw [if_pos rfl] at hE
    subst hE
    go_enter Try.func58, Try.ntmps58
    go_wp2
    exact ⟨rfl, rfl, rfl⟩
  · rw [if_neg he] at hE
    subst hE
    have t0 : (E == 0) = false := by rw [beq_eq_false_iff_ne]; exact he
    go_enter Try.func58, Try.ntmps58
    go_wp2
    exact ⟨rfl, rfl, rfl⟩
/-- A row from its k-th byte on. -/
def sh (k : Nat) (x : Nat → Nat) : Nat → Nat := fun i => x (k + i)
def cutv (b off n cap k : Nat) : Value := .slice (some ⟨b, if cap = k then off else off + k, none⟩) (n - k) (cap - k)
set_option maxHeartbeats 400000 in
set_option maxRecDepth 20000 in
theorem pass_some (R b off n cap k : Nat) (hk : 0 < k) (hkn : k ≤ n) (hnc : n ≤ cap) (hm : cap ≤ maxLen) (w : World) (h : Rd w R (.slice (some ⟨b, off, none⟩) n cap) 0 true) :
    Calls Try.prog 75 #[.pointer (some ⟨R, 0, none⟩), .int .i64 (k : Int)] w fun e w' => e = .returned (.tuple #[]) ∧ w' = w.setCell ⟨R, 0, none⟩ (cutv b off n cap k) := by
  have c0 := h.c0
  have f0 := h.fr 0
  have HV : Hid (cutv b off n cap k = .slice (some ⟨b, if cap = k then off else off + k, none⟩) (n - k) (cap - k)) := rfl
  generalize cutv b off n cap k = V at *
  clear h
  unfold maxLen at hm
  by_cases hc : cap = k
  · subst hc
    rw [if_pos rfl] at HV
    have hn : n = cap := by omega
    subst hn
    go_enter Try.func75, Try.ntmps75
    go_wp2
    go_end0
    exact ⟨rfl, by rw [HV.out] <;> simp⟩
  · rw [if_neg hc] at HV
    go_enter Try.func75, Try.ntmps75
    go_wp2
    go_end0
    exact ⟨rfl, by rw [HV.out] <;> simp⟩
set_option maxHeartbeats 400000 in
set_option maxRecDepth 20000 in
theorem pass_zero (R : Nat) (rest : Value) (w : World) (h : Rd w R rest 0 true) :
    Calls Try.prog 75 #[.pointer (some ⟨R, 0, none⟩), .int .i64 0] w fun en w' => en = .panicked [{ v := .iface 102 (.agg #[.pointer (some ⟨R, 0, none⟩)]), recovered := false }] ∧ w' = (w.setCell ⟨R, 1, none⟩ (.int .i64 30)).setCell ⟨R, 0, none⟩ (.slice none 0 0) := by
  have hf := hid (fail_any R rest 30 w h 30 rfl)
  clear h
  go_enter Try.func75, Try.ntmps75
  go_wp2_with (go_at_call 58; refine hf.out.mono ?_; rintro e w' ⟨rfl, rfl⟩)
  exact ⟨rfl, rfl, rfl⟩
/-- The world behind a close. -/
def shut (w : World) (R : Nat) : World := ((w.setCell ⟨R, 0, none⟩ (.slice none 0 0)).setCell ⟨R, 1, none⟩ (.int .i64 0)).setCell ⟨R, 2, none⟩ (.bool false)
set_option maxHeartbeats 400000 in
set_option maxRecDepth 20000 in
theorem close_code (R : Nat) (rest : Value) (c : Int) (l : Bool) (hc : c ≠ 0) (w : World) (h : Rd w R rest c l) :
    Calls Try.prog 62 #[.pointer (some ⟨R, 0, none⟩)] w fun e w' => e = .returned (.int .i64 c) ∧ w' = shut w R := by
  have c0 := h.c0
  have c1 := h.c1
  have c2 := h.c2
  have f0 := h.fr 0
  have f1 := h.fr 1
  have f2 := h.fr 2
  clear h
  have t0 : (c == 0) = false := by rw [beq_eq_false_iff_ne]; exact hc
  go_enter Try.func62, Try.ntmps62
  go_wp2
  go_ret
  exact ⟨rfl, rfl⟩
set_option maxHeartbeats 400000 in
set_option maxRecDepth 20000 in
theorem close_ok (R : Nat) (a : Option Addr) (n cap : Nat) (l : Bool) (F : Int) (hF : F = if 0 < n then 30 else 0) (w : World) (h : Rd w R (.slice a n cap) 0 l) :
    Calls Try.prog 62 #[.pointer (some ⟨R, 0, none⟩)] w fun e w' => e = .returned (.int .i64 F) ∧ w' = shut w R := by
  have c0 := h.c0
  have c1 := h.c1
  have c2 := h.c2
  have f0 := h.fr 0
  have f1 := h.fr 1
  have f2 := h.fr 2
  clear h
  by_cases hn : n = 0
  · subst hn
    rw [if_neg (by omega)] at hF
    subst hF
    go_enter Try.func62, Try.ntmps62
    go_wp2
    go_ret
    exact ⟨rfl, rfl⟩
  · rw [if_pos (by omega)] at hF
    subst hF
    have hp : 0 < n := by omega
    go_enter Try.func62, Try.ntmps62
    go_wp2
    go_ret
    exact ⟨rfl, rfl⟩
theorem slice_row {w : World} {b off n cap : Nat} {x : Nat → Nat} (hc : ∀ i, i < n → x i < 256 ∧ w.cell? ⟨b, off + i, none⟩ = some (.int .u8 (x i : Int))) (hm : cap ≤ maxLen) (lo m c : Nat) (hm0 : 0 < m) (hn : lo + m ≤ n) (hc2 : m ≤ c) (hcm : c ≤ cap) :
    ByRow w (.slice (some ⟨b, off + lo, none⟩) m c) m (sh lo x) :=
  .inr ⟨hm0, by omega, b, off + lo, c, rfl, fun i hi' => by have := hc (lo + i) (by omega); rw [show off + lo + i = off + (lo + i) by omega]; exact this, hc2, by omega⟩
/-- A Reader at R that lives, without an error, with these bytes left. -/
def RS (w : World) (R n : Nat) (x : Nat → Nat) : Prop := ∃ v, Rd w R v 0 true ∧ ByRow w v n x ∧ (n = 0 ∨ v.ownBlock ≠ some R)
/-- A Reader at R that has failed. -/
def RF (w : World) (R : Nat) (c : Int) : Prop := Rd w R (.slice none 0 0) c true
theorem by_set (w : World) (R j : Nat) (v : Value) : w.grownBy (w.setCell ⟨R, j, none⟩ v) (some R) := ⟨rfl, rfl, rfl, by simp, fun k _ hk => heap_setCell_other w ⟨R, j, none⟩ k v (fun e => hk (by simp [e]))⟩
theorem by_trans {a b c : World} {r : Option Nat} (h : a.grownBy b r) (k : b.grownBy c r) : a.grownBy c r :=
  ⟨k.os.trans h.os, k.tape.trans h.tape, k.output.trans h.output, Nat.le_trans h.size k.size, fun i hi hne => (k.block i (Nat.lt_of_lt_of_le hi h.size) hne).trans (h.block i hi hne)⟩
theorem RS.cut {w : World} {R b off n cap : Nat} {x : Nat → Nat} (h : Rd w R (.slice (some ⟨b, off, none⟩) n cap) 0 true) (hr : ByRow w (.slice (some ⟨b, off, none⟩) n cap) n x) (hne : n = 0 ∨ b ≠ R) (k : Nat) (hk : k ≤ n) : RS (w.setCell ⟨R, 0, none⟩ (cutv b off n cap k)) R (n - k) (sh k x) := by
  refine ⟨_, h.s0 _, ?_, ?_⟩
  · by_cases hz : n - k = 0
    · rw [hz]; unfold cutv; rw [hz]; exact .inl ⟨rfl, _, _, rfl, fun h => by cases h⟩
    · obtain ⟨b', off', cap', hv, hc, hcp, hm⟩ := hr.cells (by omega)
      cases hv
      unfold cutv
      rw [if_neg (by omega)]
      refine (slice_row hc hm k (n - k) (cap - k) (by omega) (by omega) (by omega) (by omega)).grown (by_set w R 0 _) (.inr ?_)
      simp [Value.ownBlock]; rcases hne with h | h <;> omega
  · rcases hne with h | h
    · exact .inl (by omega)
    · right; simp [cutv, Value.ownBlock]; exact h
set_option maxHeartbeats 400000 in
set_option maxRecDepth 20000 in
theorem num_ok (R n : Nat) (x : Nat → Nat) (w : World) (h : RS w R n x) (hk : lnK x n ≠ 0) :
    Calls Try.prog 69 #[.pointer (some ⟨R, 0, none⟩)] w fun e w' => e = .returned (.int .i64 (lnV x n)) ∧ RS w' R (n - lnK x n) (sh (lnK x n) x) ∧ w.grownBy w' (some R) := by
  obtain ⟨v, hr, hv, hne⟩ := h
  have hkn : lnK x n ≤ n := ln_le x n 11 0
  obtain ⟨b, off, cap, rfl, hc, hcp, hm⟩ := hv.cells (by omega)
  have c0 := hr.c0
  have HL := hid (leadingNum_any _ n x w hv)
  have HP := hid (pass_some R b off n cap (lnK x n) (by omega) hkn hcp hm w hr)
  have HR := hid (RS.cut hr hv (by rcases hne with h | h; exact .inl h; exact .inr (by simpa [Value.ownBlock] using h)) (lnK x n) hkn)
  clear hr hv hc hne
  generalize lnV x n = V at *
  generalize lnK x n = K at *
  go_enter Try.func69, Try.ntmps69
  go_wp2_with (first | (go_at_call 74; refine HL.out.mono ?_; rintro e w' ⟨rfl, hw⟩; have hw2 := hw.symm; subst hw2) | (go_at_call 75; refine HP.out.mono ?_; rintro e w' ⟨rfl, rfl⟩))
  go_ret
  exact ⟨rfl, HR.out, by_set _ _ _ _⟩
set_option maxHeartbeats 400000 in
set_option maxRecDepth 20000 in
theorem num_no (R n : Nat) (x : Nat → Nat) (w : World) (h : RS w R n x) (hk : lnK x n = 0) :
    Calls Try.prog 69 #[.pointer (some ⟨R, 0, none⟩)] w fun e w' => e = .panicked [{ v := .iface 102 (.agg #[.pointer (some ⟨R, 0, none⟩)]), recovered := false }] ∧ RF w' R 30 ∧ w.grownBy w' (some R) := by
  obtain ⟨v, hr, hv, hne⟩ := h
  have c0 := hr.c0
  have HL := hid (leadingNum_any _ n x w hv)
  rw [hk] at HL
  have HP := hid (pass_zero R v w hr)
  have HR := hid ((hr.s1 30).s0 (.slice none 0 0))
  clear hr hv hne hk
  generalize lnV x n = V at *
  go_enter Try.func69, Try.ntmps69
  go_wp2_with (first | (go_at_call 74; refine HL.out.mono ?_; rintro e w' ⟨rfl, hw⟩; have hw2 := hw.symm; subst hw2) | (go_at_call 75; refine HP.out.mono ?_; rintro e w' ⟨rfl, rfl⟩))
  exact ⟨rfl, rfl, HR.out, by_trans (by_set _ _ _ _) (by_set _ _ _ _)⟩
def ended (R : Nat) : List PanicEntry := [{ v := .iface 102 (.agg #[.pointer (some ⟨R, 0, none⟩)]), recovered := false }]
theorem RS.fail {w : World} {R n : Nat} {x : Nat → Nat} (h : RS w R n x) (c : Int) : RF ((w.setCell ⟨R, 1, none⟩ (.int .i64 c)).setCell ⟨R, 0, none⟩ (.slice none 0 0)) R c := by
  obtain ⟨v, hr, _⟩ := h
  exact (hr.s1 c).s0 _
set_option maxHeartbeats 400000 in
set_option maxRecDepth 20000 in
theorem count_ok (R n : Nat) (x : Nat → Nat) (most : Int) (w : World) (h : RS w R n x) (hk : lnK x n ≠ 0) (h0 : 0 ≤ lnV x n) (hm : lnV x n ≤ most) (hmx : most ≤ 9223372036854775807) :
    Calls Try.prog 63 #[.pointer (some ⟨R, 0, none⟩), .int .i64 most] w fun e w' => e = .returned (.int .i64 (lnV x n)) ∧ RS w' R (n - lnK x n) (sh (lnK x n) x) ∧ w.grownBy w' (some R) := by
  have HN := hid (num_ok R n x w h hk)
  clear h hk
  generalize lnV x n = V at *
  go_enter Try.func63, Try.ntmps63
  go_wp2_with (go_at_call 69; refine HN.out.mono ?_; rintro e w1 ⟨rfl, r1, g1⟩; have H1 := hid r1; clear r1)
  go_ret
  exact ⟨rfl, H1.out, g1⟩
set_option maxHeartbeats 400000 in
set_option maxRecDepth 20000 in
theorem count_no (R n : Nat) (x : Nat → Nat) (most : Int) (w : World) (h : RS w R n x) (hk : lnK x n = 0 ∨ lnV x n < 0 ∨ most < lnV x n) :
    Calls Try.prog 63 #[.pointer (some ⟨R, 0, none⟩), .int .i64 most] w fun e w' => e = .panicked (ended R) ∧ RF w' R 30 ∧ w.grownBy w' (some R) := by
  unfold ended
  by_cases hz : lnK x n = 0
  · have HN := hid (num_no R n x w h hz)
    clear h hk hz
    go_enter Try.func63, Try.ntmps63
    go_wp2_with (go_at_call 69; refine HN.out.mono ?_; rintro e w1 ⟨rfl, r1, g1⟩; have H1 := hid r1; clear r1)
    exact ⟨rfl, rfl, H1.out, g1⟩
  · have HN := hid (num_ok R n x w h hz)
    have HF := hid (fun (W : World) (hW : RS W R (n - lnK x n) (sh (lnK x n) x)) => by obtain ⟨v, hr, _⟩ := hW; exact fail_any R v 30 W hr 30 rfl)
    clear h
    have hV : lnV x n < 0 ∨ most < lnV x n := by rcases hk with h | h; exact absurd h hz; exact h
    clear hk hz
    generalize lnV x n = V at *
    by_cases h0 : V < 0
    · go_enter Try.func63, Try.ntmps63
      go_wp2_with (first | (go_at_call 69; refine HN.out.mono ?_; rintro e w1 ⟨rfl, r1, g1⟩; have H1 := hid r1; clear r1) | (go_at_call 58; refine (HF.out _ H1.out).mono ?_; rintro e w' ⟨rfl, rfl⟩))
      exact ⟨rfl, rfl, H1.out.fail 30, by_trans g1 (by_trans (by_set _ _ _ _) (by_set _ _ _ _))⟩
    · have h1 : most < V := by omega
      have h2 : 0 ≤ V := by omega
      clear hV h0
      go_enter Try.func63, Try.ntmps63
      go_wp2_with (first | (go_at_call 69; refine HN.out.mono ?_; rintro e w1 ⟨rfl, r1, g1⟩; have H1 := hid r1; clear r1) | (go_at_call 58; refine (HF.out _ H1.out).mono ?_; rintro e w' ⟨rfl, rfl⟩))
      exact ⟨rfl, rfl, H1.out.fail 30, by_trans g1 (by_trans (by_set _ _ _ _) (by_set _ _ _ _))⟩
end Go.Proofs.Ytgpfmohaogppiaa.Pk
namespace Go.Proofs.Ytgpfmohaogppiaa.Pk
set_option maxRecDepth 20000
open Go.RowKit
set_option linter.unusedVariables false
theorem infoReader : (Try.prog.info? 99).isSome = true := by kernel_rfl
/-- Old memory is as it was, but for the blocks of S. -/
structure Chg (S : List Nat) (w w' : World) : Prop where
  os : w'.os = w.os
  tape : w'.tape = w.tape
  output : w'.output = w.output
  size : w.heap.size ≤ w'.heap.size
  block : ∀ k, k < w.heap.size → k ∉ S → w'.heap[k]? = w.heap[k]?
theorem Chg.refl (S : List Nat) (w : World) : Chg S w w := ⟨rfl, rfl, rfl, Nat.le_refl _, fun _ _ _ => rfl⟩
theorem Chg.trans {S : List Nat} {a b c : World} (h : Chg S a b) (k : Chg S b c) : Chg S a c :=
  ⟨k.os.trans h.os, k.tape.trans h.tape, k.output.trans h.output, Nat.le_trans h.size k.size, fun i hi hn => (k.block i (Nat.lt_of_lt_of_le hi h.size) hn).trans (h.block i hi hn)⟩
theorem Chg.mono {S T : List Nat} {a b : World} (h : Chg S a b) (hs : ∀ k, k ∈ S → k ∈ T) : Chg T a b := ⟨h.os, h.tape, h.output, h.size, fun i hi hn => h.block i hi (fun e => hn (hs i e))⟩
theorem Chg.of_by {R : Nat} {a b : World} (h : a.grownBy b (some R)) (S : List Nat) (hs : R ∈ S) : Chg S a b := ⟨h.os, h.tape, h.output, h.size, fun i hi hn => h.block i hi (fun e => hn (by cases e; exact hs))⟩
theorem Chg.set {S : List Nat} (w : World) (p : Addr) (v : Value) (hs : p.block ∈ S) : Chg S w (w.setCell p v) :=
  ⟨rfl, rfl, rfl, by simp, fun i hi hn => Below.heap_setCell w p v i (fun e => hn (by rw [e]; exact hs))⟩
theorem Chg.below {S : List Nat} {a b : World} (h : Chg S a b) (B : Nat) (hB : ∀ k, k ∈ S → B ≤ k) (hs : B ≤ a.heap.size) : Below B a b :=
  ⟨h.os, h.tape, h.output, h.size, fun k hk => h.block k (Nat.lt_of_lt_of_le hk hs) (fun e => by have := hB k e; omega)⟩
theorem tmps45 (A B : Value) : (#[A, B] : Array Value) ++ Array.replicate (Try.f61.ntmps - (#[A, B] : Array Value).size) undef = #[A, B, undef, undef, undef, undef, undef, undef, undef, undef, undef, undef, undef, undef, undef, undef, undef, undef, undef] := by rw [Try.ntmps61]; rfl
set_option maxHeartbeats 400000 in
set_option maxRecDepth 20000 in
theorem catch_idle (rv cv R : Nat) (a : Option Addr) (n cap : Nat) (F : Int) (hF : F = if 0 < n then 30 else 0) (k : Int) (w : World) (h : Rd w R (.slice a n cap) 0 true) (hr : w.cell? ⟨rv, 0, none⟩ = some (.pointer (some ⟨R, 0, none⟩))) (hc : (shut w R).cell? ⟨cv, 0, none⟩ = some (.int .i64 k)) (hf : (shut w R).frozen? ⟨cv, 0, none⟩ = false) :
    CallsD Try.prog 61 #[.pointer (some ⟨rv, 0, none⟩), .pointer (some ⟨cv, 0, none⟩)] .returning w fun e u' w' => e = .returned (.tuple #[]) ∧ u' = .returning ∧ w' = (shut w R).setCell ⟨cv, 0, none⟩ (.int .i64 F) := by
  have HC := hid (close_ok R a n cap true F hF w h)
  clear h hF
  refine callsD_of_wpS Try.func61 rfl fun c₀ cs hu => ?_
  rw [tmps45]
  apply wpS_seq
  refine wpS_of_wp ?_
  go_wp2_with (go_at_call 62; refine HC.out.mono ?_; rintro e w' ⟨rfl, rfl⟩)
  refine wpS_seq ?_
  apply wpS_region
  generalize hQ : Exit.thenS (Code.wpS Try.prog _ _) _ = QQ
  simp [wpOpsS, go_sem, recoverD, hu]
  subst hQ
  refine wpS_of_wp ?_
  go_wp2
  refine ⟨rfl, .returning, by cases c₀; simp_all, .tuple #[], by simp [results, Try.results61], rfl, rfl, rfl⟩
set_option maxHeartbeats 1000000 in
set_option maxRecDepth 20000 in
theorem catch_panic (rv cv R : Nat) (c : Int) (hz : c ≠ 0) (k : Int) (w : World) (h : RF w R c) (hr : (shut w R).cell? ⟨rv, 0, none⟩ = some (.pointer (some ⟨R, 0, none⟩))) (hr0 : w.cell? ⟨rv, 0, none⟩ = some (.pointer (some ⟨R, 0, none⟩))) (hc : (shut w R).cell? ⟨cv, 0, none⟩ = some (.int .i64 k)) (hf : (shut w R).frozen? ⟨cv, 0, none⟩ = false) (hne : rv ≠ cv) :
    CallsD Try.prog 61 #[.pointer (some ⟨rv, 0, none⟩), .pointer (some ⟨cv, 0, none⟩)] (.panicking (ended R)) w fun e u' w' => e = .returned (.tuple #[]) ∧ u' = .panicking [{ v := .iface 102 (.agg #[.pointer (some ⟨R, 0, none⟩)]), recovered := true }] ∧ w' = ((shut w R).setCell ⟨cv, 0, none⟩ (.int .i64 c)).alloc (.cells #[.pointer (some ⟨R, 0, none⟩)] 102) := by
  have HC := hid (close_code R _ c true hz w h)
  have hr2 : ((shut w R).setCell ⟨cv, 0, none⟩ (.int .i64 c)).cell? ⟨rv, 0, none⟩ = some (.pointer (some ⟨R, 0, none⟩)) := by rw [World.cell?_of_block (Below.heap_setCell _ _ _ _ hne)]; exact hr
  have hr3 : (((shut w R).setCell ⟨cv, 0, none⟩ (.int .i64 c)).alloc (.cells #[.pointer (some ⟨R, 0, none⟩)] 102)).cell? ⟨rv, 0, none⟩ = some (.pointer (some ⟨R, 0, none⟩)) := ((Up.refl _).alloc _).keep hr2
  obtain ⟨ji, hji⟩ := Option.isSome_iff_exists.mp infoReader
  have hpp := fun w => Lib.run_neq_ptr_same (P := Try.prog) (w := w) ⟨R, 0, none⟩ Try.underlying90 hji
  have hta : ∀ (v : Value) (w : World), (Instr.typeAssert (.iface 102 v) 20 102 true).run Try.prog w = .ok (.tuple #[v, .bool true]) w := fun _ _ => by kernel_rfl
  clear h hz
  unfold ended
  refine callsD_of_wpS Try.func61 rfl fun c₀ cs hu => ?_
  rw [tmps45]
  apply wpS_seq
  refine wpS_of_wp ?_
  go_wp2_with (go_at_call 62; refine HC.out.mono ?_; rintro e w' ⟨rfl, rfl⟩)
  refine wpS_seq ?_
  apply wpS_region
  generalize hQ : Exit.thenS (Code.wpS Try.prog _ _) _ = QQ
  simp [wpOpsS, go_sem, recoverD, hu]
  subst hQ
  refine wpS_of_wp ?_
  go_wp2
  exact ⟨rfl, _, rfl, .tuple #[], by simp [results, Try.results61], rfl, rfl, rfl⟩
/-- The world in which the function that reads begins. -/
def opened (w : World) (vb : Value) : World := ((w.alloc (.cells #[.int .i64 0] 34)).alloc (.cells #[vb, .int .i64 0, .bool true] 99)).alloc (.cells #[.pointer (some ⟨w.heap.size + 1, 0, none⟩)] 90)
theorem opened_size (w : World) (vb : Value) : (opened w vb).heap.size = w.heap.size + 3 := by simp [opened]
theorem opened_c (w : World) (vb : Value) : (opened w vb).heap[w.heap.size]? = some (.cells #[.int .i64 0] 34 (0, 0)) := by
  unfold opened
  rw [Below.heap_alloc _ _ _ (by simp; omega), Below.heap_alloc _ _ _ (by simp)]; exact heap_new _ _
theorem opened_R (w : World) (vb : Value) : (opened w vb).heap[w.heap.size + 1]? = some (.cells #[vb, .int .i64 0, .bool true] 99 (0, 0)) := by
  unfold opened
  rw [Below.heap_alloc _ _ _ (by simp)]
  have := heap_new (w.alloc (.cells #[.int .i64 0] 34)) (.cells #[vb, .int .i64 0, .bool true] 99)
  rw [show (w.alloc (.cells #[.int .i64 0] 34)).heap.size = w.heap.size + 1 by simp] at this
  exact this
theorem opened_r (w : World) (vb : Value) : (opened w vb).heap[w.heap.size + 1 + 1]? = some (.cells #[.pointer (some ⟨w.heap.size + 1, 0, none⟩)] 90 (0, 0)) := by
  unfold opened
  have := heap_new ((w.alloc (.cells #[.int .i64 0] 34)).alloc (.cells #[vb, .int .i64 0, .bool true] 99)) (.cells #[.pointer (some ⟨w.heap.size + 1, 0, none⟩)] 90)
  rw [show ((w.alloc (.cells #[.int .i64 0] 34)).alloc (.cells #[vb, .int .i64 0, .bool true] 99)).heap.size = w.heap.size + 1 + 1 by simp] at this
  exact this
theorem opened_up (w : World) (vb : Value) : Up w (opened w vb) := (((Up.refl w).alloc _).alloc _).alloc _
theorem shut_other (w : World) (R k : Nat) (h : k ≠ R) : (shut w R).heap[k]? = w.heap[k]? := by
  unfold shut
  rw [Below.heap_setCell _ _ _ _ h, Below.heap_setCell _ _ _ _ h, Below.heap_setCell _ _ _ _ h]
theorem shut_below (w : World) (R B : Nat) (h : B ≤ R) : Below B w (shut w R) :=
  (((Below.refl B w).setCell h _).setCell h _).setCell h _
theorem Chg.alloc {S : List Nat} (w : World) (o : Obj) : Chg S w (w.alloc o) := ⟨rfl, rfl, rfl, by simp, fun k hk _ => Below.heap_alloc w o k hk⟩
theorem shut_chg (w : World) (R : Nat) (S : List Nat) (h : R ∈ S) : Chg S w (shut w R) := ((Chg.set w ⟨R, 0, none⟩ _ h).trans (Chg.set _ ⟨R, 1, none⟩ _ h)).trans (Chg.set _ ⟨R, 2, none⟩ _ h)
set_option maxHeartbeats 1000000 in
set_option maxRecDepth 20000 in
theorem read_any2 (F : FuncId) (caps : Array Value) (henter : ∀ args w, (callFunc F args).run Try.prog w = .ok (.enter F args) w) (w : World) (a0 : Option Addr) (n0 c0 : Nat) (OK : World → Nat → Prop) (NO : World → Int → Prop)
    (hf : Calls Try.prog F (#[.pointer (some ⟨w.heap.size + 1, 0, none⟩)] ++ caps) (opened w (.slice a0 n0 c0)) fun e W2 => (W2.heap[w.heap.size]? = (opened w (.slice a0 n0 c0)).heap[w.heap.size]? ∧ W2.heap[w.heap.size + 1 + 1]? = (opened w (.slice a0 n0 c0)).heap[w.heap.size + 1 + 1]?) ∧
      ((e = .returned (.tuple #[]) ∧ ∃ a n cap, Rd W2 (w.heap.size + 1) (.slice a n cap) 0 true ∧ OK W2 n) ∨ (e = .panicked (ended (w.heap.size + 1)) ∧ ∃ cd, cd ≠ 0 ∧ RF W2 (w.heap.size + 1) cd ∧ NO W2 cd))) :
    Calls Try.prog 54 #[.slice a0 n0 c0, .func (.func F) #[] caps] w fun e W4 => ∃ W2, Chg [w.heap.size, w.heap.size + 1] W2 W4 ∧ ((∃ n, OK W2 n ∧ e = .returned (.int .i64 (if 0 < n then 30 else 0))) ∨ (∃ cd, NO W2 cd ∧ e = .returned (.int .i64 cd))) := by
  have hmf : ∀ (fn : Fn) (first cap : Array Value) (w : World), (Instr.makeFunc fn first cap).run Try.prog w = .ok (.func fn first cap) w := fun _ _ _ _ => rfl
  have hfn : ∀ w, (binOp .neq 94 (.func (.func F) #[] caps) .nilFunc).run Try.prog w = .ok (.bool true) w := fun _ => by kernel_rfl
  have HF := hid hf
  clear hf
  go_enter_defers Try.func54, Try.ntmps54
  go_wp2_with (fail)
  refine HF.out.mono ?_
  rintro e W2 ⟨⟨hb0, hb2⟩, hcase⟩
  rw [opened_c] at hb0
  rw [opened_r] at hb2
  have s0 : (shut W2 (w.heap.size + 1)).heap[w.heap.size]? = some (.cells #[.int .i64 0] 34 (0, 0)) := by rw [shut_other _ _ _ (by omega)]; exact hb0
  have s2 : (shut W2 (w.heap.size + 1)).heap[w.heap.size + 1 + 1]? = some (.cells #[.pointer (some ⟨w.heap.size + 1, 0, none⟩)] 90 (0, 0)) := by rw [shut_other _ _ _ (by omega)]; exact hb2
  have hs1 := fun (F : Int) => cell_of_one (one_setCell (u := .int .i64 F) s0)
  rcases hcase with ⟨rfl, a, n, cap, hr, hok⟩ | ⟨rfl, cd, hcd, hr, hno⟩
  · have HR := hid hr
    have H0 := hid s0
    have H1 := hid hs1
    have HB := hid hb2
    have HO := hid hok
    clear hr s0 s2 hs1 hb0 hb2 hok HF henter
    go_wp2
    refine leaves_cons (f := 61) (args := #[.pointer (some ⟨w.heap.size + 1 + 1, 0, none⟩), .pointer (some ⟨w.heap.size, 0, none⟩)]) (by simp) (by simp [go_sem]) ?_
    refine (catch_idle (w.heap.size + 1 + 1) w.heap.size (w.heap.size + 1) a n cap _ rfl 0 W2 HR.out (cell_of_one HB.out) (cell_of_one H0.out) (free_of_one H0.out)).mono ?_
    rintro e u' w'' ⟨rfl, rfl, rfl⟩
    have h1 := H1.out (if 0 < n then 30 else 0)
    simp [Leaves, settle, results, Try.results54, go_sem, h1]
    exact ⟨W2, (shut_chg W2 (w.heap.size + 1) _ (by simp)).trans (Chg.set _ _ _ (by simp)), .inl ⟨n, HO.out, rfl⟩⟩
  · have HR := hid hr
    have H0 := hid s0
    have H2 := hid s2
    have H1 := hid hs1
    have HB := hid hb2
    have HO := hid hno
    have HD := hid hcd
    clear hr s0 s2 hs1 hb0 hb2 hno HF henter hcd
    unfold ended
    go_wp2
    refine leaves_cons (f := 61) (args := #[.pointer (some ⟨w.heap.size + 1 + 1, 0, none⟩), .pointer (some ⟨w.heap.size, 0, none⟩)]) (by simp) (by simp [go_sem]) ?_
    refine (catch_panic (w.heap.size + 1 + 1) w.heap.size (w.heap.size + 1) cd HD.out 0 W2 HR.out (cell_of_one H2.out) (cell_of_one HB.out) (cell_of_one H0.out) (free_of_one H0.out) (by omega)).mono ?_
    rintro e u' w'' ⟨rfl, rfl, rfl⟩
    have h1 : (((shut W2 (w.heap.size + 1)).setCell ⟨w.heap.size, 0, none⟩ (.int .i64 cd)).alloc (.cells #[.pointer (some ⟨w.heap.size + 1, 0, none⟩)] 102)).cell? ⟨w.heap.size, 0, none⟩ = some (.int .i64 cd) := ((Up.refl _).alloc _).keep (H1.out cd)
    have hsz : w.heap.size ≤ (shut W2 (w.heap.size + 1)).heap.size := by have := lt_of_block H0.out; omega
    simp [Leaves, settle, results, Try.results54, go_sem, h1]
    exact ⟨W2, ((shut_chg W2 (w.heap.size + 1) _ (by simp)).trans (Chg.set _ _ _ (by simp))).trans (Chg.alloc _ _), .inr HO.out⟩
set_option maxHeartbeats 1000000 in
set_option maxRecDepth 20000 in
theorem read_any (F : FuncId) (caps : Array Value) (henter : ∀ args w, (callFunc F args).run Try.prog w = .ok (.enter F args) w) (w : World) (a0 : Option Addr) (n0 c0 : Nat) (OK : World → Nat → Prop) (NO : World → Int → Prop)
    (hf : Calls Try.prog F (#[.pointer (some ⟨w.heap.size + 1, 0, none⟩)] ++ caps) (opened w (.slice a0 n0 c0)) fun e W2 => (W2.heap[w.heap.size]? = (opened w (.slice a0 n0 c0)).heap[w.heap.size]? ∧ W2.heap[w.heap.size + 1 + 1]? = (opened w (.slice a0 n0 c0)).heap[w.heap.size + 1 + 1]?) ∧
      ((e = .returned (.tuple #[]) ∧ ∃ a n cap, Rd W2 (w.heap.size + 1) (.slice a n cap) 0 true ∧ OK W2 n) ∨ (e = .panicked (ended (w.heap.size + 1)) ∧ ∃ cd, cd ≠ 0 ∧ RF W2 (w.heap.size + 1) cd ∧ NO W2 cd))) :
    Calls Try.prog 54 #[.slice a0 n0 c0, .func (.func F) #[] caps] w fun e W4 => ∃ W2, Below w.heap.size W2 W4 ∧ ((∃ n, OK W2 n ∧ e = .returned (.int .i64 (if 0 < n then 30 else 0))) ∨ (∃ cd, NO W2 cd ∧ e = .returned (.int .i64 cd))) := by
  have hmf : ∀ (fn : Fn) (first cap : Array Value) (w : World), (Instr.makeFunc fn first cap).run Try.prog w = .ok (.func fn first cap) w := fun _ _ _ _ => rfl
  have hfn : ∀ w, (binOp .neq 94 (.func (.func F) #[] caps) .nilFunc).run Try.prog w = .ok (.bool true) w := fun _ => by kernel_rfl
  have HF := hid hf
  clear hf
  go_enter_defers Try.func54, Try.ntmps54
  go_wp2_with (fail)
  refine HF.out.mono ?_
  rintro e W2 ⟨⟨hb0, hb2⟩, hcase⟩
  rw [opened_c] at hb0
  rw [opened_r] at hb2
  have s0 : (shut W2 (w.heap.size + 1)).heap[w.heap.size]? = some (.cells #[.int .i64 0] 34 (0, 0)) := by rw [shut_other _ _ _ (by omega)]; exact hb0
  have s2 : (shut W2 (w.heap.size + 1)).heap[w.heap.size + 1 + 1]? = some (.cells #[.pointer (some ⟨w.heap.size + 1, 0, none⟩)] 90 (0, 0)) := by rw [shut_other _ _ _ (by omega)]; exact hb2
  have hs1 := fun (F : Int) => cell_of_one (one_setCell (u := .int .i64 F) s0)
  rcases hcase with ⟨rfl, a, n, cap, hr, hok⟩ | ⟨rfl, cd, hcd, hr, hno⟩
  · have HR := hid hr
    have H0 := hid s0
    have H1 := hid hs1
    have HB := hid hb2
    have HO := hid hok
    clear hr s0 s2 hs1 hb0 hb2 hok HF henter
    go_wp2
    refine leaves_cons (f := 61) (args := #[.pointer (some ⟨w.heap.size + 1 + 1, 0, none⟩), .pointer (some ⟨w.heap.size, 0, none⟩)]) (by simp) (by simp [go_sem]) ?_
    refine (catch_idle (w.heap.size + 1 + 1) w.heap.size (w.heap.size + 1) a n cap _ rfl 0 W2 HR.out (cell_of_one HB.out) (cell_of_one H0.out) (free_of_one H0.out)).mono ?_
    rintro e u' w'' ⟨rfl, rfl, rfl⟩
    have h1 := H1.out (if 0 < n then 30 else 0)
    simp [Leaves, settle, results, Try.results54, go_sem, h1]
    exact ⟨W2, (shut_below W2 (w.heap.size + 1) w.heap.size (by omega)).setCell (Nat.le_refl w.heap.size) _, .inl ⟨n, HO.out, rfl⟩⟩
  · have HR := hid hr
    have H0 := hid s0
    have H2 := hid s2
    have H1 := hid hs1
    have HB := hid hb2
    have HO := hid hno
    have HD := hid hcd
    clear hr s0 s2 hs1 hb0 hb2 hno HF henter hcd
    unfold ended
    go_wp2
    refine leaves_cons (f := 61) (args := #[.pointer (some ⟨w.heap.size + 1 + 1, 0, none⟩), .pointer (some ⟨w.heap.size, 0, none⟩)]) (by simp) (by simp [go_sem]) ?_
    refine (catch_panic (w.heap.size + 1 + 1) w.heap.size (w.heap.size + 1) cd HD.out 0 W2 HR.out (cell_of_one H2.out) (cell_of_one HB.out) (cell_of_one H0.out) (free_of_one H0.out) (by omega)).mono ?_
    rintro e u' w'' ⟨rfl, rfl, rfl⟩
    have h1 : (((shut W2 (w.heap.size + 1)).setCell ⟨w.heap.size, 0, none⟩ (.int .i64 cd)).alloc (.cells #[.pointer (some ⟨w.heap.size + 1, 0, none⟩)] 102)).cell? ⟨w.heap.size, 0, none⟩ = some (.int .i64 cd) := ((Up.refl _).alloc _).keep (H1.out cd)
    have hsz : w.heap.size ≤ (shut W2 (w.heap.size + 1)).heap.size := by have := lt_of_block H0.out; omega
    simp [Leaves, settle, results, Try.results54, go_sem, h1]
    exact ⟨W2, ((shut_below W2 (w.heap.size + 1) w.heap.size (by omega)).setCell (Nat.le_refl w.heap.size) _).alloc (by simpa using hsz) _, .inr HO.out⟩
end Go.Proofs.Ytgpfmohaogppiaa.Pk
namespace Go.Proofs.Ytgpfmohaogppiaa.Pk
set_option maxRecDepth 20000
open Go.RowKit
set_option linter.unusedVariables false
/-- A variable of one number. -/
def Var (w : World) (b : Nat) (t : TypeId) (z : Int) : Prop := w.heap[b]? = some (.cells #[.int .i64 z] t (0, 0))
theorem Var.cell {w : World} {b : Nat} {t : TypeId} {z : Int} (h : Var w b t z) : w.cell? ⟨b, 0, none⟩ = some (.int .i64 z) := cell_of_one h
theorem Var.free {w : World} {b : Nat} {t : TypeId} {z : Int} (h : Var w b t z) : w.frozen? ⟨b, 0, none⟩ = false := free_of_one h
theorem Var.lt {w : World} {b : Nat} {t : TypeId} {z : Int} (h : Var w b t z) : b < w.heap.size := lt_of_block h
theorem Var.put {w : World} {b : Nat} {t : TypeId} {z : Int} (h : Var w b t z) (y : Int) : Var (w.setCell ⟨b, 0, none⟩ (.int .i64 y)) b t y := one_setCell h
theorem Var.chg {S : List Nat} {w w' : World} {b : Nat} {t : TypeId} {z : Int} (h : Var w b t z) (c : Chg S w w') (hn : b ∉ S) : Var w' b t z := (c.block b h.lt hn).trans h
theorem Var.set {w : World} {b : Nat} {t : TypeId} {z : Int} (h : Var w b t z) (p : Addr) (v : Value) (hn : b ≠ p.block) : Var (w.setCell p v) b t z := (Below.heap_setCell w p v b hn).trans h
theorem Var.up {w w' : World} {b : Nat} {t : TypeId} {z : Int} (h : Var w b t z) (u : Up w w') : Var w' b t z := (u.block b h.lt).trans h
theorem Rd.set {w : World} {R : Nat} {v : Value} {c : Int} {l : Bool} (h : Rd w R v c l) (p : Addr) (u : Value) (hn : R ≠ p.block) : Rd (w.setCell p u) R v c l := (Below.heap_setCell w p u R hn).trans h
theorem RS.opened {w : World} {a : Option Addr} {n c : Nat} {x : Nat → Nat} (h : ByRow w (.slice a n c) n x) : RS (opened w (.slice a n c)) (w.heap.size + 1) n x := by
  refine ⟨_, opened_R w _, h.up (opened_up w _), ?_⟩
  rcases h with ⟨rfl, _⟩ | ⟨_, _, b, off, cap, hv, hc, _⟩
  · exact .inl rfl
  · right
    rw [hv]
    have := World.block_lt_of_cell? w _ (hc 0 (by omega)).2
    simp [Value.ownBlock] at this ⊢; omega
theorem RS.rd {w : World} {R n : Nat} {x : Nat → Nat} (h : RS w R n x) : ∃ a c, Rd w R (.slice a n c) 0 true := by
  obtain ⟨v, hr, hv, _⟩ := h
  rcases hv with ⟨rfl, a, c, rfl, _⟩ | ⟨_, _, b, off, cap, rfl, _⟩
  · exact ⟨_, _, hr⟩
  · exact ⟨_, _, hr⟩
theorem enters (F : FuncId) (h : ∀ (args : Array Value) (w : World), (callFunc F args).run Try.prog w = .ok (.enter F args) w) : ∀ args w, (callFunc F args).run Try.prog w = .ok (.enter F args) w := h
set_option maxHeartbeats 400000 in
set_option maxRecDepth 20000 in
/-- What a Read leaves, for its caller: S are the variables that the function may write. -/
theorem read_of (F : FuncId) (caps : Array Value) (henter : ∀ args w, (callFunc F args).run Try.prog w = .ok (.enter F args) w) (w : World) (a0 : Option Addr) (n0 c0 : Nat) (S : List Nat) (hS : ∀ k, k ∈ S → k < w.heap.size) (OK : World → Nat → Prop) (NO : World → Int → Prop)
    (hf : Calls Try.prog F (#[.pointer (some ⟨w.heap.size + 1, 0, none⟩)] ++ caps) (opened w (.slice a0 n0 c0)) fun e W2 => Chg ((w.heap.size + 1) :: S) (opened w (.slice a0 n0 c0)) W2 ∧
      ((e = .returned (.tuple #[]) ∧ ∃ n, (∃ a cap, Rd W2 (w.heap.size + 1) (.slice a n cap) 0 true) ∧ OK W2 n) ∨ (e = .panicked (ended (w.heap.size + 1)) ∧ ∃ cd, cd ≠ 0 ∧ RF W2 (w.heap.size + 1) cd ∧ NO W2 cd))) :
    Calls Try.prog 54 #[.slice a0 n0 c0, .func (.func F) #[] caps] w fun e W4 => Chg S w W4 ∧ ∃ W2, Below w.heap.size W2 W4 ∧ ((∃ n, OK W2 n ∧ e = .returned (.int .i64 (if 0 < n then 30 else 0))) ∨ (∃ cd, NO W2 cd ∧ e = .returned (.int .i64 cd))) := by
  refine (read_any F caps henter w a0 n0 c0 (fun W n => Chg ((w.heap.size + 1) :: S) (opened w (.slice a0 n0 c0)) W ∧ OK W n) (fun W cd => Chg ((w.heap.size + 1) :: S) (opened w (.slice a0 n0 c0)) W ∧ NO W cd) (hf.mono ?_)).mono ?_
  · rintro e W2 ⟨hc, hcase⟩
    have hsz := opened_size w (.slice a0 n0 c0)
    refine ⟨⟨hc.block _ (by omega) ?_, hc.block _ (by omega) ?_⟩, ?_⟩
    · intro h; simp at h; have := hS _ h; omega
    · intro h; simp at h; have := hS _ h; omega
    · rcases hcase with ⟨rfl, n, ⟨a, cap, hr⟩, hok⟩ | ⟨rfl, cd, hcd, hr, hno⟩
      · exact .inl ⟨rfl, a, n, cap, hr, hc, hok⟩
      · exact .inr ⟨rfl, cd, hcd, hr, hc, hno⟩
  · rintro e W4 ⟨W2, hb, hcase⟩
    have key : Chg ((w.heap.size + 1) :: S) (opened w (.slice a0 n0 c0)) W2 := by
      rcases hcase with ⟨n, ⟨hc, _⟩, _⟩ | ⟨cd, ⟨hc, _⟩, _⟩ <;> exact hc
    have up := opened_up w (.slice a0 n0 c0)
    refine ⟨⟨hb.os.trans (key.os.trans up.os), hb.tape.trans (key.tape.trans up.tape), hb.output.trans (key.output.trans up.output), Nat.le_trans up.size (Nat.le_trans key.size hb.size), fun k hk hn => ?_⟩, W2, hb, ?_⟩
    · refine (hb.block k hk).trans ((key.block k (by have := up.size; omega) ?_).trans (up.block k hk))
      intro h; simp at h; rcases h with h | h
      · omega
      · exact hn h
    · rcases hcase with ⟨n, ⟨_, hok⟩, he⟩ | ⟨cd, ⟨_, hno⟩, he⟩
      · exact .inl ⟨n, hok, he⟩
      · exact .inr ⟨cd, hno, he⟩
set_option maxHeartbeats 400000 in
set_option maxRecDepth 20000 in
/-- What a Read leaves, for its caller: S are the variables that the function may write. -/
theorem read_of2 (F : FuncId) (caps : Array Value) (henter : ∀ args w, (callFunc F args).run Try.prog w = .ok (.enter F args) w) (w : World) (a0 : Option Addr) (n0 c0 : Nat) (S : List Nat) (hS : ∀ k, k ∈ S → k < w.heap.size) (OK : World → Nat → Prop) (NO : World → Int → Prop)
    (hf : Calls Try.prog F (#[.pointer (some ⟨w.heap.size + 1, 0, none⟩)] ++ caps) (opened w (.slice a0 n0 c0)) fun e W2 => Chg ((w.heap.size + 1) :: S) (opened w (.slice a0 n0 c0)) W2 ∧
      ((e = .returned (.tuple #[]) ∧ ∃ n, (∃ a cap, Rd W2 (w.heap.size + 1) (.slice a n cap) 0 true) ∧ OK W2 n) ∨ (e = .panicked (ended (w.heap.size + 1)) ∧ ∃ cd, cd ≠ 0 ∧ RF W2 (w.heap.size + 1) cd ∧ NO W2 cd))) :
    Calls Try.prog 54 #[.slice a0 n0 c0, .func (.func F) #[] caps] w fun e W4 => Chg S w W4 ∧ ∃ W2, Chg [w.heap.size, w.heap.size + 1] W2 W4 ∧ ((∃ n, OK W2 n ∧ e = .returned (.int .i64 (if 0 < n then 30 else 0))) ∨ (∃ cd, NO W2 cd ∧ e = .returned (.int .i64 cd))) := by
  refine (read_any2 F caps henter w a0 n0 c0 (fun W n => Chg ((w.heap.size + 1) :: S) (opened w (.slice a0 n0 c0)) W ∧ OK W n) (fun W cd => Chg ((w.heap.size + 1) :: S) (opened w (.slice a0 n0 c0)) W ∧ NO W cd) (hf.mono ?_)).mono ?_
  · rintro e W2 ⟨hc, hcase⟩
    have hsz := opened_size w (.slice a0 n0 c0)
    refine ⟨⟨hc.block _ (by omega) ?_, hc.block _ (by omega) ?_⟩, ?_⟩
    · intro h; simp at h; have := hS _ h; omega
    · intro h; simp at h; have := hS _ h; omega
    · rcases hcase with ⟨rfl, n, ⟨a, cap, hr⟩, hok⟩ | ⟨rfl, cd, hcd, hr, hno⟩
      · exact .inl ⟨rfl, a, n, cap, hr, hc, hok⟩
      · exact .inr ⟨rfl, cd, hcd, hr, hc, hno⟩
  · rintro e W4 ⟨W2, hb, hcase⟩
    have key : Chg ((w.heap.size + 1) :: S) (opened w (.slice a0 n0 c0)) W2 := by
      rcases hcase with ⟨n, ⟨hc, _⟩, _⟩ | ⟨cd, ⟨hc, _⟩, _⟩ <;> exact hc
    have up := opened_up w (.slice a0 n0 c0)
    refine ⟨⟨hb.os.trans (key.os.trans up.os), hb.tape.trans (key.tape.trans up.tape), hb.output.trans (key.output.trans up.output), Nat.le_trans up.size (Nat.le_trans key.size hb.size), fun k hk hn => ?_⟩, W2, hb, ?_⟩
    · refine (hb.block k (by have := up.size; have := key.size; omega) (by simp; omega)).trans ((key.block k (by have := up.size; omega) ?_).trans (up.block k hk))
      intro h; simp at h; rcases h with h | h
      · omega
      · exact hn h
    · rcases hcase with ⟨n, ⟨_, hok⟩, he⟩ | ⟨cd, ⟨_, hno⟩, he⟩
      · exact .inl ⟨n, hok, he⟩
      · exact .inr ⟨cd, hno, he⟩
end Go.Proofs.Ytgpfmohaogppiaa.Pk
namespace Go.Proofs.Ytgpfmohaogppiaa.Pk
set_option maxRecDepth 20000
open Go.RowKit
set_option linter.unusedVariables false
/-- A Reader at R that lives, without an error, with these bytes left, in the block b0. -/
def RB (w : World) (R b0 n : Nat) (x : Nat → Nat) : Prop := ∃ v, Rd w R v 0 true ∧ ByRow w v n x ∧ (n = 0 ∨ v.ownBlock = some b0)
theorem RB.lt {w : World} {R b0 n : Nat} {x : Nat → Nat} (h : RB w R b0 n x) : R < w.heap.size := by obtain ⟨v, hr, _⟩ := h; exact lt_of_block hr
theorem Chg.cell {S : List Nat} {w w' : World} (c : Chg S w w') {p : Addr} {v : Value} (h : w.cell? p = some v) (hn : p.block ∉ S) : w'.cell? p = some v := by
  rw [World.cell?_of_block (c.block p.block (World.block_lt_of_cell? w p h) hn)]; exact h
theorem ByRow.chg {S : List Nat} {w w' : World} {v : Value} {n : Nat} {x : Nat → Nat} (h : ByRow w v n x) (c : Chg S w w') (hb : n = 0 ∨ ∀ b, v.ownBlock = some b → b ∉ S) : ByRow w' v n x := by
  rcases h with h | ⟨hn, hm, b, off, cap, hv, hc, hcp⟩
  · exact .inl h
  · refine .inr ⟨hn, hm, b, off, cap, hv, fun i hi => ⟨(hc i hi).1, c.cell (hc i hi).2 ?_⟩, hcp⟩
    rcases hb with hb | hb
    · omega
    · exact hb b (by rw [hv]; rfl)
theorem RB.chg {S : List Nat} {w w' : World} {R b0 n : Nat} {x : Nat → Nat} (h : RB w R b0 n x) (c : Chg S w w') (hR : R ∉ S) (hb : b0 ∉ S) : RB w' R b0 n x := by
  obtain ⟨v, hr, hv, hne⟩ := h
  refine ⟨v, (c.block R (lt_of_block hr) hR).trans hr, hv.chg c ?_, hne⟩
  rcases hne with e | e
  · exact .inl e
  · right; intro b hb2; rw [e] at hb2; cases hb2; exact hb
theorem RB.cut {w : World} {R b off n cap : Nat} {x : Nat → Nat} (h : Rd w R (.slice (some ⟨b, off, none⟩) n cap) 0 true) (hr : ByRow w (.slice (some ⟨b, off, none⟩) n cap) n x) (hne : b ≠ R) (k : Nat) (hk : k ≤ n) : RB (w.setCell ⟨R, 0, none⟩ (cutv b off n cap k)) R b (n - k) (sh k x) := by
  obtain ⟨v, h1, h2, h3⟩ := RS.cut h hr (.inr hne) k hk
  obtain rfl : v = cutv b off n cap k := by
    have e := (h.s0 (cutv b off n cap k)).c0
    rw [h1.c0] at e; cases e; rfl
  exact ⟨_, h1, h2, .inr rfl⟩
theorem RB.fail {w : World} {R b0 n : Nat} {x : Nat → Nat} (h : RB w R b0 n x) (c : Int) : RF ((w.setCell ⟨R, 1, none⟩ (.int .i64 c)).setCell ⟨R, 0, none⟩ (.slice none 0 0)) R c := by
  obtain ⟨v, hr, _⟩ := h
  exact (hr.s1 c).s0 _
/-- The code of the first k bytes, the greatest first. -/
def lkC (x : Nat → Nat) : Nat → Nat | 0 => 0 | k + 1 => lkC x k * 256 + x k
theorem lkC_lt (x : Nat → Nat) (n : Nat) (hx : ∀ i, i < n → x i < 256) : ∀ k, k ≤ n → lkC x k < 256 ^ k
  | 0, _ => by show 0 < 1; decide
  | k + 1, hk => by
    have h := lkC_lt x n hx k (by omega)
    have h2 := hx k (by omega)
    show lkC x k * 256 + x k < 256 ^ (k + 1)
    rw [Nat.pow_succ]; omega
def lkK (x : Nat → Nat) (n : Nat) : Nat := if 8 ≤ n ∧ Fl.isCode (lkC x 8) = true then 8 else 0
def lkV (x : Nat → Nat) (n : Nat) : Nat := if 8 ≤ n ∧ Fl.isCode (lkC x 8) = true then Fl.of (lkC x 8) else 0
def lfK (x : Nat → Nat) (n : Nat) : Nat := if 0 < n ∧ x 0 ≤ 1 then 1 else 0
def lfV (x : Nat → Nat) (n : Nat) : Bool := decide (0 < n ∧ x 0 = 1)
theorem lkK_le (x : Nat → Nat) (n : Nat) : lkK x n ≤ n := by unfold lkK; split <;> omega
theorem lfK_le (x : Nat → Nat) (n : Nat) : lfK x n ≤ n := by unfold lfK; split <;> omega
theorem or_byte (a c : Nat) (ha : a < 72057594037927936) (hc : c < 256) : bits .or .u64 ((a : Int) * 256) (c : Int) = ((a * 256 + c : Nat) : Int) := by
  rw [show ((a : Int) * 256) = ((a * 256 : Nat) : Int) by simp, u64_or_nat (a * 256) c (by omega) (by omega), nat_join 8 (a * 256) c (by omega) (by omega)]
set_option maxHeartbeats 400000 in
set_option maxRecDepth 20000 in
theorem rnum_ok (R b0 n : Nat) (x : Nat → Nat) (w : World) (h : RB w R b0 n x) (hb : b0 ≠ R) (hk : lnK x n ≠ 0) :
    Calls Try.prog 69 #[.pointer (some ⟨R, 0, none⟩)] w fun e w' => e = .returned (.int .i64 (lnV x n)) ∧ RB w' R b0 (n - lnK x n) (sh (lnK x n) x) ∧ Chg [R] w w' := by
  obtain ⟨v, hr, hv, hne⟩ := h
  have hkn : lnK x n ≤ n := ln_le x n 11 0
  obtain ⟨b, off, cap, rfl, hc, hcp, hm⟩ := hv.cells (by omega)
  obtain rfl : b = b0 := by
    rcases hne with h | h
    · omega
    · simpa [Value.ownBlock] using h
  have c0 := hr.c0
  have HL := hid (leadingNum_any _ n x w hv)
  have HP := hid (pass_some R b off n cap (lnK x n) (by omega) hkn hcp hm w hr)
  have HR := hid (RB.cut hr hv hb (lnK x n) hkn)
  clear hr hv hc hne
  generalize lnV x n = V at *
  generalize lnK x n = K at *
  go_enter Try.func69, Try.ntmps69
  go_wp2_with (first | (go_at_call 74; refine HL.out.mono ?_; rintro e w' ⟨rfl, hw⟩; have hw2 := hw.symm; subst hw2) | (go_at_call 75; refine HP.out.mono ?_; rintro e w' ⟨rfl, rfl⟩))
  go_ret
  exact ⟨rfl, HR.out, Chg.set _ _ _ (by simp)⟩
set_option maxHeartbeats 400000 in
set_option maxRecDepth 20000 in
theorem rnum_no (R b0 n : Nat) (x : Nat → Nat) (w : World) (h : RB w R b0 n x) (hk : lnK x n = 0) :
    Calls Try.prog 69 #[.pointer (some ⟨R, 0, none⟩)] w fun e w' => e = .panicked (ended R) ∧ RF w' R 30 ∧ Chg [R] w w' := by
  obtain ⟨v, hr, hv, hne⟩ := h
  have c0 := hr.c0
  have HL := hid (leadingNum_any _ n x w hv)
  rw [hk] at HL
  have HP := hid (pass_zero R v w hr)
  have HR := hid ((hr.s1 30).s0 (.slice none 0 0))
  clear hr hv hne hk
  unfold ended
  generalize lnV x n = V at *
  go_enter Try.func69, Try.ntmps69
  go_wp2_with (first | (go_at_call 74; refine HL.out.mono ?_; rintro e w' ⟨rfl, hw⟩; have hw2 := hw.symm; subst hw2) | (go_at_call 75; refine HP.out.mono ?_; rintro e w' ⟨rfl, rfl⟩))
  exact ⟨rfl, rfl, HR.out, (Chg.set _ _ _ (by simp)).trans (Chg.set _ _ _ (by simp))⟩
set_option maxHeartbeats 400000 in
set_option maxRecDepth 20000 in
theorem rcount_ok (R b0 n : Nat) (x : Nat → Nat) (most : Int) (w : World) (h : RB w R b0 n x) (hb : b0 ≠ R) (hk : lnK x n ≠ 0) (h0 : 0 ≤ lnV x n) (hm : lnV x n ≤ most) (hmx : most ≤ 9223372036854775807) :
    Calls Try.prog 63 #[.pointer (some ⟨R, 0, none⟩), .int .i64 most] w fun e w' => e = .returned (.int .i64 (lnV x n)) ∧ RB w' R b0 (n - lnK x n) (sh (lnK x n) x) ∧ Chg [R] w w' := by
  have HN := hid (rnum_ok R b0 n x w h hb hk)
  clear h hk
  generalize lnV x n = V at *
  go_enter Try.func63, Try.ntmps63
  go_wp2_with (go_at_call 69; refine HN.out.mono ?_; rintro e w1 ⟨rfl, r1, g1⟩; have H1 := hid r1; clear r1)
  go_ret
  exact ⟨rfl, H1.out, g1⟩
theorem rcount_no (R b0 n : Nat) (x : Nat → Nat) (most : Int) (w : World) (h : RB w R b0 n x) (hb : b0 ≠ R) (hk : lnK x n = 0 ∨ lnV x n < 0 ∨ most < lnV x n) :
    Calls Try.prog 63 #[.pointer (some ⟨R, 0, none⟩), .int .i64 most] w fun e w' => e = .panicked (ended R) ∧ RF w' R 30 ∧ Chg [R] w w' := by
  obtain ⟨v, hr, hv, hne⟩ := h
  refine (count_no R n x most w ⟨v, hr, hv, hne.imp id (fun e => by rw [e]; intro q; cases q; exact hb rfl)⟩ hk).mono ?_
  rintro e w' ⟨rfl, h1, h2⟩
  exact ⟨rfl, h1, Chg.of_by h2 _ (by simp)⟩
/-- How many bytes a value of bytes has. -/
def lbK (x : Nat → Nat) (n : Nat) : Nat := if lnK x n ≠ 0 ∧ 0 ≤ lnV x n ∧ lnV x n ≤ 4096 ∧ (lnV x n).toNat ≤ n - lnK x n then lnK x n + (lnV x n).toNat else 0
theorem lbK_le (x : Nat → Nat) (n : Nat) : lbK x n ≤ n := by
  unfold lbK; have := ln_le x n 11 0; unfold lnK; split <;> omega
theorem sh_sh (a b : Nat) (x : Nat → Nat) : sh b (sh a x) = sh (a + b) x := by funext i; simp [sh, Nat.add_assoc]

end Go.Proofs.Ytgpfmohaogppiaa.Pk
