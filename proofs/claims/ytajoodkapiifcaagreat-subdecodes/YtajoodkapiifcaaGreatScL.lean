/- What a Reader's methods do: Fail, pass, Num, Count, close; condition: the Reader lies in memory, alive. -/
import Derived.Test.YtajoodkapiifcaaGreatScK
import Derived.Laws.Pointers
import Derived.Defers
import Derived.Recover
import Derived.Lib.Builder
import Derived.Deep.Cut
namespace Go.Proofs.YtajoodkapiifcaaGreat.Pk
set_option linter.unusedSimpArgs false
set_option maxRecDepth 20000
open Go.RowKit
set_option linter.unusedVariables false
def Rd (w : World) (R : Nat) (rest : Value) (code : Int) (live : Bool) : Prop := w.heap[R]? = some (.cells #[rest, .int .i64 code, .bool live] 76 (0, 0))
theorem Rd.c0 {w : World} {R : Nat} {rest : Value} {code : Int} {live : Bool} (h : Rd w R rest code live) : w.cell? ⟨R, 0, none⟩ = some rest := by unfold Rd at h; simp [World.cell?, h]
theorem Rd.c1 {w : World} {R : Nat} {rest : Value} {code : Int} {live : Bool} (h : Rd w R rest code live) : w.cell? ⟨R, 1, none⟩ = some (.int .i64 code) := by unfold Rd at h; simp [World.cell?, h]
theorem Rd.c2 {w : World} {R : Nat} {rest : Value} {code : Int} {live : Bool} (h : Rd w R rest code live) : w.cell? ⟨R, 2, none⟩ = some (.bool live) := by unfold Rd at h; simp [World.cell?, h]
theorem Rd.fr {w : World} {R : Nat} {rest : Value} {code : Int} {live : Bool} (h : Rd w R rest code live) (j : Nat) : w.frozen? ⟨R, j, none⟩ = false := by unfold Rd at h; simp [World.frozen?, h]
theorem Rd.s0 {w : World} {R : Nat} {rest : Value} {code : Int} {live : Bool} (h : Rd w R rest code live) (v : Value) : Rd (w.setCell ⟨R, 0, none⟩ v) R v code live := by
 have := heap_setCell_same w R 0 _ _ v h; exact this
theorem Rd.s1 {w : World} {R : Nat} {rest : Value} {code : Int} {live : Bool} (h : Rd w R rest code live) (c : Int) : Rd (w.setCell ⟨R, 1, none⟩ (.int .i64 c)) R rest c live := by
 have := heap_setCell_same w R 1 _ _ (.int .i64 c) h; exact this
set_option maxHeartbeats 400000 in
theorem fail_any (R : Nat) (rest : Value) (e : Int) (w : World) (h : Rd w R rest 0 true) (E : Int) (hE : E = if e = 0 then 30 else e) :
    Calls Tryz.prog 25 #[.pointer (some ⟨R, 0, none⟩), .int .i64 e] w fun en w' => en = .panicked [{ v := .iface 79 (.agg #[.pointer (some ⟨R, 0, none⟩)]), recovered := false }] ∧ w' = (w.setCell ⟨R, 1, none⟩ (.int .i64 E)).setCell ⟨R, 0, none⟩ (.slice none 0 0) := by
 have c0 := h.c0
 have c1 := h.c1
 have c2 := h.c2
 have f0 := h.fr 0
 have f1 := h.fr 1
 have d0 := (h.s1 E).c0
 have g0 := (h.s1 E).fr 0
 clear h
 by_cases he : e = 0
 ·subst he
  rw [if_pos rfl] at hE
  subst hE
  go_enter Tryz.func25, Tryz.ntmps25
  go_wp2
  exact ⟨rfl, rfl, rfl⟩
 ·rw [if_neg he] at hE
  subst hE
  have t0 : (E == 0) = false := by rw [beq_eq_false_iff_ne]; exact he
  go_enter Tryz.func25, Tryz.ntmps25
  go_wp2
  exact ⟨rfl, rfl, rfl⟩
def sh (k : Nat) (x : Nat → Nat) : Nat → Nat := fun i => x (k + i)
def cutv (b off n cap k : Nat) : Value := .slice (some ⟨b, if cap = k then off else off + k, none⟩) (n - k) (cap - k)
set_option maxHeartbeats 400000 in
theorem pass_some (R b off n cap k : Nat) (hk : 0 < k) (hkn : k ≤ n) (hnc : n ≤ cap) (hm : cap ≤ maxLen) (w : World) (h : Rd w R (.slice (some ⟨b, off, none⟩) n cap) 0 true) :
    Calls Tryz.prog 74 #[.pointer (some ⟨R, 0, none⟩), .int .i64 (k : Int)] w fun e w' => e = .returned (.tuple #[]) ∧ w' = w.setCell ⟨R, 0, none⟩ (cutv b off n cap k) := by
 have c0 := h.c0
 have f0 := h.fr 0
 have HV : Hid (cutv b off n cap k = .slice (some ⟨b, if cap = k then off else off + k, none⟩) (n - k) (cap - k)) := rfl
 generalize cutv b off n cap k = V at *
 clear h
 unfold maxLen at hm
 by_cases hc : cap = k
 ·subst hc
  rw [if_pos rfl] at HV
  have hn : n = cap := by omega
  subst hn
  go_enter Tryz.func74, Tryz.ntmps74
  go_wp2
  go_end0
  exact ⟨rfl, by rw [HV.out] <;> simp⟩
 ·rw [if_neg hc] at HV
  go_enter Tryz.func74, Tryz.ntmps74
  go_wp2
  go_end0
  exact ⟨rfl, by rw [HV.out] <;> simp⟩
set_option maxHeartbeats 400000 in
theorem pass_zero (R : Nat) (rest : Value) (w : World) (h : Rd w R rest 0 true) :
    Calls Tryz.prog 74 #[.pointer (some ⟨R, 0, none⟩), .int .i64 0] w fun en w' => en = .panicked [{ v := .iface 79 (.agg #[.pointer (some ⟨R, 0, none⟩)]), recovered := false }] ∧ w' = (w.setCell ⟨R, 1, none⟩ (.int .i64 30)).setCell ⟨R, 0, none⟩ (.slice none 0 0) := by
 have hf := hid (fail_any R rest 30 w h 30 rfl)
 clear h
 go_enter Tryz.func74, Tryz.ntmps74
 go_wp2_with (go_at_call 25; refine hf.out.mono ?_; rintro e w' ⟨rfl, rfl⟩)
 exact ⟨rfl, rfl, rfl⟩
def shut (w : World) (R : Nat) : World := ((w.setCell ⟨R, 0, none⟩ (.slice none 0 0)).setCell ⟨R, 1, none⟩ (.int .i64 0)).setCell ⟨R, 2, none⟩ (.bool false)
set_option maxHeartbeats 400000 in
theorem close_code (R : Nat) (rest : Value) (c : Int) (l : Bool) (hc : c ≠ 0) (w : World) (h : Rd w R rest c l) :
    Calls Tryz.prog 46 #[.pointer (some ⟨R, 0, none⟩)] w fun e w' => e = .returned (.int .i64 c) ∧ w' = shut w R := by
 have c0 := h.c0
 have c1 := h.c1
 have c2 := h.c2
 have f0 := h.fr 0
 have f1 := h.fr 1
 have f2 := h.fr 2
 clear h
 have t0 : (c == 0) = false := by rw [beq_eq_false_iff_ne]; exact hc
 go_enter Tryz.func46, Tryz.ntmps46
 go_wp2
 go_ret
 exact ⟨rfl, rfl⟩
set_option maxHeartbeats 400000 in
theorem close_ok (R : Nat) (a : Option Addr) (n cap : Nat) (l : Bool) (F : Int) (hF : F = if 0 < n then 30 else 0) (w : World) (h : Rd w R (.slice a n cap) 0 l) :
    Calls Tryz.prog 46 #[.pointer (some ⟨R, 0, none⟩)] w fun e w' => e = .returned (.int .i64 F) ∧ w' = shut w R := by
 have c0 := h.c0
 have c1 := h.c1
 have c2 := h.c2
 have f0 := h.fr 0
 have f1 := h.fr 1
 have f2 := h.fr 2
 clear h
 by_cases hn : n = 0
 ·subst hn
  rw [if_neg (by omega)] at hF
  subst hF
  go_enter Tryz.func46, Tryz.ntmps46
  go_wp2
  go_ret
  exact ⟨rfl, rfl⟩
 ·rw [if_pos (by omega)] at hF
  subst hF
  have hp : 0 < n := by omega
  go_enter Tryz.func46, Tryz.ntmps46
  go_wp2
  go_ret
  exact ⟨rfl, rfl⟩
theorem slice_row {w : World} {b off n cap : Nat} {x : Nat → Nat} (hc : ∀ i, i < n → x i < 256 ∧ w.cell? ⟨b, off + i, none⟩ = some (.int .u8 (x i : Int))) (hm : cap ≤ maxLen) (lo m c : Nat) (hm0 : 0 < m) (hn : lo + m ≤ n) (hc2 : m ≤ c) (hcm : c ≤ cap) :
    ByRow w (.slice (some ⟨b, off + lo, none⟩) m c) m (sh lo x) :=
 .inr ⟨hm0, by omega, b, off + lo, c, rfl, fun i hi' => by have := hc (lo + i) (by omega); rw [show off + lo + i = off + (lo + i) by omega]; exact this, hc2, by omega⟩
def RS (w : World) (R n : Nat) (x : Nat → Nat) : Prop := ∃ v, Rd w R v 0 true ∧ ByRow w v n x ∧ (n = 0 ∨ v.ownBlock ≠ some R)
def RF (w : World) (R : Nat) (c : Int) : Prop := Rd w R (.slice none 0 0) c true
theorem by_set (w : World) (R j : Nat) (v : Value) : w.grownBy (w.setCell ⟨R, j, none⟩ v) (some R) := ⟨rfl, rfl, rfl, by simp, fun k _ hk => heap_setCell_other w ⟨R, j, none⟩ k v (fun e => hk (by simp [e]))⟩
theorem by_trans {a b c : World} {r : Option Nat} (h : a.grownBy b r) (k : b.grownBy c r) : a.grownBy c r :=
 ⟨k.os.trans h.os, k.tape.trans h.tape, k.output.trans h.output, Nat.le_trans h.size k.size, fun i hi hne => (k.block i (Nat.lt_of_lt_of_le hi h.size) hne).trans (h.block i hi hne)⟩
theorem RS.cut {w : World} {R b off n cap : Nat} {x : Nat → Nat} (h : Rd w R (.slice (some ⟨b, off, none⟩) n cap) 0 true) (hr : ByRow w (.slice (some ⟨b, off, none⟩) n cap) n x) (hne : n = 0 ∨ b ≠ R) (k : Nat) (hk : k ≤ n) : RS (w.setCell ⟨R, 0, none⟩ (cutv b off n cap k)) R (n - k) (sh k x) := by
 refine ⟨_, h.s0 _, ?_, ?_⟩
 ·by_cases hz : n - k = 0
  ·rw [hz]; unfold cutv; rw [hz]; exact .inl ⟨rfl, _, _, rfl, fun h => by cases h⟩
  ·obtain ⟨b', off', cap', hv, hc, hcp, hm⟩ := hr.cells (by omega)
   cases hv
   unfold cutv
   rw [if_neg (by omega)]
   refine (slice_row hc hm k (n - k) (cap - k) (by omega) (by omega) (by omega) (by omega)).grown (by_set w R 0 _) (.inr ?_)
   simp [Value.ownBlock]; rcases hne with h | h <;> omega
 ·rcases hne with h | h
  ·exact .inl (by omega)
  ·right; simp [cutv, Value.ownBlock]; exact h
set_option maxHeartbeats 400000 in
theorem num_ok (R n : Nat) (x : Nat → Nat) (w : World) (h : RS w R n x) (hk : lnK x n ≠ 0) :
    Calls Tryz.prog 47 #[.pointer (some ⟨R, 0, none⟩)] w fun e w' => e = .returned (.int .i64 (lnV x n)) ∧ RS w' R (n - lnK x n) (sh (lnK x n) x) ∧ w.grownBy w' (some R) := by
 obtain ⟨v, hr, hv, hne⟩ := h
 have hkn : lnK x n ≤ n := ln_le x n 11 0
 obtain ⟨b, off, cap, rfl, hc, hcp, hm⟩ := hv.cells (by omega)
 have c0 := hr.c0
 have HL := hid (leadingNum_any _ n x w hv)
 have HP := hid (pass_some R b off n cap (lnK x n) (by omega) hkn hcp hm w hr)
 have HR := hid (RS.cut hr hv (by rcases hne with h | h; exact .inl h; exact .inr (by simpa [Value.ownBlock] using h)) (lnK x n) hkn)
 clear hr hv hc hne
 generalize lnV x n = V at *
 generalize lnK x n = K at *
 go_enter Tryz.func47, Tryz.ntmps47
 go_wp2_with (first | (go_at_call 73; refine HL.out.mono ?_; rintro e w' ⟨rfl, hw⟩; have hw2 := hw.symm; subst hw2) | (go_at_call 74; refine HP.out.mono ?_; rintro e w' ⟨rfl, rfl⟩))
 go_ret
 exact ⟨rfl, HR.out, by_set _ _ _ _⟩
set_option maxHeartbeats 400000 in
theorem num_no (R n : Nat) (x : Nat → Nat) (w : World) (h : RS w R n x) (hk : lnK x n = 0) :
    Calls Tryz.prog 47 #[.pointer (some ⟨R, 0, none⟩)] w fun e w' => e = .panicked [{ v := .iface 79 (.agg #[.pointer (some ⟨R, 0, none⟩)]), recovered := false }] ∧ RF w' R 30 ∧ w.grownBy w' (some R) := by
 obtain ⟨v, hr, hv, hne⟩ := h
 have c0 := hr.c0
 have HL := hid (leadingNum_any _ n x w hv)
 rw [hk] at HL
 have HP := hid (pass_zero R v w hr)
 have HR := hid ((hr.s1 30).s0 (.slice none 0 0))
 clear hr hv hne hk
 generalize lnV x n = V at *
 go_enter Tryz.func47, Tryz.ntmps47
 go_wp2_with (first | (go_at_call 73; refine HL.out.mono ?_; rintro e w' ⟨rfl, hw⟩; have hw2 := hw.symm; subst hw2) | (go_at_call 74; refine HP.out.mono ?_; rintro e w' ⟨rfl, rfl⟩))
 exact ⟨rfl, rfl, HR.out, by_trans (by_set _ _ _ _) (by_set _ _ _ _)⟩
def ended (R : Nat) : List PanicEntry := [{ v := .iface 79 (.agg #[.pointer (some ⟨R, 0, none⟩)]), recovered := false }]
theorem RS.fail {w : World} {R n : Nat} {x : Nat → Nat} (h : RS w R n x) (c : Int) : RF ((w.setCell ⟨R, 1, none⟩ (.int .i64 c)).setCell ⟨R, 0, none⟩ (.slice none 0 0)) R c := by
 obtain ⟨v, hr, _⟩ := h
 exact (hr.s1 c).s0 _
set_option maxHeartbeats 400000 in
theorem count_ok (R n : Nat) (x : Nat → Nat) (most : Int) (w : World) (h : RS w R n x) (hk : lnK x n ≠ 0) (h0 : 0 ≤ lnV x n) (hm : lnV x n ≤ most) (hmx : most ≤ 9223372036854775807) :
    Calls Tryz.prog 75 #[.pointer (some ⟨R, 0, none⟩), .int .i64 most] w fun e w' => e = .returned (.int .i64 (lnV x n)) ∧ RS w' R (n - lnK x n) (sh (lnK x n) x) ∧ w.grownBy w' (some R) := by
 have HN := hid (num_ok R n x w h hk)
 clear h hk
 generalize lnV x n = V at *
 go_enter Tryz.func75, Tryz.ntmps75
 go_wp2_with (go_at_call 47; refine HN.out.mono ?_; rintro e w1 ⟨rfl, r1, g1⟩; have H1 := hid r1; clear r1)
 go_ret
 exact ⟨rfl, H1.out, g1⟩
set_option maxHeartbeats 400000 in
theorem count_no (R n : Nat) (x : Nat → Nat) (most : Int) (w : World) (h : RS w R n x) (hk : lnK x n = 0 ∨ lnV x n < 0 ∨ most < lnV x n) :
    Calls Tryz.prog 75 #[.pointer (some ⟨R, 0, none⟩), .int .i64 most] w fun e w' => e = .panicked (ended R) ∧ RF w' R 30 ∧ w.grownBy w' (some R) := by
 unfold ended
 by_cases hz : lnK x n = 0
 ·have HN := hid (num_no R n x w h hz)
  clear h hk hz
  go_enter Tryz.func75, Tryz.ntmps75
  go_wp2_with (go_at_call 47; refine HN.out.mono ?_; rintro e w1 ⟨rfl, r1, g1⟩; have H1 := hid r1; clear r1)
  exact ⟨rfl, rfl, H1.out, g1⟩
 ·have HN := hid (num_ok R n x w h hz)
  have HF := hid (fun (W : World) (hW : RS W R (n - lnK x n) (sh (lnK x n) x)) => by obtain ⟨v, hr, _⟩ := hW; exact fail_any R v 30 W hr 30 rfl)
  clear h
  have hV : lnV x n < 0 ∨ most < lnV x n := by rcases hk with h | h; exact absurd h hz; exact h
  clear hk hz
  generalize lnV x n = V at *
  by_cases h0 : V < 0
  ·go_enter Tryz.func75, Tryz.ntmps75
   go_wp2_with (first | (go_at_call 47; refine HN.out.mono ?_; rintro e w1 ⟨rfl, r1, g1⟩; have H1 := hid r1; clear r1) | (go_at_call 25; refine (HF.out _ H1.out).mono ?_; rintro e w' ⟨rfl, rfl⟩))
   exact ⟨rfl, rfl, H1.out.fail 30, by_trans g1 (by_trans (by_set _ _ _ _) (by_set _ _ _ _))⟩
  ·have h1 : most < V := by omega
   have h2 : 0 ≤ V := by omega
   clear hV h0
   go_enter Tryz.func75, Tryz.ntmps75
   go_wp2_with (first | (go_at_call 47; refine HN.out.mono ?_; rintro e w1 ⟨rfl, r1, g1⟩; have H1 := hid r1; clear r1) | (go_at_call 25; refine (HF.out _ H1.out).mono ?_; rintro e w' ⟨rfl, rfl⟩))
   exact ⟨rfl, rfl, H1.out.fail 30, by_trans g1 (by_trans (by_set _ _ _ _) (by_set _ _ _ _))⟩
end Go.Proofs.YtajoodkapiifcaaGreat.Pk
namespace Go.Proofs.YtajoodkapiifcaaGreat.Pk
set_option maxRecDepth 20000
open Go.RowKit
set_option linter.unusedVariables false
theorem infoReader : (Tryz.prog.info? 76).isSome = true := by kernel_rfl
structure Chg (S : List Nat) (w w' : World) : Prop where
 os : w'.os = w.os
 tape : w'.tape = w.tape
 output : w'.output = w.output
 size : w.heap.size ≤ w'.heap.size
 block : ∀ k, k < w.heap.size → k ∉ S → w'.heap[k]? = w.heap[k]?
theorem Chg.refl (S : List Nat) (w : World) : Chg S w w := ⟨rfl, rfl, rfl, Nat.le_refl _, fun _ _ _ => rfl⟩
theorem Chg.trans {S : List Nat} {a b c : World} (h : Chg S a b) (k : Chg S b c) : Chg S a c :=
 ⟨k.os.trans h.os, k.tape.trans h.tape, k.output.trans h.output, Nat.le_trans h.size k.size, fun i hi hn => (k.block i (Nat.lt_of_lt_of_le hi h.size) hn).trans (h.block i hi hn)⟩
theorem Chg.mono {S T : List Nat} {a b : World} (h : Chg S a b) (hs : ∀ k, k ∈ S → k ∈ T) : Chg T a b := ⟨h.os, h.tape, h.output, h.size, fun i hi hn => h.block i hi (fun e => hn (hs i e))⟩
theorem Chg.of_by {R : Nat} {a b : World} (h : a.grownBy b (some R)) (S : List Nat) (hs : R ∈ S) : Chg S a b := ⟨h.os, h.tape, h.output, h.size, fun i hi hn => h.block i hi (fun e => hn (by cases e; exact hs))⟩
theorem Chg.set {S : List Nat} (w : World) (p : Addr) (v : Value) (hs : p.block ∈ S) : Chg S w (w.setCell p v) :=
 ⟨rfl, rfl, rfl, by simp, fun i hi hn => Below.heap_setCell w p v i (fun e => hn (by rw [e]; exact hs))⟩
theorem Chg.below {S : List Nat} {a b : World} (h : Chg S a b) (B : Nat) (hB : ∀ k, k ∈ S → B ≤ k) (hs : B ≤ a.heap.size) : Below B a b :=
 ⟨h.os, h.tape, h.output, h.size, fun k hk => h.block k (Nat.lt_of_lt_of_le hk hs) (fun e => by have := hB k e; omega)⟩
theorem tmps45 (A B : Value) : (#[A, B] : Array Value) ++ Array.replicate (Tryz.f45.ntmps - (#[A, B] : Array Value).size) undef = #[A, B, undef, undef, undef, undef, undef, undef, undef, undef, undef, undef, undef, undef, undef, undef, undef, undef, undef] := by rw [Tryz.ntmps45]; rfl
set_option maxHeartbeats 400000 in
theorem catch_idle (rv cv R : Nat) (a : Option Addr) (n cap : Nat) (F : Int) (hF : F = if 0 < n then 30 else 0) (k : Int) (w : World) (h : Rd w R (.slice a n cap) 0 true) (hr : w.cell? ⟨rv, 0, none⟩ = some (.pointer (some ⟨R, 0, none⟩))) (hc : (shut w R).cell? ⟨cv, 0, none⟩ = some (.int .i64 k)) (hf : (shut w R).frozen? ⟨cv, 0, none⟩ = false) :
    CallsD Tryz.prog 45 #[.pointer (some ⟨rv, 0, none⟩), .pointer (some ⟨cv, 0, none⟩)] .returning w fun e u' w' => e = .returned (.tuple #[]) ∧ u' = .returning ∧ w' = (shut w R).setCell ⟨cv, 0, none⟩ (.int .i64 F) := by
 have HC := hid (close_ok R a n cap true F hF w h)
 clear h hF
 refine callsD_of_wpS Tryz.func45 rfl fun c₀ cs hu => ?_
 rw [tmps45]
 apply wpS_seq
 refine wpS_of_wp ?_
 go_wp2_with (go_at_call 46; refine HC.out.mono ?_; rintro e w' ⟨rfl, rfl⟩)
 refine wpS_seq ?_
 apply wpS_region
 generalize hQ : Exit.thenS (Code.wpS Tryz.prog _ _) _ = QQ
 simp [wpOpsS, go_sem, recoverD, hu]
 subst hQ
 refine wpS_of_wp ?_
 go_wp2
 refine ⟨rfl, .returning, by cases c₀; simp_all, .tuple #[], by simp [results, Tryz.results45], rfl, rfl, rfl⟩
set_option maxHeartbeats 1000000 in
theorem catch_panic (rv cv R : Nat) (c : Int) (hz : c ≠ 0) (k : Int) (w : World) (h : RF w R c) (hr : (shut w R).cell? ⟨rv, 0, none⟩ = some (.pointer (some ⟨R, 0, none⟩))) (hr0 : w.cell? ⟨rv, 0, none⟩ = some (.pointer (some ⟨R, 0, none⟩))) (hc : (shut w R).cell? ⟨cv, 0, none⟩ = some (.int .i64 k)) (hf : (shut w R).frozen? ⟨cv, 0, none⟩ = false) (hne : rv ≠ cv) :
    CallsD Tryz.prog 45 #[.pointer (some ⟨rv, 0, none⟩), .pointer (some ⟨cv, 0, none⟩)] (.panicking (ended R)) w fun e u' w' => e = .returned (.tuple #[]) ∧ u' = .panicking [{ v := .iface 79 (.agg #[.pointer (some ⟨R, 0, none⟩)]), recovered := true }] ∧ w' = ((shut w R).setCell ⟨cv, 0, none⟩ (.int .i64 c)).alloc (.cells #[.pointer (some ⟨R, 0, none⟩)] 79) := by
 have HC := hid (close_code R _ c true hz w h)
 have hr2 : ((shut w R).setCell ⟨cv, 0, none⟩ (.int .i64 c)).cell? ⟨rv, 0, none⟩ = some (.pointer (some ⟨R, 0, none⟩)) := by rw [World.cell?_of_block (Below.heap_setCell _ _ _ _ hne)]; exact hr
 have hr3 : (((shut w R).setCell ⟨cv, 0, none⟩ (.int .i64 c)).alloc (.cells #[.pointer (some ⟨R, 0, none⟩)] 79)).cell? ⟨rv, 0, none⟩ = some (.pointer (some ⟨R, 0, none⟩)) := ((Up.refl _).alloc _).keep hr2
 obtain ⟨ji, hji⟩ := Option.isSome_iff_exists.mp infoReader
 have hpp := fun w => Lib.run_neq_ptr_same (P := Tryz.prog) (w := w) ⟨R, 0, none⟩ Tryz.underlying51 hji
 have hta : ∀ (v : Value) (w : World), (Instr.typeAssert (.iface 79 v) 20 79 true).run Tryz.prog w = .ok (.tuple #[v, .bool true]) w := fun _ _ => by kernel_rfl
 clear h hz
 unfold ended
 refine callsD_of_wpS Tryz.func45 rfl fun c₀ cs hu => ?_
 rw [tmps45]
 apply wpS_seq
 refine wpS_of_wp ?_
 go_wp2_with (go_at_call 46; refine HC.out.mono ?_; rintro e w' ⟨rfl, rfl⟩)
 refine wpS_seq ?_
 apply wpS_region
 generalize hQ : Exit.thenS (Code.wpS Tryz.prog _ _) _ = QQ
 simp [wpOpsS, go_sem, recoverD, hu]
 subst hQ
 refine wpS_of_wp ?_
 go_wp2
 exact ⟨rfl, _, rfl, .tuple #[], by simp [results, Tryz.results45], rfl, rfl, rfl⟩
def opened (w : World) (vb : Value) : World := ((w.alloc (.cells #[.int .i64 0] 35)).alloc (.cells #[vb, .int .i64 0, .bool true] 76)).alloc (.cells #[.pointer (some ⟨w.heap.size + 1, 0, none⟩)] 51)
theorem opened_size (w : World) (vb : Value) : (opened w vb).heap.size = w.heap.size + 3 := by simp [opened]
theorem opened_c (w : World) (vb : Value) : (opened w vb).heap[w.heap.size]? = some (.cells #[.int .i64 0] 35 (0, 0)) := by
 unfold opened
 rw [Below.heap_alloc _ _ _ (by simp; omega), Below.heap_alloc _ _ _ (by simp)]; exact heap_new _ _
theorem opened_R (w : World) (vb : Value) : (opened w vb).heap[w.heap.size + 1]? = some (.cells #[vb, .int .i64 0, .bool true] 76 (0, 0)) := by
 unfold opened
 rw [Below.heap_alloc _ _ _ (by simp)]
 have := heap_new (w.alloc (.cells #[.int .i64 0] 35)) (.cells #[vb, .int .i64 0, .bool true] 76)
 rw [show (w.alloc (.cells #[.int .i64 0] 35)).heap.size = w.heap.size + 1 by simp] at this
 exact this
theorem opened_r (w : World) (vb : Value) : (opened w vb).heap[w.heap.size + 1 + 1]? = some (.cells #[.pointer (some ⟨w.heap.size + 1, 0, none⟩)] 51 (0, 0)) := by
 unfold opened
 have := heap_new ((w.alloc (.cells #[.int .i64 0] 35)).alloc (.cells #[vb, .int .i64 0, .bool true] 76)) (.cells #[.pointer (some ⟨w.heap.size + 1, 0, none⟩)] 51)
 rw [show ((w.alloc (.cells #[.int .i64 0] 35)).alloc (.cells #[vb, .int .i64 0, .bool true] 76)).heap.size = w.heap.size + 1 + 1 by simp] at this
 exact this
theorem opened_up (w : World) (vb : Value) : Up w (opened w vb) := (((Up.refl w).alloc _).alloc _).alloc _
theorem shut_other (w : World) (R k : Nat) (h : k ≠ R) : (shut w R).heap[k]? = w.heap[k]? := by
 unfold shut
 rw [Below.heap_setCell _ _ _ _ h, Below.heap_setCell _ _ _ _ h, Below.heap_setCell _ _ _ _ h]
theorem shut_below (w : World) (R B : Nat) (h : B ≤ R) : Below B w (shut w R) :=
 (((Below.refl B w).setCell h _).setCell h _).setCell h _
theorem Chg.alloc {S : List Nat} (w : World) (o : Obj) : Chg S w (w.alloc o) := ⟨rfl, rfl, rfl, by simp, fun k hk _ => Below.heap_alloc w o k hk⟩
theorem shut_chg (w : World) (R : Nat) (S : List Nat) (h : R ∈ S) : Chg S w (shut w R) := ((Chg.set w ⟨R, 0, none⟩ _ h).trans (Chg.set _ ⟨R, 1, none⟩ _ h)).trans (Chg.set _ ⟨R, 2, none⟩ _ h)
set_option maxHeartbeats 1000000 in
theorem read_any2 (F : FuncId) (caps : Array Value) (henter : ∀ args w, (callFunc F args).run Tryz.prog w = .ok (.enter F args) w) (w : World) (a0 : Option Addr) (n0 c0 : Nat) (OK : World → Nat → Prop) (NO : World → Int → Prop)
    (hf : Calls Tryz.prog F (#[.pointer (some ⟨w.heap.size + 1, 0, none⟩)] ++ caps) (opened w (.slice a0 n0 c0)) fun e W2 => (W2.heap[w.heap.size]? = (opened w (.slice a0 n0 c0)).heap[w.heap.size]? ∧ W2.heap[w.heap.size + 1 + 1]? = (opened w (.slice a0 n0 c0)).heap[w.heap.size + 1 + 1]?) ∧
     ((e = .returned (.tuple #[]) ∧ ∃ a n cap, Rd W2 (w.heap.size + 1) (.slice a n cap) 0 true ∧ OK W2 n) ∨ (e = .panicked (ended (w.heap.size + 1)) ∧ ∃ cd, cd ≠ 0 ∧ RF W2 (w.heap.size + 1) cd ∧ NO W2 cd))) :
    Calls Tryz.prog 22 #[.slice a0 n0 c0, .func (.func F) #[] caps] w fun e W4 => ∃ W2, Chg [w.heap.size, w.heap.size + 1] W2 W4 ∧ ((∃ n, OK W2 n ∧ e = .returned (.int .i64 (if 0 < n then 30 else 0))) ∨ (∃ cd, NO W2 cd ∧ e = .returned (.int .i64 cd))) := by
 have hmf : ∀ (fn : Fn) (first cap : Array Value) (w : World), (Instr.makeFunc fn first cap).run Tryz.prog w = .ok (.func fn first cap) w := fun _ _ _ _ => rfl
 have hfn : ∀ w, (binOp .neq 54 (.func (.func F) #[] caps) .nilFunc).run Tryz.prog w = .ok (.bool true) w := fun _ => by kernel_rfl
 have HF := hid hf
 clear hf
 go_enter_defers Tryz.func22, Tryz.ntmps22
 go_wp2_with (fail)
 refine HF.out.mono ?_
 rintro e W2 ⟨⟨hb0, hb2⟩, hcase⟩
 rw [opened_c] at hb0
 rw [opened_r] at hb2
 have s0 : (shut W2 (w.heap.size + 1)).heap[w.heap.size]? = some (.cells #[.int .i64 0] 35 (0, 0)) := by rw [shut_other _ _ _ (by omega)]; exact hb0
 have s2 : (shut W2 (w.heap.size + 1)).heap[w.heap.size + 1 + 1]? = some (.cells #[.pointer (some ⟨w.heap.size + 1, 0, none⟩)] 51 (0, 0)) := by rw [shut_other _ _ _ (by omega)]; exact hb2
 have hs1 := fun (F : Int) => cell_of_one (one_setCell (u := .int .i64 F) s0)
 rcases hcase with ⟨rfl, a, n, cap, hr, hok⟩ | ⟨rfl, cd, hcd, hr, hno⟩
 ·have HR := hid hr
  have H0 := hid s0
  have H1 := hid hs1
  have HB := hid hb2
  have HO := hid hok
  clear hr s0 s2 hs1 hb0 hb2 hok HF henter
  go_wp2
  refine leaves_cons (f := 45) (args := #[.pointer (some ⟨w.heap.size + 1 + 1, 0, none⟩), .pointer (some ⟨w.heap.size, 0, none⟩)]) (by simp) (by simp [go_sem]) ?_
  refine (catch_idle (w.heap.size + 1 + 1) w.heap.size (w.heap.size + 1) a n cap _ rfl 0 W2 HR.out (cell_of_one HB.out) (cell_of_one H0.out) (free_of_one H0.out)).mono ?_
  rintro e u' w'' ⟨rfl, rfl, rfl⟩
  have h1 := H1.out (if 0 < n then 30 else 0)
  simp [Leaves, settle, results, Tryz.results22, go_sem, h1]
  exact ⟨W2, (shut_chg W2 (w.heap.size + 1) _ (by simp)).trans (Chg.set _ _ _ (by simp)), .inl ⟨n, HO.out, rfl⟩⟩
 ·have HR := hid hr
  have H0 := hid s0
  have H2 := hid s2
  have H1 := hid hs1
  have HB := hid hb2
  have HO := hid hno
  have HD := hid hcd
  clear hr s0 s2 hs1 hb0 hb2 hno HF henter hcd
  unfold ended
  go_wp2
  refine leaves_cons (f := 45) (args := #[.pointer (some ⟨w.heap.size + 1 + 1, 0, none⟩), .pointer (some ⟨w.heap.size, 0, none⟩)]) (by simp) (by simp [go_sem]) ?_
  refine (catch_panic (w.heap.size + 1 + 1) w.heap.size (w.heap.size + 1) cd HD.out 0 W2 HR.out (cell_of_one H2.out) (cell_of_one HB.out) (cell_of_one H0.out) (free_of_one H0.out) (by omega)).mono ?_
  rintro e u' w'' ⟨rfl, rfl, rfl⟩
  have h1 : (((shut W2 (w.heap.size + 1)).setCell ⟨w.heap.size, 0, none⟩ (.int .i64 cd)).alloc (.cells #[.pointer (some ⟨w.heap.size + 1, 0, none⟩)] 79)).cell? ⟨w.heap.size, 0, none⟩ = some (.int .i64 cd) := ((Up.refl _).alloc _).keep (H1.out cd)
  have hsz : w.heap.size ≤ (shut W2 (w.heap.size + 1)).heap.size := by have := lt_of_block H0.out; omega
  simp [Leaves, settle, results, Tryz.results22, go_sem, h1]
  exact ⟨W2, ((shut_chg W2 (w.heap.size + 1) _ (by simp)).trans (Chg.set _ _ _ (by simp))).trans (Chg.alloc _ _), .inr HO.out⟩
set_option maxHeartbeats 1000000 in
theorem read_any (F : FuncId) (caps : Array Value) (henter : ∀ args w, (callFunc F args).run Tryz.prog w = .ok (.enter F args) w) (w : World) (a0 : Option Addr) (n0 c0 : Nat) (OK : World → Nat → Prop) (NO : World → Int → Prop)
    (hf : Calls Tryz.prog F (#[.pointer (some ⟨w.heap.size + 1, 0, none⟩)] ++ caps) (opened w (.slice a0 n0 c0)) fun e W2 => (W2.heap[w.heap.size]? = (opened w (.slice a0 n0 c0)).heap[w.heap.size]? ∧ W2.heap[w.heap.size + 1 + 1]? = (opened w (.slice a0 n0 c0)).heap[w.heap.size + 1 + 1]?) ∧
     ((e = .returned (.tuple #[]) ∧ ∃ a n cap, Rd W2 (w.heap.size + 1) (.slice a n cap) 0 true ∧ OK W2 n) ∨ (e = .panicked (ended (w.heap.size + 1)) ∧ ∃ cd, cd ≠ 0 ∧ RF W2 (w.heap.size + 1) cd ∧ NO W2 cd))) :
    Calls Tryz.prog 22 #[.slice a0 n0 c0, .func (.func F) #[] caps] w fun e W4 => ∃ W2, Below w.heap.size W2 W4 ∧ ((∃ n, OK W2 n ∧ e = .returned (.int .i64 (if 0 < n then 30 else 0))) ∨ (∃ cd, NO W2 cd ∧ e = .returned (.int .i64 cd))) := by
 have hmf : ∀ (fn : Fn) (first cap : Array Value) (w : World), (Instr.makeFunc fn first cap).run Tryz.prog w = .ok (.func fn first cap) w := fun _ _ _ _ => rfl
 have hfn : ∀ w, (binOp .neq 54 (.func (.func F) #[] caps) .nilFunc).run Tryz.prog w = .ok (.bool true) w := fun _ => by kernel_rfl
 have HF := hid hf
 clear hf
 go_enter_defers Tryz.func22, Tryz.ntmps22
 go_wp2_with (fail)
 refine HF.out.mono ?_
 rintro e W2 ⟨⟨hb0, hb2⟩, hcase⟩
 rw [opened_c] at hb0
 rw [opened_r] at hb2
 have s0 : (shut W2 (w.heap.size + 1)).heap[w.heap.size]? = some (.cells #[.int .i64 0] 35 (0, 0)) := by rw [shut_other _ _ _ (by omega)]; exact hb0
 have s2 : (shut W2 (w.heap.size + 1)).heap[w.heap.size + 1 + 1]? = some (.cells #[.pointer (some ⟨w.heap.size + 1, 0, none⟩)] 51 (0, 0)) := by rw [shut_other _ _ _ (by omega)]; exact hb2
 have hs1 := fun (F : Int) => cell_of_one (one_setCell (u := .int .i64 F) s0)
 rcases hcase with ⟨rfl, a, n, cap, hr, hok⟩ | ⟨rfl, cd, hcd, hr, hno⟩
 ·have HR := hid hr
  have H0 := hid s0
  have H1 := hid hs1
  have HB := hid hb2
  have HO := hid hok
  clear hr s0 s2 hs1 hb0 hb2 hok HF henter
  go_wp2
  refine leaves_cons (f := 45) (args := #[.pointer (some ⟨w.heap.size + 1 + 1, 0, none⟩), .pointer (some ⟨w.heap.size, 0, none⟩)]) (by simp) (by simp [go_sem]) ?_
  refine (catch_idle (w.heap.size + 1 + 1) w.heap.size (w.heap.size + 1) a n cap _ rfl 0 W2 HR.out (cell_of_one HB.out) (cell_of_one H0.out) (free_of_one H0.out)).mono ?_
  rintro e u' w'' ⟨rfl, rfl, rfl⟩
  have h1 := H1.out (if 0 < n then 30 else 0)
  simp [Leaves, settle, results, Tryz.results22, go_sem, h1]
  exact ⟨W2, (shut_below W2 (w.heap.size + 1) w.heap.size (by omega)).setCell (Nat.le_refl w.heap.size) _, .inl ⟨n, HO.out, rfl⟩⟩
 ·have HR := hid hr
  have H0 := hid s0
  have H2 := hid s2
  have H1 := hid hs1
  have HB := hid hb2
  have HO := hid hno
  have HD := hid hcd
  clear hr s0 s2 hs1 hb0 hb2 hno HF henter hcd
  unfold ended
  go_wp2
  refine leaves_cons (f := 45) (args := #[.pointer (some ⟨w.heap.size + 1 + 1, 0, none⟩), .pointer (some ⟨w.heap.size, 0, none⟩)]) (by simp) (by simp [go_sem]) ?_
  refine (catch_panic (w.heap.size + 1 + 1) w.heap.size (w.heap.size + 1) cd HD.out 0 W2 HR.out (cell_of_one H2.out) (cell_of_one HB.out) (cell_of_one H0.out) (free_of_one H0.out) (by omega)).mono ?_
  rintro e u' w'' ⟨rfl, rfl, rfl⟩
  have h1 : (((shut W2 (w.heap.size + 1)).setCell ⟨w.heap.size, 0, none⟩ (.int .i64 cd)).alloc (.cells #[.pointer (some ⟨w.heap.size + 1, 0, none⟩)] 79)).cell? ⟨w.heap.size, 0, none⟩ = some (.int .i64 cd) := ((Up.refl _).alloc _).keep (H1.out cd)
  have hsz : w.heap.size ≤ (shut W2 (w.heap.size + 1)).heap.size := by have := lt_of_block H0.out; omega
  simp [Leaves, settle, results, Tryz.results22, go_sem, h1]
  exact ⟨W2, ((shut_below W2 (w.heap.size + 1) w.heap.size (by omega)).setCell (Nat.le_refl w.heap.size) _).alloc (by simpa using hsz) _, .inr HO.out⟩
end Go.Proofs.YtajoodkapiifcaaGreat.Pk
namespace Go.Proofs.YtajoodkapiifcaaGreat.Pk
set_option maxRecDepth 20000
open Go.RowKit
set_option linter.unusedVariables false
def Var (w : World) (b : Nat) (t : TypeId) (z : Int) : Prop := w.heap[b]? = some (.cells #[.int .i64 z] t (0, 0))
theorem Var.cell {w : World} {b : Nat} {t : TypeId} {z : Int} (h : Var w b t z) : w.cell? ⟨b, 0, none⟩ = some (.int .i64 z) := cell_of_one h
theorem Var.free {w : World} {b : Nat} {t : TypeId} {z : Int} (h : Var w b t z) : w.frozen? ⟨b, 0, none⟩ = false := free_of_one h
theorem Var.lt {w : World} {b : Nat} {t : TypeId} {z : Int} (h : Var w b t z) : b < w.heap.size := lt_of_block h
theorem Var.put {w : World} {b : Nat} {t : TypeId} {z : Int} (h : Var w b t z) (y : Int) : Var (w.setCell ⟨b, 0, none⟩ (.int .i64 y)) b t y := one_setCell h
theorem Var.chg {S : List Nat} {w w' : World} {b : Nat} {t : TypeId} {z : Int} (h : Var w b t z) (c : Chg S w w') (hn : b ∉ S) : Var w' b t z := (c.block b h.lt hn).trans h
theorem Var.set {w : World} {b : Nat} {t : TypeId} {z : Int} (h : Var w b t z) (p : Addr) (v : Value) (hn : b ≠ p.block) : Var (w.setCell p v) b t z := (Below.heap_setCell w p v b hn).trans h
theorem Var.up {w w' : World} {b : Nat} {t : TypeId} {z : Int} (h : Var w b t z) (u : Up w w') : Var w' b t z := (u.block b h.lt).trans h
theorem Rd.set {w : World} {R : Nat} {v : Value} {c : Int} {l : Bool} (h : Rd w R v c l) (p : Addr) (u : Value) (hn : R ≠ p.block) : Rd (w.setCell p u) R v c l := (Below.heap_setCell w p u R hn).trans h
theorem RS.opened {w : World} {a : Option Addr} {n c : Nat} {x : Nat → Nat} (h : ByRow w (.slice a n c) n x) : RS (opened w (.slice a n c)) (w.heap.size + 1) n x := by
 refine ⟨_, opened_R w _, h.up (opened_up w _), ?_⟩
 rcases h with ⟨rfl, _⟩ | ⟨_, _, b, off, cap, hv, hc, _⟩
 ·exact .inl rfl
 ·right
  rw [hv]
  have := World.block_lt_of_cell? w _ (hc 0 (by omega)).2
  simp [Value.ownBlock] at this ⊢; omega
theorem RS.rd {w : World} {R n : Nat} {x : Nat → Nat} (h : RS w R n x) : ∃ a c, Rd w R (.slice a n c) 0 true := by
 obtain ⟨v, hr, hv, _⟩ := h
 rcases hv with ⟨rfl, a, c, rfl, _⟩ | ⟨_, _, b, off, cap, rfl, _⟩
 ·exact ⟨_, _, hr⟩
 ·exact ⟨_, _, hr⟩
theorem enters (F : FuncId) (h : ∀ (args : Array Value) (w : World), (callFunc F args).run Tryz.prog w = .ok (.enter F args) w) : ∀ args w, (callFunc F args).run Tryz.prog w = .ok (.enter F args) w := h
set_option maxHeartbeats 400000 in
theorem read_of (F : FuncId) (caps : Array Value) (henter : ∀ args w, (callFunc F args).run Tryz.prog w = .ok (.enter F args) w) (w : World) (a0 : Option Addr) (n0 c0 : Nat) (S : List Nat) (hS : ∀ k, k ∈ S → k < w.heap.size) (OK : World → Nat → Prop) (NO : World → Int → Prop)
    (hf : Calls Tryz.prog F (#[.pointer (some ⟨w.heap.size + 1, 0, none⟩)] ++ caps) (opened w (.slice a0 n0 c0)) fun e W2 => Chg ((w.heap.size + 1) :: S) (opened w (.slice a0 n0 c0)) W2 ∧
     ((e = .returned (.tuple #[]) ∧ ∃ n, (∃ a cap, Rd W2 (w.heap.size + 1) (.slice a n cap) 0 true) ∧ OK W2 n) ∨ (e = .panicked (ended (w.heap.size + 1)) ∧ ∃ cd, cd ≠ 0 ∧ RF W2 (w.heap.size + 1) cd ∧ NO W2 cd))) :
    Calls Tryz.prog 22 #[.slice a0 n0 c0, .func (.func F) #[] caps] w fun e W4 => Chg S w W4 ∧ ∃ W2, Below w.heap.size W2 W4 ∧ ((∃ n, OK W2 n ∧ e = .returned (.int .i64 (if 0 < n then 30 else 0))) ∨ (∃ cd, NO W2 cd ∧ e = .returned (.int .i64 cd))) := by
 refine (read_any F caps henter w a0 n0 c0 (fun W n => Chg ((w.heap.size + 1) :: S) (opened w (.slice a0 n0 c0)) W ∧ OK W n) (fun W cd => Chg ((w.heap.size + 1) :: S) (opened w (.slice a0 n0 c0)) W ∧ NO W cd) (hf.mono ?_)).mono ?_
 ·rintro e W2 ⟨hc, hcase⟩
  have hsz := opened_size w (.slice a0 n0 c0)
  refine ⟨⟨hc.block _ (by omega) ?_, hc.block _ (by omega) ?_⟩, ?_⟩
  ·intro h; simp at h; have := hS _ h; omega
  ·intro h; simp at h; have := hS _ h; omega
  ·rcases hcase with ⟨rfl, n, ⟨a, cap, hr⟩, hok⟩ | ⟨rfl, cd, hcd, hr, hno⟩
   ·exact .inl ⟨rfl, a, n, cap, hr, hc, hok⟩
   ·exact .inr ⟨rfl, cd, hcd, hr, hc, hno⟩
 ·rintro e W4 ⟨W2, hb, hcase⟩
  have key : Chg ((w.heap.size + 1) :: S) (opened w (.slice a0 n0 c0)) W2 := by
   rcases hcase with ⟨n, ⟨hc, _⟩, _⟩ | ⟨cd, ⟨hc, _⟩, _⟩ <;> exact hc
  have up := opened_up w (.slice a0 n0 c0)
  refine ⟨⟨hb.os.trans (key.os.trans up.os), hb.tape.trans (key.tape.trans up.tape), hb.output.trans (key.output.trans up.output), Nat.le_trans up.size (Nat.le_trans key.size hb.size), fun k hk hn => ?_⟩, W2, hb, ?_⟩
  ·refine (hb.block k hk).trans ((key.block k (by have := up.size; omega) ?_).trans (up.block k hk))
   intro h; simp at h; rcases h with h | h
   ·omega
   ·exact hn h
  ·rcases hcase with ⟨n, ⟨_, hok⟩, he⟩ | ⟨cd, ⟨_, hno⟩, he⟩
   ·exact .inl ⟨n, hok, he⟩
   ·exact .inr ⟨cd, hno, he⟩
set_option maxHeartbeats 400000 in
theorem read_of2 (F : FuncId) (caps : Array Value) (henter : ∀ args w, (callFunc F args).run Tryz.prog w = .ok (.enter F args) w) (w : World) (a0 : Option Addr) (n0 c0 : Nat) (S : List Nat) (hS : ∀ k, k ∈ S → k < w.heap.size) (OK : World → Nat → Prop) (NO : World → Int → Prop)
    (hf : Calls Tryz.prog F (#[.pointer (some ⟨w.heap.size + 1, 0, none⟩)] ++ caps) (opened w (.slice a0 n0 c0)) fun e W2 => Chg ((w.heap.size + 1) :: S) (opened w (.slice a0 n0 c0)) W2 ∧
     ((e = .returned (.tuple #[]) ∧ ∃ n, (∃ a cap, Rd W2 (w.heap.size + 1) (.slice a n cap) 0 true) ∧ OK W2 n) ∨ (e = .panicked (ended (w.heap.size + 1)) ∧ ∃ cd, cd ≠ 0 ∧ RF W2 (w.heap.size + 1) cd ∧ NO W2 cd))) :
    Calls Tryz.prog 22 #[.slice a0 n0 c0, .func (.func F) #[] caps] w fun e W4 => Chg S w W4 ∧ ∃ W2, Chg [w.heap.size, w.heap.size + 1] W2 W4 ∧ ((∃ n, OK W2 n ∧ e = .returned (.int .i64 (if 0 < n then 30 else 0))) ∨ (∃ cd, NO W2 cd ∧ e = .returned (.int .i64 cd))) := by
 refine (read_any2 F caps henter w a0 n0 c0 (fun W n => Chg ((w.heap.size + 1) :: S) (opened w (.slice a0 n0 c0)) W ∧ OK W n) (fun W cd => Chg ((w.heap.size + 1) :: S) (opened w (.slice a0 n0 c0)) W ∧ NO W cd) (hf.mono ?_)).mono ?_
 ·rintro e W2 ⟨hc, hcase⟩
  have hsz := opened_size w (.slice a0 n0 c0)
  refine ⟨⟨hc.block _ (by omega) ?_, hc.block _ (by omega) ?_⟩, ?_⟩
  ·intro h; simp at h; have := hS _ h; omega
  ·intro h; simp at h; have := hS _ h; omega
  ·rcases hcase with ⟨rfl, n, ⟨a, cap, hr⟩, hok⟩ | ⟨rfl, cd, hcd, hr, hno⟩
   ·exact .inl ⟨rfl, a, n, cap, hr, hc, hok⟩
   ·exact .inr ⟨rfl, cd, hcd, hr, hc, hno⟩
 ·rintro e W4 ⟨W2, hb, hcase⟩
  have key : Chg ((w.heap.size + 1) :: S) (opened w (.slice a0 n0 c0)) W2 := by
   rcases hcase with ⟨n, ⟨hc, _⟩, _⟩ | ⟨cd, ⟨hc, _⟩, _⟩ <;> exact hc
  have up := opened_up w (.slice a0 n0 c0)
  refine ⟨⟨hb.os.trans (key.os.trans up.os), hb.tape.trans (key.tape.trans up.tape), hb.output.trans (key.output.trans up.output), Nat.le_trans up.size (Nat.le_trans key.size hb.size), fun k hk hn => ?_⟩, W2, hb, ?_⟩
  ·refine (hb.block k (by have := up.size; have := key.size; omega) (by simp; omega)).trans ((key.block k (by have := up.size; omega) ?_).trans (up.block k hk))
   intro h; simp at h; rcases h with h | h
   ·omega
   ·exact hn h
  ·rcases hcase with ⟨n, ⟨_, hok⟩, he⟩ | ⟨cd, ⟨_, hno⟩, he⟩
   ·exact .inl ⟨n, hok, he⟩
   ·exact .inr ⟨cd, hno, he⟩
end Go.Proofs.YtajoodkapiifcaaGreat.Pk
namespace Go.Proofs.YtajoodkapiifcaaGreat.Pk
set_option maxRecDepth 20000
open Go.RowKit
set_option linter.unusedVariables false
def RB (w : World) (R b0 n : Nat) (x : Nat → Nat) : Prop := ∃ v, Rd w R v 0 true ∧ ByRow w v n x ∧ (n = 0 ∨ v.ownBlock = some b0)
theorem RB.lt {w : World} {R b0 n : Nat} {x : Nat → Nat} (h : RB w R b0 n x) : R < w.heap.size := by obtain ⟨v, hr, _⟩ := h; exact lt_of_block hr
theorem Chg.cell {S : List Nat} {w w' : World} (c : Chg S w w') {p : Addr} {v : Value} (h : w.cell? p = some v) (hn : p.block ∉ S) : w'.cell? p = some v := by
 rw [World.cell?_of_block (c.block p.block (World.block_lt_of_cell? w p h) hn)]; exact h
theorem ByRow.chg {S : List Nat} {w w' : World} {v : Value} {n : Nat} {x : Nat → Nat} (h : ByRow w v n x) (c : Chg S w w') (hb : n = 0 ∨ ∀ b, v.ownBlock = some b → b ∉ S) : ByRow w' v n x := by
 rcases h with h | ⟨hn, hm, b, off, cap, hv, hc, hcp⟩
 ·exact .inl h
 ·refine .inr ⟨hn, hm, b, off, cap, hv, fun i hi => ⟨(hc i hi).1, c.cell (hc i hi).2 ?_⟩, hcp⟩
  rcases hb with hb | hb
  ·omega
  ·exact hb b (by rw [hv]; rfl)
theorem RB.chg {S : List Nat} {w w' : World} {R b0 n : Nat} {x : Nat → Nat} (h : RB w R b0 n x) (c : Chg S w w') (hR : R ∉ S) (hb : b0 ∉ S) : RB w' R b0 n x := by
 obtain ⟨v, hr, hv, hne⟩ := h
 refine ⟨v, (c.block R (lt_of_block hr) hR).trans hr, hv.chg c ?_, hne⟩
 rcases hne with e | e
 ·exact .inl e
 ·right; intro b hb2; rw [e] at hb2; cases hb2; exact hb
theorem RB.cut {w : World} {R b off n cap : Nat} {x : Nat → Nat} (h : Rd w R (.slice (some ⟨b, off, none⟩) n cap) 0 true) (hr : ByRow w (.slice (some ⟨b, off, none⟩) n cap) n x) (hne : b ≠ R) (k : Nat) (hk : k ≤ n) : RB (w.setCell ⟨R, 0, none⟩ (cutv b off n cap k)) R b (n - k) (sh k x) := by
 obtain ⟨v, h1, h2, h3⟩ := RS.cut h hr (.inr hne) k hk
 obtain rfl : v = cutv b off n cap k := by
  have e := (h.s0 (cutv b off n cap k)).c0
  rw [h1.c0] at e; cases e; rfl
 exact ⟨_, h1, h2, .inr rfl⟩
theorem RB.fail {w : World} {R b0 n : Nat} {x : Nat → Nat} (h : RB w R b0 n x) (c : Int) : RF ((w.setCell ⟨R, 1, none⟩ (.int .i64 c)).setCell ⟨R, 0, none⟩ (.slice none 0 0)) R c := by
 obtain ⟨v, hr, _⟩ := h
 exact (hr.s1 c).s0 _
def lkC (x : Nat → Nat) : Nat → Nat | 0 => 0 | k + 1 => lkC x k * 256 + x k
theorem lkC_lt (x : Nat → Nat) (n : Nat) (hx : ∀ i, i < n → x i < 256) : ∀ k, k ≤ n → lkC x k < 256 ^ k
 | 0, _ => by show 0 < 1; decide
 | k + 1, hk => by
  have h := lkC_lt x n hx k (by omega)
  have h2 := hx k (by omega)
  show lkC x k * 256 + x k < 256 ^ (k + 1)
  rw [Nat.pow_succ]; omega
def lkK (x : Nat → Nat) (n : Nat) : Nat := if 8 ≤ n ∧ Fl.isCode (lkC x 8) = true then 8 else 0
def lkV (x : Nat → Nat) (n : Nat) : Nat := if 8 ≤ n ∧ Fl.isCode (lkC x 8) = true then Fl.of (lkC x 8) else 0
def lfK (x : Nat → Nat) (n : Nat) : Nat := if 0 < n ∧ x 0 ≤ 1 then 1 else 0
def lfV (x : Nat → Nat) (n : Nat) : Bool := decide (0 < n ∧ x 0 = 1)
theorem lkK_le (x : Nat → Nat) (n : Nat) : lkK x n ≤ n := by unfold lkK; split <;> omega
theorem lfK_le (x : Nat → Nat) (n : Nat) : lfK x n ≤ n := by unfold lfK; split <;> omega
theorem or_byte (a c : Nat) (ha : a < 72057594037927936) (hc : c < 256) : bits .or .u64 ((a : Int) * 256) (c : Int) = ((a * 256 + c : Nat) : Int) := by
 rw [show ((a : Int) * 256) = ((a * 256 : Nat) : Int) by simp, u64_or_nat (a * 256) c (by omega) (by omega), nat_join 8 (a * 256) c (by omega) (by omega)]
set_option maxHeartbeats 1000000 in
theorem leadingKey_some (b off n cap : Nat) (x : Nat → Nat) (hn : 8 ≤ n) (hnc : n ≤ cap) (hm : cap ≤ maxLen) (w : World) (hc : ∀ i, i < n → x i < 256 ∧ w.cell? ⟨b, off + i, none⟩ = some (.int .u8 (x i : Int))) :
    Calls Tryz.prog 99 #[.slice (some ⟨b, off, none⟩) n cap] w fun e w' => e = .returned (.tuple #[.float .f64 (lkV x n), .int .i64 (lkK x n : Nat)]) ∧ w' = w := by
 unfold maxLen at hm
 have HC := hid hc
 have HL := hid (lkC_lt x n (fun i hi => (hc i hi).1))
 have HW : Fl.W (lkC x 8) := by have := HL.out 8 hn; unfold Fl.W; exact Nat.lt_of_lt_of_le this (by decide)
 have HY := hid (fun (h : Fl.isCode (lkC x 8) = true) W => from_yes (lkC x 8) HW h W)
 have HN := hid (fun (h : Fl.isCode (lkC x 8) = false) W => from_no (lkC x 8) HW h W)
 have HV : Hid (lkV x n = if 8 ≤ n ∧ Fl.isCode (lkC x 8) = true then Fl.of (lkC x 8) else 0) := rfl
 have HK : Hid (lkK x n = if 8 ≤ n ∧ Fl.isCode (lkC x 8) = true then 8 else 0) := rfl
 clear hc HW
 generalize lkV x n = V at *
 generalize lkK x n = K at *
 go_enter Tryz.func99, Tryz.ntmps99
 go_wp2
 go_loop [4, 15] (fun u i => ∃ k : Nat, k ≤ 8 ∧ i = .int .i64 (k : Nat) ∧ u = .int .u64 (lkC x k : Nat)) (fun _ i => 8 - (intOf i).toNat)
 case atStart => exact ⟨0, by omega, rfl, rfl⟩
 case round =>
  obtain ⟨k, hk, rfl, rfl⟩ := hrel
  by_cases hlt : k < 8
  ·obtain ⟨hx, hcell⟩ := HC.out k (by omega)
   have h1 := HL.out k (by omega)
   have h2 : (256 : Nat) ^ k ≤ 256 ^ 7 := Nat.pow_le_pow_right (by omega) (by omega)
   have h3 : lkC x k < 72057594037927936 := Nat.lt_of_lt_of_le h1 (Nat.le_trans h2 (by decide))
   have eW : IntKind.u64.wrap ((lkC x k : Int) * 256) = (lkC x k : Int) * 256 := by rw [IntKind.wrap_u64]; omega
   have eO := or_byte (lkC x k) (x k) h3 hx
   have HS : Hid (lkC x (k + 1) = lkC x k * 256 + x k) := rfl
   clear HC h1 h2 HL HV HK
   generalize lkC x k = A at *
   go_wp2
   go_round
   case rel => exact ⟨k + 1, by omega, by go_num, by rw [HS.out]; first | rfl | (congr 1; simp_all) | go_num⟩
   case measure => simp [intOf]; omega
  ·obtain rfl : k = 8 := by omega
   by_cases hcode : Fl.isCode (lkC x 8) = true
   ·have HF := hid (HY.out hcode)
    have hV := HV.out
    have hK := HK.out
    rw [if_pos ⟨hn, hcode⟩] at hV hK
    subst hV hK
    clear HY HN HV HK hcode HL HC
    go_wp2_with (go_at_call 116; refine (HF.out _).mono ?_; rintro e w' ⟨rfl, hw⟩; have hw2 := hw.symm; subst hw2)
    go_ret2
    exact ⟨rfl, rfl⟩
   ·have hcode2 : Fl.isCode (lkC x 8) = false := by simpa using hcode
    have HF := hid (HN.out hcode2)
    have hV := HV.out
    have hK := HK.out
    rw [if_neg (fun h => hcode h.2)] at hV hK
    subst hV hK
    clear HY HN HV HK hcode hcode2 HL HC
    go_wp2_with (go_at_call 116; refine (HF.out _).mono ?_; rintro e w' ⟨rfl, hw⟩; have hw2 := hw.symm; subst hw2)
    go_ret2
    exact ⟨rfl, rfl⟩
set_option maxHeartbeats 400000 in
theorem leadingKey_none (a : Option Addr) (n c : Nat) (h : n < 8) (w : World) :
    Calls Tryz.prog 99 #[.slice a n c] w fun e w' => e = .returned (.tuple #[.float .f64 0, .int .i64 0]) ∧ w' = w := by
 go_enter Tryz.func99, Tryz.ntmps99
 go_wp2
 go_ret2
 exact ⟨rfl, rfl⟩
theorem ByRow.slice {w : World} {v : Value} {n : Nat} {x : Nat → Nat} (hv : ByRow w v n x) : ∃ a c, v = .slice a n c := by
 rcases hv with ⟨rfl, a, c, rfl, _⟩ | ⟨_, _, b, off, cap, rfl, _⟩
 ·exact ⟨a, c, rfl⟩
 ·exact ⟨_, _, rfl⟩
theorem leadingKey_any (v : Value) (n : Nat) (x : Nat → Nat) (w : World) (hv : ByRow w v n x) :
    Calls Tryz.prog 99 #[v] w fun e w' => e = .returned (.tuple #[.float .f64 (lkV x n), .int .i64 (lkK x n : Nat)]) ∧ w' = w := by
 by_cases h : 8 ≤ n
 ·obtain ⟨b, off, cap, rfl, hc, hnc, hm⟩ := hv.cells (by omega)
  exact leadingKey_some b off n cap x h hnc hm w hc
 ·obtain ⟨a, c, rfl⟩ := hv.slice
  rw [show lkV x n = 0 by unfold lkV; rw [if_neg (fun q => h q.1)], show lkK x n = 0 by unfold lkK; rw [if_neg (fun q => h q.1)]]
  exact leadingKey_none a n c (by omega) w
set_option maxHeartbeats 400000 in
theorem rnum_ok (R b0 n : Nat) (x : Nat → Nat) (w : World) (h : RB w R b0 n x) (hb : b0 ≠ R) (hk : lnK x n ≠ 0) :
    Calls Tryz.prog 47 #[.pointer (some ⟨R, 0, none⟩)] w fun e w' => e = .returned (.int .i64 (lnV x n)) ∧ RB w' R b0 (n - lnK x n) (sh (lnK x n) x) ∧ Chg [R] w w' := by
 obtain ⟨v, hr, hv, hne⟩ := h
 have hkn : lnK x n ≤ n := ln_le x n 11 0
 obtain ⟨b, off, cap, rfl, hc, hcp, hm⟩ := hv.cells (by omega)
 obtain rfl : b = b0 := by
  rcases hne with h | h
  ·omega
  ·simpa [Value.ownBlock] using h
 have c0 := hr.c0
 have HL := hid (leadingNum_any _ n x w hv)
 have HP := hid (pass_some R b off n cap (lnK x n) (by omega) hkn hcp hm w hr)
 have HR := hid (RB.cut hr hv hb (lnK x n) hkn)
 clear hr hv hc hne
 generalize lnV x n = V at *
 generalize lnK x n = K at *
 go_enter Tryz.func47, Tryz.ntmps47
 go_wp2_with (first | (go_at_call 73; refine HL.out.mono ?_; rintro e w' ⟨rfl, hw⟩; have hw2 := hw.symm; subst hw2) | (go_at_call 74; refine HP.out.mono ?_; rintro e w' ⟨rfl, rfl⟩))
 go_ret
 exact ⟨rfl, HR.out, Chg.set _ _ _ (by simp)⟩
set_option maxHeartbeats 400000 in
theorem rnum_no (R b0 n : Nat) (x : Nat → Nat) (w : World) (h : RB w R b0 n x) (hk : lnK x n = 0) :
    Calls Tryz.prog 47 #[.pointer (some ⟨R, 0, none⟩)] w fun e w' => e = .panicked (ended R) ∧ RF w' R 30 ∧ Chg [R] w w' := by
 obtain ⟨v, hr, hv, hne⟩ := h
 have c0 := hr.c0
 have HL := hid (leadingNum_any _ n x w hv)
 rw [hk] at HL
 have HP := hid (pass_zero R v w hr)
 have HR := hid ((hr.s1 30).s0 (.slice none 0 0))
 clear hr hv hne hk
 unfold ended
 generalize lnV x n = V at *
 go_enter Tryz.func47, Tryz.ntmps47
 go_wp2_with (first | (go_at_call 73; refine HL.out.mono ?_; rintro e w' ⟨rfl, hw⟩; have hw2 := hw.symm; subst hw2) | (go_at_call 74; refine HP.out.mono ?_; rintro e w' ⟨rfl, rfl⟩))
 exact ⟨rfl, rfl, HR.out, (Chg.set _ _ _ (by simp)).trans (Chg.set _ _ _ (by simp))⟩
set_option maxHeartbeats 400000 in
theorem rkey_ok (R b0 n : Nat) (x : Nat → Nat) (w : World) (h : RB w R b0 n x) (hb : b0 ≠ R) (hk : lkK x n ≠ 0) :
    Calls Tryz.prog 76 #[.pointer (some ⟨R, 0, none⟩)] w fun e w' => e = .returned (.float .f64 (lkV x n)) ∧ RB w' R b0 (n - lkK x n) (sh (lkK x n) x) ∧ Chg [R] w w' := by
 obtain ⟨v, hr, hv, hne⟩ := h
 have hkn : lkK x n ≤ n := lkK_le x n
 obtain ⟨b, off, cap, rfl, hc, hcp, hm⟩ := hv.cells (by omega)
 obtain rfl : b = b0 := by
  rcases hne with h | h
  ·omega
  ·simpa [Value.ownBlock] using h
 have c0 := hr.c0
 have HL := hid (leadingKey_any _ n x w hv)
 have HP := hid (pass_some R b off n cap (lkK x n) (by omega) hkn hcp hm w hr)
 have HR := hid (RB.cut hr hv hb (lkK x n) hkn)
 clear hr hv hc hne
 generalize lkV x n = V at *
 generalize lkK x n = K at *
 go_enter Tryz.func76, Tryz.ntmps76
 go_wp2_with (first | (go_at_call 99; refine HL.out.mono ?_; rintro e w' ⟨rfl, hw⟩; have hw2 := hw.symm; subst hw2) | (go_at_call 74; refine HP.out.mono ?_; rintro e w' ⟨rfl, rfl⟩))
 go_ret
 exact ⟨rfl, HR.out, Chg.set _ _ _ (by simp)⟩
set_option maxHeartbeats 400000 in
theorem rkey_no (R b0 n : Nat) (x : Nat → Nat) (w : World) (h : RB w R b0 n x) (hk : lkK x n = 0) :
    Calls Tryz.prog 76 #[.pointer (some ⟨R, 0, none⟩)] w fun e w' => e = .panicked (ended R) ∧ RF w' R 30 ∧ Chg [R] w w' := by
 obtain ⟨v, hr, hv, hne⟩ := h
 have c0 := hr.c0
 have HL := hid (leadingKey_any _ n x w hv)
 rw [hk] at HL
 have HP := hid (pass_zero R v w hr)
 have HR := hid ((hr.s1 30).s0 (.slice none 0 0))
 clear hr hv hne hk
 unfold ended
 generalize lkV x n = V at *
 go_enter Tryz.func76, Tryz.ntmps76
 go_wp2_with (first | (go_at_call 99; refine HL.out.mono ?_; rintro e w' ⟨rfl, hw⟩; have hw2 := hw.symm; subst hw2) | (go_at_call 74; refine HP.out.mono ?_; rintro e w' ⟨rfl, rfl⟩))
 exact ⟨rfl, rfl, HR.out, (Chg.set _ _ _ (by simp)).trans (Chg.set _ _ _ (by simp))⟩
set_option maxHeartbeats 400000 in
theorem rcount_ok (R b0 n : Nat) (x : Nat → Nat) (most : Int) (w : World) (h : RB w R b0 n x) (hb : b0 ≠ R) (hk : lnK x n ≠ 0) (h0 : 0 ≤ lnV x n) (hm : lnV x n ≤ most) (hmx : most ≤ 9223372036854775807) :
    Calls Tryz.prog 75 #[.pointer (some ⟨R, 0, none⟩), .int .i64 most] w fun e w' => e = .returned (.int .i64 (lnV x n)) ∧ RB w' R b0 (n - lnK x n) (sh (lnK x n) x) ∧ Chg [R] w w' := by
 have HN := hid (rnum_ok R b0 n x w h hb hk)
 clear h hk
 generalize lnV x n = V at *
 go_enter Tryz.func75, Tryz.ntmps75
 go_wp2_with (go_at_call 47; refine HN.out.mono ?_; rintro e w1 ⟨rfl, r1, g1⟩; have H1 := hid r1; clear r1)
 go_ret
 exact ⟨rfl, H1.out, g1⟩
theorem rcount_no (R b0 n : Nat) (x : Nat → Nat) (most : Int) (w : World) (h : RB w R b0 n x) (hb : b0 ≠ R) (hk : lnK x n = 0 ∨ lnV x n < 0 ∨ most < lnV x n) :
    Calls Tryz.prog 75 #[.pointer (some ⟨R, 0, none⟩), .int .i64 most] w fun e w' => e = .panicked (ended R) ∧ RF w' R 30 ∧ Chg [R] w w' := by
 obtain ⟨v, hr, hv, hne⟩ := h
 refine (count_no R n x most w ⟨v, hr, hv, hne.imp id (fun e => by rw [e]; intro q; cases q; exact hb rfl)⟩ hk).mono ?_
 rintro e w' ⟨rfl, h1, h2⟩
 exact ⟨rfl, h1, Chg.of_by h2 _ (by simp)⟩
def lbK (x : Nat → Nat) (n : Nat) : Nat := if lnK x n ≠ 0 ∧ 0 ≤ lnV x n ∧ lnV x n ≤ 4096 ∧ (lnV x n).toNat ≤ n - lnK x n then lnK x n + (lnV x n).toNat else 0
theorem lbK_le (x : Nat → Nat) (n : Nat) : lbK x n ≤ n := by
 unfold lbK; have := ln_le x n 11 0; unfold lnK; split <;> omega
theorem sh_sh (a b : Nat) (x : Nat → Nat) : sh b (sh a x) = sh (a + b) x := by funext i; simp [sh, Nat.add_assoc]
end Go.Proofs.YtajoodkapiifcaaGreat.Pk
namespace Go.Proofs.YtajoodkapiifcaaGreat.Pk
set_option maxRecDepth 20000
open Go.RowKit
set_option linter.unusedVariables false
theorem acc_congr (x y : Nat → Nat) : ∀ k, (∀ j, j < k → x j = y j) → acc x k = acc y k
 | 0, _ => rfl
 | k + 1, h => by
  show acc x k + x k % 128 * 128 ^ k = acc y k + y k % 128 * 128 ^ k
  rw [acc_congr x y k (fun j hj => h j (by omega)), h k (by omega)]
theorem ln_congr (x y : Nat → Nat) (n : Nat) (h : ∀ i, i < n → x i = y i) : ∀ f k, ln x n f k = ln y n f k
 | 0, _ => rfl
 | f + 1, k => by
  unfold ln
  by_cases h1 : k < n ∧ k < 10
  ·rw [if_pos h1, if_pos h1, h k h1.1, ln_congr x y n h f (k + 1), acc_congr x y (k + 1) (fun j hj => h j (by omega))]
  ·rw [if_neg h1, if_neg h1]
theorem ln_mono (x : Nat → Nat) (n n' : Nat) (hn : n ≤ n') : ∀ f k, (ln x n f k).2 ≠ 0 → ln x n' f k = ln x n f k
 | 0, _, h => by simp [ln] at h
 | f + 1, k, h => by
  unfold ln at h ⊢
  by_cases h1 : k < n ∧ k < 10
  ·rw [if_pos h1] at h ⊢
   rw [if_pos ⟨by omega, h1.2⟩]
   by_cases h2 : 128 ≤ x k
   ·rw [if_pos h2] at h ⊢
    rw [if_pos h2]
    exact ln_mono x n n' hn f (k + 1) h
   ·rw [if_neg h2, if_neg h2]
  ·rw [if_neg h1] at h; exact absurd rfl h
theorem lkC_congr (x y : Nat → Nat) : ∀ k, (∀ j, j < k → x j = y j) → lkC x k = lkC y k
 | 0, _ => rfl
 | k + 1, h => by
  show lkC x k * 256 + x k = lkC y k * 256 + y k
  rw [lkC_congr x y k (fun j hj => h j (by omega)), h k (by omega)]
theorem lnK_mono (x : Nat → Nat) (n n' : Nat) (hn : n ≤ n') (h : lnK x n ≠ 0) : lnK x n' = lnK x n ∧ lnV x n' = lnV x n := by
 have e := ln_mono x n n' hn 11 0 h
 unfold lnK lnV
 rw [e]; exact ⟨rfl, rfl⟩
theorem gd_left (L M : List Nat) (i : Nat) (h : i < L.length) : gd (L ++ M) i = gd L i := by
 unfold gd; simp [List.getD, List.getElem?_append_left h]
theorem gd_right (L M : List Nat) (i : Nat) : gd (L ++ M) (L.length + i) = gd M i := by
 unfold gd; simp [List.getD, List.getElem?_append_right (Nat.le_add_right _ _)]
theorem num_at_head (z : Int) (h1 : -9223372036854775808 ≤ z) (h2 : z ≤ 9223372036854775807) (x : Nat → Nat) (n : Nat) (hn : (numL z).length ≤ n) (hx : ∀ i, i < (numL z).length → x i = gd (numL z) i) : lnV x n = z ∧ lnK x n = (numL z).length := by
 obtain ⟨r1, r2⟩ := num_read z h1 h2
 have hp := (num_len z h1 h2).1
 have e : ln x (numL z).length 11 0 = ln (gd (numL z)) (numL z).length 11 0 := ln_congr _ _ _ hx 11 0
 have k1 : lnK x (numL z).length = (numL z).length := by refine Eq.trans ?_ r2; unfold lnK; rw [e]
 have v1 : lnV x (numL z).length = z := by refine Eq.trans ?_ r1; unfold lnV; rw [e]
 obtain ⟨q1, q2⟩ := lnK_mono x (numL z).length n hn (by omega)
 exact ⟨q2.trans v1, q1.trans k1⟩
theorem key_read (c : Nat) (hc : c < 18446744073709551616) (x : Nat → Nat) (hx : ∀ i, i < 8 → x i = gd (keyL c 8) i) : lkC x 8 = c := by
 have e : keyL c 8 = [c / 72057594037927936 % 256, c / 281474976710656 % 256, c / 1099511627776 % 256, c / 4294967296 % 256, c / 16777216 % 256, c / 65536 % 256, c / 256 % 256, c % 256] := by simp [keyL]
 rw [e] at hx
 have h0 := hx 0 (by omega)
 have h1 := hx 1 (by omega)
 have h2 := hx 2 (by omega)
 have h3 := hx 3 (by omega)
 have h4 := hx 4 (by omega)
 have h5 := hx 5 (by omega)
 have h6 := hx 6 (by omega)
 have h7 := hx 7 (by omega)
 simp [gd] at h0 h1 h2 h3 h4 h5 h6 h7
 have ec : lkC x 8 = x 0 * 72057594037927936 + x 1 * 281474976710656 + x 2 * 1099511627776 + x 3 * 4294967296 + x 4 * 16777216 + x 5 * 65536 + x 6 * 256 + x 7 := by simp [lkC]; omega
 rw [ec, h0, h1, h2, h3, h4, h5, h6, h7]
 omega
end Go.Proofs.YtajoodkapiifcaaGreat.Pk
namespace Go.Proofs.YtajoodkapiifcaaGreat.Pk
set_option linter.unusedSimpArgs false
set_option maxRecDepth 20000
open Go.ChangeShapes Go.WideShapes Go.RowKit Go.Joins
set_option linter.unusedVariables false
attribute [local go_sem] run_bits run_frombits run_store_float
theorem acc_shift (x : Nat → Nat) : ∀ k, acc x (k + 1) = x 0 % 128 + 128 * acc (sh 1 x) k
 | 0 => by simp [acc]
 | k + 1 => by
  have h := acc_shift x k
  show acc x (k + 1) + x (k + 1) % 128 * 128 ^ (k + 1) = x 0 % 128 + 128 * (acc (sh 1 x) k + sh 1 x k % 128 * 128 ^ k)
  rw [h, show sh 1 x k = x (k + 1) by simp [sh, Nat.add_comm], Nat.pow_succ, Nat.mul_add]
  have e : x (k + 1) % 128 * (128 ^ k * 128) = 128 * (x (k + 1) % 128 * 128 ^ k) := by rw [Nat.mul_comm (128 ^ k) 128, Nat.mul_left_comm]
  omega
theorem acc_pos (x : Nat → Nat) (i : Nat) (h : x i % 128 ≠ 0) : 0 < acc x (i + 1) := by
 show 0 < acc x i + x i % 128 * 128 ^ i
 have h1 : 0 < x i % 128 * 128 ^ i := Nat.mul_pos (by omega) (Nat.pow_pos (by omega))
 omega
theorem byL_succ (n : Nat) (x : Nat → Nat) : byL (n + 1) x = x 0 :: byL n (sh 1 x) := by
 unfold byL
 rw [List.range_succ_eq_map]
 simp [sh, Function.comp_def, Nat.add_comm]
theorem byL_add (a b : Nat) (x : Nat → Nat) : byL (a + b) x = byL a x ++ byL b (sh a x) := by
 apply List.ext_getElem?
 intro i
 by_cases h : i < a
 ·rw [List.getElem?_append_left (by rw [byL_len]; exact h)]
  simp [byL, h, show i < a + b by omega]
 ·rw [List.getElem?_append_right (by rw [byL_len]; omega), byL_len]
  by_cases h2 : i < a + b
  ·simp [byL, h2, show i - a < b by omega, sh, show a + (i - a) = i by omega]
  ·simp [byL, h2, show ¬ i - a < b by omega]
theorem grp_of : ∀ (i f : Nat) (x : Nat → Nat), i ≤ f → (∀ j, j < i → 128 ≤ x j ∧ x j < 256) → x i < 128 → (0 < i → x i ≠ 0) → grp f (acc x (i + 1)) = byL (i + 1) x
 | 0, f, x, _, _, h, _ => by
  have e : acc x 1 = x 0 := by simp [acc]; omega
  rw [e, grp_small f _ h]
  simp [byL]
 | i + 1, f, x, hf, hj, h, hz => by
  obtain ⟨f', rfl⟩ : ∃ f', f = f' + 1 := ⟨f - 1, by omega⟩
  have hs : ∀ j, sh 1 x j = x (j + 1) := fun j => by simp [sh, Nat.add_comm]
  have ih := grp_of i f' (sh 1 x) (by omega) (fun j hj2 => by rw [hs]; exact hj (j + 1) (by omega)) (by rw [hs]; exact h) (fun _ => by rw [hs]; exact hz (by omega))
  have hp := acc_pos (sh 1 x) i (by rw [hs]; have := hz (by omega); omega)
  have h0 := hj 0 (by omega)
  have e := acc_shift x (i + 1)
  rw [grp_big f' _ (by omega), byL_succ, ← ih]
  rw [show acc x (i + 1 + 1) % 128 + 128 = x 0 by omega, show acc x (i + 1 + 1) / 128 = acc (sh 1 x) (i + 1) by omega]
theorem ln_form (x : Nat → Nat) (n : Nat) : ∀ f k, k + f = 11 → (ln x n f k).2 ≠ 0 → (∀ j, j < k → 128 ≤ x j) → ∃ i, k ≤ i ∧ i < 10 ∧ i < n ∧ (∀ j, j < i → 128 ≤ x j) ∧ x i < 128 ∧ (0 < i → x i ≠ 0) ∧ ln x n f k = (unf (acc x (i + 1)), i + 1)
 | 0, k, _, h, _ => by simp [ln] at h
 | f + 1, k, hk, h, hj => by
  unfold ln at h ⊢
  by_cases h1 : k < n ∧ k < 10
  ·rw [if_pos h1] at h ⊢
   by_cases h2 : 128 ≤ x k
   ·rw [if_pos h2] at h ⊢
    obtain ⟨i, q1, q2⟩ := ln_form x n f (k + 1) (by omega) h (fun j hj2 => by
     by_cases e : j = k
     ·subst e; exact h2
     ·exact hj j (by omega))
    exact ⟨i, by omega, q2⟩
   ·rw [if_neg h2] at h ⊢
    by_cases h3 : (0 < k ∧ x k = 0) ∨ (k = 9 ∧ 1 < x k)
    ·rw [if_pos h3] at h; exact absurd rfl h
    ·rw [if_neg h3] at h ⊢
     exact ⟨k, Nat.le_refl _, h1.2, h1.1, hj, by omega, fun h0 e => h3 (.inl ⟨h0, e⟩), rfl⟩
  ·rw [if_neg h1] at h; exact absurd rfl h
theorem num_back (x : Nat → Nat) (n : Nat) (hx : ∀ i, i < n → x i < 256) (h : lnK x n ≠ 0) : numL (lnV x n) = byL (lnK x n) x := by
 obtain ⟨i, _, h1, h2, h3, h4, h5, h6⟩ := ln_form x n 11 0 rfl h (fun j hj => by omega)
 unfold lnV lnK numL
 rw [h6]
 simp only [fold_unf]
 exact grp_of i 10 x (by omega) (fun j hj => ⟨h3 j hj, hx j (by omega)⟩) h4 h5
theorem key_back (x : Nat → Nat) (hx : ∀ i, i < 8 → x i < 256) : keyL (lkC x 8) 8 = byL 8 x := by
 have h0 := hx 0 (by omega)
 have h1 := hx 1 (by omega)
 have h2 := hx 2 (by omega)
 have h3 := hx 3 (by omega)
 have h4 := hx 4 (by omega)
 have h5 := hx 5 (by omega)
 have h6 := hx 6 (by omega)
 have h7 := hx 7 (by omega)
 have e : byL 8 x = [x 0, x 1, x 2, x 3, x 4, x 5, x 6, x 7] := rfl
 rw [e]
 have ec : lkC x 8 = x 0 * 72057594037927936 + x 1 * 281474976710656 + x 2 * 1099511627776 + x 3 * 4294967296 + x 4 * 16777216 + x 5 * 65536 + x 6 * 256 + x 7 := by simp [lkC]; omega
 generalize lkC x 8 = c at *
 simp [keyL]
 omega
theorem lnV_in (x : Nat → Nat) (n : Nat) (hx : ∀ i, i < n → x i < 256) : -9223372036854775808 ≤ lnV x n ∧ lnV x n ≤ 9223372036854775807 := by
 have go : ∀ f k, k + f = 11 → -9223372036854775808 ≤ (ln x n f k).1 ∧ (ln x n f k).1 ≤ 9223372036854775807 := by
  intro f
  induction f with
  | zero => intro k _; unfold ln; exact ⟨by decide, by decide⟩
  | succ f ih =>
   intro k hk
   unfold ln
   split
   ·split
    ·exact ih (k + 1) (by omega)
    ·split
     ·exact ⟨by decide, by decide⟩
     ·next h1 h2 h3 =>
      apply unf_in
      have ha := acc_lt x k
      show acc x k + x k % 128 * 128 ^ k < _
      by_cases h9 : k = 9
      ·subst h9
       have : x 9 % 128 ≤ 1 := by omega
       have e : (128 : Nat) ^ 9 = 9223372036854775808 := by decide
       rw [e] at *
       have : x 9 % 128 * 9223372036854775808 ≤ 1 * 9223372036854775808 := Nat.mul_le_mul_right _ this
       omega
      ·have hp : (128 : Nat) ^ (k + 1) ≤ 128 ^ 9 := Nat.pow_le_pow_right (by omega) (by omega)
       have e : (128 : Nat) ^ 9 = 9223372036854775808 := by decide
       have := acc_lt x (k + 1)
       have e2 : acc x (k + 1) = acc x k + x k % 128 * 128 ^ k := rfl
       omega
   ·exact ⟨by decide, by decide⟩
 exact go 11 0 rfl
theorem canon_of (c : Nat) (hc : c < 18446744073709551616) (h : Fl.isCode c = true) : Fl.canon (Fl.of c) = Fl.of c := by
 have e := Fl.of_code (Fl.of c) (Fl.of_lt c hc)
 rw [Fl.code_of c hc h] at e
 exact e.symm
theorem pow9 (t : Nat) (ht : t ≤ 9) : (128 : Nat) ^ t ≤ 9223372036854775808 := by
 have h : (128 : Nat) ^ t ≤ 128 ^ 9 := Nat.pow_le_pow_right (by omega) ht
 have e : (128 : Nat) ^ 9 = 9223372036854775808 := by decide
 omega
set_option maxHeartbeats 4000000 in
theorem refGetNum_some (b off n cap : Nat) (x : Nat → Nat) (hm : n ≤ maxLen) (w : World) (hc : ∀ i, i < n → x i < 256 ∧ w.cell? ⟨b, off + i, none⟩ = some (.int .u8 (x i : Int))) :
    Calls Tryz.prog 26 #[.slice (some ⟨b, off, none⟩) n cap] w fun e w' => e = .returned (.tuple #[.int .i64 (lnV x n), .int .i64 (lnK x n : Nat)]) ∧ w' = w := by
 unfold maxLen at hm
 have HC := hid hc
 clear hc
 have HG : Hid (lnV x n = (ln x n 11 0).1 ∧ lnK x n = (ln x n 11 0).2) := ⟨rfl, rfl⟩
 generalize lnV x n = V at *
 generalize lnK x n = K at *
 go_enter Tryz.func26, Tryz.ntmps26
 go_wp2
 go_loop [4, 5] (fun u i => ∃ k : Nat, k ≤ 9 ∧ i = .int .i64 (k : Nat) ∧ u = .int .u64 (acc x k : Nat) ∧ V = (ln x n (11 - k) k).1 ∧ K = (ln x n (11 - k) k).2) (fun _ i => 10 - (intOf i).toNat)
 case atStart => exact ⟨0, by omega, rfl, rfl, HG.out.1, HG.out.2⟩
 case round =>
  obtain ⟨k, hk, rfl, rfl, hV, hK⟩ := hrel
  have H1 := hid hV
  have H2 := hid hK
  clear hV hK HG
  by_cases hlt : k < n
  ·obtain ⟨hx, hcell⟩ := HC.out k hlt
   clear HC
   have hA := acc_lt x k
   have hp9 := pow9 k hk
   have l10 : (k : Int) < 10 := by omega
   by_cases hb : (k = 9 ∧ 1 < x k) ∨ (0 < k ∧ x k = 0)
   ·have hz : ln x n (11 - k) k = (0, 0) := by
      by_cases h128 : 128 ≤ x k
      ·have h9 : k = 9 := by omega
       rw [ln_go x n k hlt (by omega) h128, h9]
       exact ln_stop x n _ _ (by omega)
      ·exact ln_bad x n k hlt (by omega) h128 (by omega)
    have hV := H1.out
    have hK := H2.out
    rw [hz] at hV hK
    subst hV hK
    clear hz H1 H2 hA hp9
    by_cases h9 : k = 9 ∧ 1 < x k
    ·obtain ⟨h9a, h9b⟩ := h9
     have t1 : ((k : Int) == 9) = true := by rw [h9a]; rfl
     have t2 : decide ((1 : Int) < (x k : Int)) = true := by rw [decide_eq_true_eq]; omega
     clear hb h9a h9b
     generalize acc x k = A at *
     go_wp2
     go_ret2
     exact ⟨rfl, rfl⟩
    ·have h0 : 0 < k ∧ x k = 0 := by rcases hb with h | h; exact absurd h h9; exact h
     obtain ⟨h0a, h0b⟩ := h0
     have t2 : ((x k : Int) == 0) = true := by rw [h0b]; rfl
     have t3 : decide ((1 : Int) < (x k : Int)) = false := by rw [h0b]; rfl
     by_cases h9k : k = 9
     ·have t4 : ((k : Int) == 9) = true := by rw [h9k]; rfl
      clear hb h9 h0b h9k
      generalize acc x k = A at *
      go_wp2
      go_ret2
      exact ⟨rfl, rfl⟩
     ·have t4 : ((k : Int) == 9) = false := by rw [beq_eq_false_iff_ne]; omega
      clear hb h9 h0b h9k
      generalize acc x k = A at *
      go_wp2
      go_ret2
      exact ⟨rfl, rfl⟩
   ·have hacc : acc x (k + 1) = acc x k + x k % 128 * 128 ^ k := rfl
    have hD : (((k : Int) == 9) = true ∧ decide ((1 : Int) < (x k : Int)) = false ∧ 0 < k ∧ ((x k : Int) == 0) = false) ∨ (((k : Int) == 9) = false ∧ True ∧ 0 < k ∧ ((x k : Int) == 0) = false) ∨ (((k : Int) == 9) = false ∧ True ∧ ¬ 0 < k ∧ True) := by
     by_cases h9 : k = 9
     ·left
      refine ⟨by rw [h9]; rfl, by rw [decide_eq_false_iff_not]; omega, by omega, by rw [beq_eq_false_iff_ne]; omega⟩
     ·right
      by_cases h0 : 0 < k
      ·left
       exact ⟨by rw [beq_eq_false_iff_ne]; omega, trivial, h0, by rw [beq_eq_false_iff_ne]; omega⟩
      ·right
       exact ⟨by rw [beq_eq_false_iff_ne]; omega, trivial, h0, trivial⟩
    have hsm : ∀ t, t ≤ k → x k % 128 * 128 ^ t ≤ 9223372036854775808 ∧ (t < k → x k % 128 * 128 ^ t * 128 = x k % 128 * 128 ^ (t + 1)) := by
     intro t ht
     refine ⟨?_, fun _ => by rw [Nat.pow_succ, Nat.mul_assoc]⟩
     by_cases h9 : k = 9
     ·have : x k % 128 ≤ 1 := by omega
      have h2 := pow9 t (by omega)
      have : x k % 128 * 128 ^ t ≤ 1 * 128 ^ t := Nat.mul_le_mul_right _ this
      omega
     ·have h3 : x k % 128 * 128 ^ t ≤ 127 * 128 ^ t := Nat.mul_le_mul_right _ (by omega)
      have h4 : (128 : Nat) ^ t ≤ 128 ^ 8 := Nat.pow_le_pow_right (by omega) (by omega)
      have e : (128 : Nat) ^ 8 = 72057594037927936 := by decide
      omega
    have HSm := hid hsm
    have hbnd : acc x (k + 1) < 18446744073709551616 := by
     have := (hsm k (Nat.le_refl _)).1
     omega
    have HAcc := hid hacc
    have HBnd := hid hbnd
    have HBad := hid hb
    have hAk : acc x k < 9223372036854775808 := by omega
    clear hacc hbnd hsm hb hA hp9
    rcases hD with ⟨t1, t2, t3, t4⟩ | ⟨t1, t2, t3, t4⟩ | ⟨t1, t2, t3, t4⟩
    ·skip
     generalize hA : acc x k = A at *
     go_wp2
     go_loop [6, 7] (fun q j => ∃ t : Nat, t ≤ k ∧ j = .int .i64 (t : Nat) ∧ q = .int .u64 ((x k % 128 * 128 ^ t : Nat) : Int)) (fun _ j => k - (intOf j).toNat)
     case atStart => exact ⟨0, Nat.zero_le _, rfl, by simp⟩
     case round =>
      obtain ⟨t, ht, rfl, rfl⟩ := hrel
      obtain ⟨s1, s2⟩ := HSm.out t ht
      by_cases htk : t < k
      ·have s3 := s2 htk
       have eW : IntKind.u64.wrap (((x k % 128 * 128 ^ t : Nat) : Int) * 128) = ((x k % 128 * 128 ^ (t + 1) : Nat) : Int) := by
        have := (HSm.out (t + 1) htk).1
        rw [IntKind.wrap_u64]; omega
       clear s2 s3
       have HS1 := hid s1
       clear s1
       generalize x k % 128 * 128 ^ t = B at *
       go_wp2
       go_round
       case rel => exact ⟨t + 1, htk, by go_num, by simp⟩
       case measure => simp [intOf]; omega
      ·obtain rfl : k = t := by omega
       have hU : A + x k % 128 * 128 ^ k < 18446744073709551616 := by rw [← HAcc.out]; exact HBnd.out
       have HEnd := hid (ln_end x n k hlt (by omega))
       have HGo := hid (ln_go x n k hlt (by omega))
       rw [HAcc.out] at HEnd
       have HAc2 := hid HAcc.out
       clear HSm HAcc HBnd s1 s2 htk
       generalize x k % 128 * 128 ^ k = B at *
       have eS : IntKind.u64.wrap ((A : Int) + (B : Int)) = ((A + B : Nat) : Int) := by rw [IntKind.wrap_u64]; omega
       by_cases h128 : 128 ≤ x k
       ·have t6 : decide ((x k : Int) < 128) = false := by rw [decide_eq_false_iff_not]; omega
        have hk8 : k ≤ 8 := by have := HBad.out; omega
        have HL := hid (HGo.out h128)
        clear h128 HEnd HGo
        go_wp2
        go_round
        case rel => exact ⟨k + 1, by omega, by go_num, by rw [HAc2.out]; simp, by rw [← HL.out]; exact H1.out, by rw [← HL.out]; exact H2.out⟩
        case measure => simp [intOf]; omega
       ·have t6 : decide ((x k : Int) < 128) = true := by rw [decide_eq_true_eq]; omega
        have hE := HEnd.out h128 (by have := HBad.out; omega)
        have hV : Hid (V = unf (A + B)) := by have h := H1.out; rw [hE] at h; exact h
        have hK : Hid (K = k + 1) := by have h := H2.out; rw [hE] at h; exact h
        clear hE HEnd HGo H1 H2 HBad h128 HAc2
        generalize A + B = U at *
        by_cases hpar : U % 2 = 1
        ·have t7 : ((U : Int) % 2 == 1) = true := by rw [beq_iff_eq]; omega
         have hun : unf U = -((U / 2 : Nat) : Int) - 1 := by unfold unf; rw [if_neg (by omega)]
         clear hpar
         go_wp2
         go_ret2
         exact ⟨by rw [hV.out, hK.out, hun]; rfl, rfl⟩
        ·have t7 : ((U : Int) % 2 == 1) = false := by rw [beq_eq_false_iff_ne]; omega
         have hun : unf U = ((U / 2 : Nat) : Int) := by unfold unf; rw [if_pos (by omega)]
         clear hpar
         go_wp2
         go_ret2
         exact ⟨by rw [hV.out, hK.out, hun]; rfl, rfl⟩
    ·skip
     generalize hA : acc x k = A at *
     go_wp2
     go_loop [6, 7] (fun q j => ∃ t : Nat, t ≤ k ∧ j = .int .i64 (t : Nat) ∧ q = .int .u64 ((x k % 128 * 128 ^ t : Nat) : Int)) (fun _ j => k - (intOf j).toNat)
     case atStart => exact ⟨0, Nat.zero_le _, rfl, by simp⟩
     case round =>
      obtain ⟨t, ht, rfl, rfl⟩ := hrel
      obtain ⟨s1, s2⟩ := HSm.out t ht
      by_cases htk : t < k
      ·have s3 := s2 htk
       have eW : IntKind.u64.wrap (((x k % 128 * 128 ^ t : Nat) : Int) * 128) = ((x k % 128 * 128 ^ (t + 1) : Nat) : Int) := by
        have := (HSm.out (t + 1) htk).1
        rw [IntKind.wrap_u64]; omega
       clear s2 s3
       have HS1 := hid s1
       clear s1
       generalize x k % 128 * 128 ^ t = B at *
       go_wp2
       go_round
       case rel => exact ⟨t + 1, htk, by go_num, by simp⟩
       case measure => simp [intOf]; omega
      ·obtain rfl : k = t := by omega
       have hU : A + x k % 128 * 128 ^ k < 18446744073709551616 := by rw [← HAcc.out]; exact HBnd.out
       have HEnd := hid (ln_end x n k hlt (by omega))
       have HGo := hid (ln_go x n k hlt (by omega))
       rw [HAcc.out] at HEnd
       have HAc2 := hid HAcc.out
       clear HSm HAcc HBnd s1 s2 htk
       generalize x k % 128 * 128 ^ k = B at *
       have eS : IntKind.u64.wrap ((A : Int) + (B : Int)) = ((A + B : Nat) : Int) := by rw [IntKind.wrap_u64]; omega
       by_cases h128 : 128 ≤ x k
       ·have t6 : decide ((x k : Int) < 128) = false := by rw [decide_eq_false_iff_not]; omega
        have hk8 : k ≤ 8 := by have := HBad.out; omega
        have HL := hid (HGo.out h128)
        clear h128 HEnd HGo
        go_wp2
        go_round
        case rel => exact ⟨k + 1, by omega, by go_num, by rw [HAc2.out]; simp, by rw [← HL.out]; exact H1.out, by rw [← HL.out]; exact H2.out⟩
        case measure => simp [intOf]; omega
       ·have t6 : decide ((x k : Int) < 128) = true := by rw [decide_eq_true_eq]; omega
        have hE := HEnd.out h128 (by have := HBad.out; omega)
        have hV : Hid (V = unf (A + B)) := by have h := H1.out; rw [hE] at h; exact h
        have hK : Hid (K = k + 1) := by have h := H2.out; rw [hE] at h; exact h
        clear hE HEnd HGo H1 H2 HBad h128 HAc2
        generalize A + B = U at *
        by_cases hpar : U % 2 = 1
        ·have t7 : ((U : Int) % 2 == 1) = true := by rw [beq_iff_eq]; omega
         have hun : unf U = -((U / 2 : Nat) : Int) - 1 := by unfold unf; rw [if_neg (by omega)]
         clear hpar
         go_wp2
         go_ret2
         exact ⟨by rw [hV.out, hK.out, hun]; rfl, rfl⟩
        ·have t7 : ((U : Int) % 2 == 1) = false := by rw [beq_eq_false_iff_ne]; omega
         have hun : unf U = ((U / 2 : Nat) : Int) := by unfold unf; rw [if_pos (by omega)]
         clear hpar
         go_wp2
         go_ret2
         exact ⟨by rw [hV.out, hK.out, hun]; rfl, rfl⟩
    ·skip
     generalize hA : acc x k = A at *
     go_wp2
     go_loop [6, 7] (fun q j => ∃ t : Nat, t ≤ k ∧ j = .int .i64 (t : Nat) ∧ q = .int .u64 ((x k % 128 * 128 ^ t : Nat) : Int)) (fun _ j => k - (intOf j).toNat)
     case atStart => exact ⟨0, Nat.zero_le _, rfl, by simp⟩
     case round =>
      obtain ⟨t, ht, rfl, rfl⟩ := hrel
      obtain ⟨s1, s2⟩ := HSm.out t ht
      by_cases htk : t < k
      ·have s3 := s2 htk
       have eW : IntKind.u64.wrap (((x k % 128 * 128 ^ t : Nat) : Int) * 128) = ((x k % 128 * 128 ^ (t + 1) : Nat) : Int) := by
        have := (HSm.out (t + 1) htk).1
        rw [IntKind.wrap_u64]; omega
       clear s2 s3
       have HS1 := hid s1
       clear s1
       generalize x k % 128 * 128 ^ t = B at *
       go_wp2
       go_round
       case rel => exact ⟨t + 1, htk, by go_num, by simp⟩
       case measure => simp [intOf]; omega
      ·obtain rfl : k = t := by omega
       have hU : A + x k % 128 * 128 ^ k < 18446744073709551616 := by rw [← HAcc.out]; exact HBnd.out
       have HEnd := hid (ln_end x n k hlt (by omega))
       have HGo := hid (ln_go x n k hlt (by omega))
       rw [HAcc.out] at HEnd
       have HAc2 := hid HAcc.out
       clear HSm HAcc HBnd s1 s2 htk
       generalize x k % 128 * 128 ^ k = B at *
       have eS : IntKind.u64.wrap ((A : Int) + (B : Int)) = ((A + B : Nat) : Int) := by rw [IntKind.wrap_u64]; omega
       by_cases h128 : 128 ≤ x k
       ·have t6 : decide ((x k : Int) < 128) = false := by rw [decide_eq_false_iff_not]; omega
        have hk8 : k ≤ 8 := by have := HBad.out; omega
        have HL := hid (HGo.out h128)
        clear h128 HEnd HGo
        go_wp2
        go_round
        case rel => exact ⟨k + 1, by omega, by go_num, by rw [HAc2.out]; simp, by rw [← HL.out]; exact H1.out, by rw [← HL.out]; exact H2.out⟩
        case measure => simp [intOf]; omega
       ·have t6 : decide ((x k : Int) < 128) = true := by rw [decide_eq_true_eq]; omega
        have hE := HEnd.out h128 (by have := HBad.out; omega)
        have hV : Hid (V = unf (A + B)) := by have h := H1.out; rw [hE] at h; exact h
        have hK : Hid (K = k + 1) := by have h := H2.out; rw [hE] at h; exact h
        clear hE HEnd HGo H1 H2 HBad h128 HAc2
        generalize A + B = U at *
        by_cases hpar : U % 2 = 1
        ·have t7 : ((U : Int) % 2 == 1) = true := by rw [beq_iff_eq]; omega
         have hun : unf U = -((U / 2 : Nat) : Int) - 1 := by unfold unf; rw [if_neg (by omega)]
         clear hpar
         go_wp2
         go_ret2
         exact ⟨by rw [hV.out, hK.out, hun]; rfl, rfl⟩
        ·have t7 : ((U : Int) % 2 == 1) = false := by rw [beq_eq_false_iff_ne]; omega
         have hun : unf U = ((U / 2 : Nat) : Int) := by unfold unf; rw [if_pos (by omega)]
         clear hpar
         go_wp2
         go_ret2
         exact ⟨by rw [hV.out, hK.out, hun]; rfl, rfl⟩
  ·have hz := ln_stop x n (11 - k) k (by omega)
   have hV := H1.out
   have hK := H2.out
   rw [hz] at hV hK
   subst hV hK
   clear hz
   go_wp2
   all_goals go_ret2
   all_goals exact ⟨rfl, rfl⟩
set_option maxHeartbeats 400000 in
theorem refGetNum_none (a : Option Addr) (c : Nat) (w : World) :
    Calls Tryz.prog 26 #[.slice a 0 c] w fun e w' => e = .returned (.tuple #[.int .i64 0, .int .i64 0]) ∧ w' = w := by
 go_enter Tryz.func26, Tryz.ntmps26
 go_wp2
 refine wp_loop_rounds 1 ?_
 rw [rounds_succ]
 go_wp2
 go_ret2
 exact ⟨rfl, rfl⟩
theorem refGetNum_any (v : Value) (n : Nat) (x : Nat → Nat) (w : World) (hv : ByRow w v n x) :
    Calls Tryz.prog 26 #[v] w fun e w' => e = .returned (.tuple #[.int .i64 (lnV x n), .int .i64 (lnK x n : Nat)]) ∧ w' = w := by
 rcases hv with ⟨rfl, a, c, rfl, _⟩ | ⟨hn, hm, b, off, cap, rfl, hc, _⟩
 ·have h := ln_stop x 0 11 0 (by omega)
  rw [show lnV x 0 = 0 by unfold lnV; rw [h], show lnK x 0 = 0 by unfold lnK; rw [h]]
  exact refGetNum_none a c w
 ·exact refGetNum_some b off n cap x hm w hc
def BoxR (w : World) (b : Nat) (p : Array Value) : Prop := w.heap[b]? = some (.cells p 84 (0, 0))
theorem BoxR.up {w w' : World} {b : Nat} {p : Array Value} (h : BoxR w b p) (u : Up w w') : BoxR w' b p := (u.block b (lt_of_block h)).trans h
theorem BoxR.cell {w : World} {b : Nat} {p : Array Value} (h : BoxR w b p) (j : Nat) (u : Value) (hj : p[j]? = some u) : w.cell? ⟨b, j, none⟩ = some u := by unfold BoxR at h; simp [World.cell?, h, hj]
theorem BoxR.put {w : World} {b : Nat} {p : Array Value} (h : BoxR w b p) (j : Nat) (u : Value) : BoxR (w.setCell ⟨b, j, none⟩ u) b (p.setIfInBounds j u) := heap_setCell_same w b j _ _ u h
theorem BoxR.free {w : World} {b : Nat} {p : Array Value} (h : BoxR w b p) (j : Nat) : w.frozen? ⟨b, j, none⟩ = false := by unfold BoxR at h; simp [World.frozen?, h]
theorem BoxR.lt {w : World} {b : Nat} {p : Array Value} (h : BoxR w b p) : b < w.heap.size := lt_of_block h
theorem boxes (w : World) (q : Int) : (BoxR ((w.alloc (.cells #[.int .i64 0, .int .i64 0, .float .f64 0, .slice none 0 0, .bool false] 84)).alloc (.cells #[.int .i64 q, .int .i64 0, .float .f64 0, .slice none 0 0, .bool false] 84)) w.heap.size #[.int .i64 0, .int .i64 0, .float .f64 0, .slice none 0 0, .bool false] ∧ BoxR ((w.alloc (.cells #[.int .i64 0, .int .i64 0, .float .f64 0, .slice none 0 0, .bool false] 84)).alloc (.cells #[.int .i64 q, .int .i64 0, .float .f64 0, .slice none 0 0, .bool false] 84)) (w.heap.size + 1) #[.int .i64 q, .int .i64 0, .float .f64 0, .slice none 0 0, .bool false]) ∧ Up w ((w.alloc (.cells #[.int .i64 0, .int .i64 0, .float .f64 0, .slice none 0 0, .bool false] 84)).alloc (.cells #[.int .i64 q, .int .i64 0, .float .f64 0, .slice none 0 0, .bool false] 84)) := by
 refine ⟨⟨?_, ?_⟩, ((Up.refl w).alloc _).alloc _⟩
 ·unfold BoxR; rw [Below.heap_alloc _ _ _ (by simp)]; exact heap_new _ _
 ·have := heap_new (w.alloc (.cells #[.int .i64 0, .int .i64 0, .float .f64 0, .slice none 0 0, .bool false] 84)) (.cells #[.int .i64 q, .int .i64 0, .float .f64 0, .slice none 0 0, .bool false] 84)
  rw [show (w.alloc (.cells #[.int .i64 0, .int .i64 0, .float .f64 0, .slice none 0 0, .bool false] 84)).heap.size = w.heap.size + 1 by simp] at this
  exact this
def OneK (w : World) (n : Nat) (x : Nat → Nat) (e : Ending) (w' : World) : Prop := ∃ X : Nat, e = .returned (.tuple #[.agg #[.int .i64 2, .int .i64 0, .float .f64 X, .slice none 0 0, .bool false], .int .i64 (lkK x n : Nat)]) ∧ (lkK x n ≠ 0 → X = lkV x n) ∧ Up w w'
set_option maxHeartbeats 400000 in
theorem one_2short (v : Value) (n : Nat) (x : Nat → Nat) (w : World) (hv : ByRow w v n x) (hn : n < 8) :
    Calls Tryz.prog 50 #[v, .int .i64 2] w fun e w' => OneK w n x e w' := by
 have HK : lkK x n = 0 := by unfold lkK; rw [if_neg (by omega)]
 obtain ⟨va, vc, rfl⟩ := hv.slice
 unfold OneK
 rw [HK]
 clear hv HK
 go_enter Tryz.func50, Tryz.ntmps50
 go_upto_region 2 with fail
 have hbx := boxes w 2
 generalize ((w.alloc (.cells #[.int .i64 0, .int .i64 0, .float .f64 0, .slice none 0 0, .bool false] 84)).alloc (.cells #[.int .i64 2, .int .i64 0, .float .f64 0, .slice none 0 0, .bool false] 84)) = WW at hbx ⊢
 obtain ⟨⟨hb4, hb5⟩, uW⟩ := hbx
 have q0 := (hb5).cell 0 _ rfl
 have q1 := (hb5).cell 1 _ rfl
 have q2 := (hb5).cell 2 _ rfl
 have q3 := (hb5).cell 3 _ rfl
 have q4 := (hb5).cell 4 _ rfl
 have p0 := (hb4).cell 0 _ rfl
 have p1 := (hb4).cell 1 _ rfl
 have p2 := (hb4).cell 2 _ rfl
 have p3 := (hb4).cell 3 _ rfl
 have p4 := (hb4).cell 4 _ rfl
 have z0 := (hb4).free 0
 have z1 := (hb4).free 1
 have z2 := (hb4).free 2
 have z3 := (hb4).free 3
 have z4 := (hb4).free 4
 have HX4 := hid (hb4)
 clear hb4 hb5
 go_wp2
 have hfin := (((((HX4.out.put 0 (.int .i64 2)).put 1 (.int .i64 0)).put 2 (.float .f64 0)).put 3 (.slice none 0 0)).put 4 (.bool false))
 have UF : Up w (((((WW.setCell ⟨w.heap.size, 0, none⟩ (.int .i64 2)).setCell ⟨w.heap.size, 1, none⟩ (.int .i64 0)).setCell ⟨w.heap.size, 2, none⟩ (.float .f64 0)).setCell ⟨w.heap.size, 3, none⟩ (.slice none 0 0)).setCell ⟨w.heap.size, 4, none⟩ (.bool false)) := (((((uW).setCell (Nat.le_refl _) _).setCell (Nat.le_refl _) _).setCell (Nat.le_refl _) _).setCell (Nat.le_refl _) _).setCell (Nat.le_refl _) _
 have g0 := hfin.cell 0 (.int .i64 2) rfl
 have g1 := hfin.cell 1 (.int .i64 0) rfl
 have g2 := hfin.cell 2 (.float .f64 0) rfl
 have g3 := hfin.cell 3 (.slice none 0 0) rfl
 have g4 := hfin.cell 4 (.bool false) rfl
 refine bodyPost_ret (v := .tuple #[.agg #[.int .i64 2, .int .i64 0, .float .f64 0, .slice none 0 0, .bool false], .int .i64 0]) (by simp [results, Tryz.results50, go_sem, g0, g1, g2, g3, g4]) rfl ⟨0, rfl, fun h => absurd rfl h, UF⟩
set_option maxHeartbeats 1000000 in
theorem one_2 (b off n cap : Nat) (x : Nat → Nat) (w : World) (hn : 8 ≤ n) (hnc : n ≤ cap) (hm : cap ≤ maxLen) (hc : ∀ i, i < n → x i < 256 ∧ w.cell? ⟨b, off + i, none⟩ = some (.int .u8 (x i : Int))) :
    Calls Tryz.prog 50 #[.slice (some ⟨b, off, none⟩) n cap, .int .i64 2] w fun e w' => OneK w n x e w' := by
 unfold maxLen at hm
 have HL := hid (lkC_lt x n (fun i hi => (hc i hi).1))
 have HW : Fl.W (lkC x 8) := by have := HL.out 8 hn; unfold Fl.W; exact Nat.lt_of_lt_of_le this (by decide)
 have HIC := hid (fun W => isCode_any (lkC x 8) HW W)
 have HOF := hid (fun W => rof_any (lkC x 8) HW W)
 have HLT := hid (Fl.of_lt (lkC x 8) HW)
 have HC := hid (fun (W : World) (hW : Up w W) i hi => (⟨(hc i hi).1, hW.keep (hc i hi).2⟩ : x i < 256 ∧ W.cell? ⟨b, off + i, none⟩ = some (.int .u8 (x i : Int))))
 have HKy : Hid (Fl.isCode (lkC x 8) = true → lkK x n = 8 ∧ lkV x n = Fl.of (lkC x 8)) := fun h => ⟨by unfold lkK; rw [if_pos ⟨hn, h⟩], by unfold lkV; rw [if_pos ⟨hn, h⟩]⟩
 have HKn : Hid (Fl.isCode (lkC x 8) = false → lkK x n = 0) := fun h => by unfold lkK; rw [if_neg (by simp [h])]
 clear hc HW
 unfold OneK
 generalize hKK : lkK x n = KK
 have HKK := hid hKK
 clear hKK
 go_enter Tryz.func50, Tryz.ntmps50
 go_upto_region 2 with fail
 have hbx := boxes w 2
 generalize ((w.alloc (.cells #[.int .i64 0, .int .i64 0, .float .f64 0, .slice none 0 0, .bool false] 84)).alloc (.cells #[.int .i64 2, .int .i64 0, .float .f64 0, .slice none 0 0, .bool false] 84)) = WW at hbx ⊢
 obtain ⟨⟨hb4, hb5⟩, uW⟩ := hbx
 have HB4 := hid hb4
 have HB5 := hid hb5
 have UW := hid uW
 clear hb4 hb5 uW
 go_wp2
 go_loop [9, 10] (fun u i => ∃ k : Nat, k ≤ 8 ∧ i = .int .i64 (k : Nat) ∧ u = .int .u64 (lkC x k : Nat)) (fun _ i => 8 - (intOf i).toNat)
 case atStart => exact ⟨0, by omega, rfl, rfl⟩
 case round =>
  obtain ⟨k, hk, rfl, rfl⟩ := hrel
  by_cases hlt : k < 8
  ·obtain ⟨hx, hcell⟩ := HC.out _ UW.out k (by omega)
   have h1 := HL.out k (by omega)
   have h2 : (256 : Nat) ^ k ≤ 256 ^ 7 := Nat.pow_le_pow_right (by omega) (by omega)
   have h3 : lkC x k < 72057594037927936 := Nat.lt_of_lt_of_le h1 (Nat.le_trans h2 (by decide))
   have HS : Hid (lkC x (k + 1) = lkC x k * 256 + x k) := rfl
   clear HC h1 h2 HL HKy HKn HIC HOF HLT
   generalize lkC x k = A at *
   have e1 : IntKind.u64.wrap ((A : Int) * 256) = (A : Int) * 256 := by rw [IntKind.wrap_u64]; omega
   have e2 : IntKind.u64.wrap ((A : Int) * 256 + (x k : Int)) = ((A * 256 + x k : Nat) : Int) := by rw [IntKind.wrap_u64]; omega
   go_wp2
   go_round
   case rel => exact ⟨k + 1, by omega, by go_num, by rw [HS.out]; first | rfl | (simp; done)⟩
   case measure => simp [intOf]; omega
  ·obtain rfl : k = 8 := by omega
   have hb4 := HB4.out
   have hb5 := HB5.out
   have uW := UW.out
   cases hcode : Fl.isCode (lkC x 8)
   ·rw [hcode] at HIC
    have hK0 : KK = 0 := HKK.out.symm.trans (HKn.out hcode)
    subst hK0
    clear HKy HKn HOF HLT HL HC hcode HKK
    generalize lkC x 8 = A at *
    have q0 := (hb5).cell 0 _ rfl
    have q1 := (hb5).cell 1 _ rfl
    have q2 := (hb5).cell 2 _ rfl
    have q3 := (hb5).cell 3 _ rfl
    have q4 := (hb5).cell 4 _ rfl
    have p0 := (hb4).cell 0 _ rfl
    have p1 := (hb4).cell 1 _ rfl
    have p2 := (hb4).cell 2 _ rfl
    have p3 := (hb4).cell 3 _ rfl
    have p4 := (hb4).cell 4 _ rfl
    have z0 := (hb4).free 0
    have z1 := (hb4).free 1
    have z2 := (hb4).free 2
    have z3 := (hb4).free 3
    have z4 := (hb4).free 4
    have HX4 := hid (hb4)
    clear hb4 hb5
    go_wp2_with (go_at_call 77; refine (HIC.out _).mono ?_; rintro e w1 ⟨rfl, hw⟩; have hw2 := hw.symm; subst hw2)
    have hfin := (((((HX4.out.put 0 (.int .i64 2)).put 1 (.int .i64 0)).put 2 (.float .f64 0)).put 3 (.slice none 0 0)).put 4 (.bool false))
    have UF : Up w (((((WW.setCell ⟨w.heap.size, 0, none⟩ (.int .i64 2)).setCell ⟨w.heap.size, 1, none⟩ (.int .i64 0)).setCell ⟨w.heap.size, 2, none⟩ (.float .f64 0)).setCell ⟨w.heap.size, 3, none⟩ (.slice none 0 0)).setCell ⟨w.heap.size, 4, none⟩ (.bool false)) := (((((uW).setCell (Nat.le_refl _) _).setCell (Nat.le_refl _) _).setCell (Nat.le_refl _) _).setCell (Nat.le_refl _) _).setCell (Nat.le_refl _) _
    have g0 := hfin.cell 0 (.int .i64 2) rfl
    have g1 := hfin.cell 1 (.int .i64 0) rfl
    have g2 := hfin.cell 2 (.float .f64 0) rfl
    have g3 := hfin.cell 3 (.slice none 0 0) rfl
    have g4 := hfin.cell 4 (.bool false) rfl
    refine bodyPost_ret (v := .tuple #[.agg #[.int .i64 2, .int .i64 0, .float .f64 0, .slice none 0 0, .bool false], .int .i64 0]) (by simp [results, Tryz.results50, go_sem, g0, g1, g2, g3, g4]) rfl ⟨0, rfl, fun h => absurd rfl h, UF⟩
   ·rw [hcode] at HIC
    obtain ⟨hK8', hV8⟩ := HKy.out hcode
    have hK8 : KK = 8 := HKK.out.symm.trans hK8'
    subst hK8
    have HI : Hid (Fl.of (lkC x 8) = lkV x n) := hV8.symm
    clear HKy HKn HL HC hcode hK8' hV8 HKK
    generalize Fl.of (lkC x 8) = V at *
    generalize lkC x 8 = A at *
    have hb6 : BoxR (WW.setCell ⟨w.heap.size + 1, 2, none⟩ (.float .f64 V)) (w.heap.size + 1) #[.int .i64 2, .int .i64 0, .float .f64 V, .slice none 0 0, .bool false] := heap_setCell_same _ (w.heap.size + 1) 2 _ _ (.float .f64 V) hb5
    have hb7 : BoxR (WW.setCell ⟨w.heap.size + 1, 2, none⟩ (.float .f64 V)) w.heap.size #[.int .i64 0, .int .i64 0, .float .f64 0, .slice none 0 0, .bool false] := (Below.heap_setCell _ _ _ _ (by simp)).trans hb4
    have f2 := hb5.free 2
    have d2 := hb5.cell 2 _ rfl
    have q0 := (hb6).cell 0 _ rfl
    have q1 := (hb6).cell 1 _ rfl
    have q2 := (hb6).cell 2 _ rfl
    have q3 := (hb6).cell 3 _ rfl
    have q4 := (hb6).cell 4 _ rfl
    have p0 := (hb7).cell 0 _ rfl
    have p1 := (hb7).cell 1 _ rfl
    have p2 := (hb7).cell 2 _ rfl
    have p3 := (hb7).cell 3 _ rfl
    have p4 := (hb7).cell 4 _ rfl
    have z0 := (hb7).free 0
    have z1 := (hb7).free 1
    have z2 := (hb7).free 2
    have z3 := (hb7).free 3
    have z4 := (hb7).free 4
    have HX4 := hid (hb7)
    clear hb4 hb5 hb6 hb7
    go_wp2_with (first | (go_at_call 77; refine (HIC.out _).mono ?_; rintro e w1 ⟨rfl, hw⟩; have hw2 := hw.symm; subst hw2) | (go_at_call 78; refine (HOF.out _).mono ?_; rintro e w1 ⟨rfl, hw⟩; have hw2 := hw.symm; subst hw2))
    have hfin := (((((HX4.out.put 0 (.int .i64 2)).put 1 (.int .i64 0)).put 2 (.float .f64 V)).put 3 (.slice none 0 0)).put 4 (.bool false))
    have UF : Up w ((((((WW.setCell ⟨w.heap.size + 1, 2, none⟩ (.float .f64 V)).setCell ⟨w.heap.size, 0, none⟩ (.int .i64 2)).setCell ⟨w.heap.size, 1, none⟩ (.int .i64 0)).setCell ⟨w.heap.size, 2, none⟩ (.float .f64 V)).setCell ⟨w.heap.size, 3, none⟩ (.slice none 0 0)).setCell ⟨w.heap.size, 4, none⟩ (.bool false)) := (((((uW.setCell (p := ⟨w.heap.size + 1, 2, none⟩) (Nat.le_succ _) _).setCell (Nat.le_refl _) _).setCell (Nat.le_refl _) _).setCell (Nat.le_refl _) _).setCell (Nat.le_refl _) _).setCell (Nat.le_refl _) _
    have g0 := hfin.cell 0 (.int .i64 2) rfl
    have g1 := hfin.cell 1 (.int .i64 0) rfl
    have g2 := hfin.cell 2 (.float .f64 V) rfl
    have g3 := hfin.cell 3 (.slice none 0 0) rfl
    have g4 := hfin.cell 4 (.bool false) rfl
    refine bodyPost_ret (v := .tuple #[.agg #[.int .i64 2, .int .i64 0, .float .f64 V, .slice none 0 0, .bool false], .int .i64 8]) (by simp [results, Tryz.results50, go_sem, g0, g1, g2, g3, g4]) rfl ⟨V, rfl, fun _ => HI.out, UF⟩
theorem one_key (v : Value) (n : Nat) (x : Nat → Nat) (w : World) (hv : ByRow w v n x) :
    Calls Tryz.prog 50 #[v, .int .i64 2] w fun e w' => OneK w n x e w' := by
 by_cases h : 8 ≤ n
 ·obtain ⟨b, off, cap, rfl, hc, hnc, hm⟩ := hv.cells (by omega)
  exact one_2 b off n cap x w h hnc hm hc
 ·exact one_2short v n x w hv (by omega)
end Go.Proofs.YtajoodkapiifcaaGreat.Pk
