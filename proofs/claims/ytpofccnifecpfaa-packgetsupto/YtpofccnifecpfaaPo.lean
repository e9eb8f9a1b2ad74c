/- Is Put alive; no condition. -/
import Derived.Test.YtpofccnifecpfaaVk
namespace Go.Proofs.Ytpofccnifecpfaa
open Go.RowKit
set_option linter.unusedVariables false
/-- The bytes of a number or a flag. -/
def enc2 (p : PV) : List Nat := if p.k = 1 then numL p.n else [if p.on then 1 else 0]
def pNum (z : Int) : PV := ⟨1, z, 0, .slice none 0 0, 0, fun _ => 0, false⟩
def pOn : PV := ⟨4, 0, 0, .slice none 0 0, 0, fun _ => 0, true⟩
theorem pNum_in (z : Int) (h1 : -9223372036854775808 ≤ z) (h2 : z ≤ 9223372036854775807) (w : World) : PV.In w (pNum z) := ⟨by simp [pNum], ⟨h1, h2⟩, by simp [pNum], .inl ⟨rfl, none, 0, rfl, fun _ => rfl⟩⟩
theorem pOn_in (w : World) : PV.In w pOn := ⟨by simp [pOn], by simp [pOn], by simp [pOn], .inl ⟨rfl, none, 0, rfl, fun _ => rfl⟩⟩
theorem num64 : numL 64 = [128, 1] := by decide +kernel
set_option maxHeartbeats 400000 in
theorem step2 (p : PV) (hk : p.k = 1 ∨ p.k = 4) (base : Nat) (v : Value) (L : List Nat) (W : World) (hl : L.length ≤ 70368744177664) (hp : PV.In W p) (ho : OwnL base W v L) (hb : base ≤ W.heap.size) :
    Calls Try.prog 30 #[v, p.agg] W fun e w' => ∃ v', e = .returned v' ∧ OwnL base w' v' (L ++ enc2 p) ∧ Grew W v w' v' := by
  rcases hk with h | h
  · rw [show enc2 p = numL p.n by unfold enc2; rw [if_pos h]]
    exact appendVal_num base v L p h hl W hp ho hb
  · rw [show enc2 p = [if p.on then 1 else 0] by unfold enc2; rw [if_neg (by omega)]]
    exact appendVal_flag base v L p h _ rfl hl W hp ho hb
set_option maxHeartbeats 400000 in
theorem put_one (z : Int) (h1 : -9223372036854775808 ≤ z) (h2 : z ≤ 9223372036854775807) (w : World) :
    Calls Try.prog 10 #[.slice (some ⟨w.heap.size, 0, none⟩) 1 1] (w.alloc (.cells #[.int .i64 1, .int .i64 z, .float .f64 0, .slice none 0 0, .bool false] 35)) fun e w' => ∃ v', e = .returned (.tuple #[v', .int .i64 0]) ∧ OwnL w.heap.size w' v' (numL z) ∧ Up w w' := by
  have hl := num_len z h1 h2
  have cc := fun j u (h : (#[.int .i64 1, .int .i64 z, .float .f64 0, .slice none 0 0, .bool false] : Array Value)[j]? = some u) => cell_new w #[.int .i64 1, .int .i64 z, .float .f64 0, .slice none 0 0, .bool false] 35 (0, 0) j u h
  have e1 : putL enc2 (fun _ => pNum z) 1 = numL z := by simp [putL, enc2, pNum]
  refine (put_ok enc2 w.heap.size 0 1 1 (fun _ => pNum z) (by omega) _ (fun i hi => ?_) (fun i hi => by simp [pvE, pNum]) (fun k hk => ?_) (fun i hi v L W => step2 _ (.inl rfl) _ v L W)).mono ?_
  · obtain rfl : i = 0 := by omega
    exact ⟨⟨cc 0 _ rfl, cc 1 _ rfl, cc 2 _ rfl, cc 3 _ rfl, cc 4 _ rfl⟩, pNum_in z h1 h2 _⟩
  · match k, hk with
    | 0, _ => simp [putL]
    | 1, _ => rw [e1]; omega
  · rintro e w' ⟨v', rfl, ho, hu⟩
    rw [e1] at ho
    exact ⟨v', rfl, OwnB.mono ho (by simp), Up.trans ((Up.refl w).alloc _) hu⟩
set_option maxHeartbeats 400000 in
theorem put_two (w : World) :
    Calls Try.prog 10 #[.slice (some ⟨w.heap.size, 0, none⟩) 2 2] (w.alloc (.cells #[.int .i64 1, .int .i64 64, .float .f64 0, .slice none 0 0, .bool false, .int .i64 4, .int .i64 0, .float .f64 0, .slice none 0 0, .bool true] 35)) fun e w' => ∃ v', e = .returned (.tuple #[v', .int .i64 0]) ∧ OwnL w.heap.size w' v' [128, 1, 1] ∧ Up w w' := by
  have cc := fun j u (h : (#[.int .i64 1, .int .i64 64, .float .f64 0, .slice none 0 0, .bool false, .int .i64 4, .int .i64 0, .float .f64 0, .slice none 0 0, .bool true] : Array Value)[j]? = some u) => cell_new w #[.int .i64 1, .int .i64 64, .float .f64 0, .slice none 0 0, .bool false, .int .i64 4, .int .i64 0, .float .f64 0, .slice none 0 0, .bool true] 35 (0, 0) j u h
  have e2 : putL enc2 (fun i => if i = 0 then pNum 64 else pOn) 2 = [128, 1, 1] := by simp [putL, enc2, pNum, pOn, num64]
  have e1 : putL enc2 (fun i => if i = 0 then pNum 64 else pOn) 1 = [128, 1] := by simp [putL, enc2, pNum, num64]
  refine (put_ok enc2 w.heap.size 0 2 2 (fun i => if i = 0 then pNum 64 else pOn) (by omega) _ (fun i hi => ?_) (fun i hi => ?_) (fun k hk => ?_) (fun i hi v L W => step2 _ ?_ _ v L W)).mono ?_
  · match i, hi with
    | 0, _ => exact ⟨⟨cc 0 _ rfl, cc 1 _ rfl, cc 2 _ rfl, cc 3 _ rfl, cc 4 _ rfl⟩, pNum_in 64 (by omega) (by omega) _⟩
    | 1, _ => exact ⟨⟨cc 5 _ rfl, cc 6 _ rfl, cc 7 _ rfl, cc 8 _ rfl, cc 9 _ rfl⟩, pOn_in _⟩
  · match i, hi with
    | 0, _ => simp [pvE, pNum]
    | 1, _ => simp [pvE, pOn]
  · match k, hk with
    | 0, _ => simp [putL]
    | 1, _ => rw [e1]; simp
    | 2, _ => rw [e2]; simp
  · match i, hi with
    | 0, _ => exact .inl rfl
    | 1, _ => exact .inr rfl
  · rintro e w' ⟨v', rfl, ho, hu⟩
    rw [e2] at ho
    exact ⟨v', rfl, OwnB.mono ho (by simp), Up.trans ((Up.refl w).alloc _) hu⟩
theorem row_lit (w : World) (L : List Nat) (cs : Array Value) (g : Nat) (hg : w.heap.size = g) (hcs : cs.toList = bl L.length (gd L)) (hl : ∀ i, i < L.length → gd L i < 256) (h0 : 0 < L.length) (hm : L.length ≤ 1000) : ByRow (w.alloc (.cells cs 5)) (.slice (some ⟨g, 0, none⟩) L.length L.length) L.length (gd L) := by
  subst hg
  refine .inr ⟨h0, by unfold maxLen; omega, w.heap.size, 0, L.length, rfl, fun i hi => ⟨hl i hi, ?_⟩, by omega, by unfold maxLen; omega⟩
  rw [Nat.zero_add]
  refine cell_new _ _ _ _ _ _ ?_
  rw [← Array.getElem?_toList, hcs, bl_get _ _ _ hi]
set_option maxHeartbeats 400000 in
theorem putting_any (w : World) :
    Calls Try.prog 7 #[] w fun e w' => e = .returned (.bool true) ∧ Up w w' := by
  have HP := hid (put_two w)
  go_enter Try.func7, Try.ntmps7
  go_wp2_with (first | (go_at_call 10; refine HP.out.mono ?_; rintro e w1 ⟨v1, rfl, o1, u1⟩; have H1 := hid o1; have U1 := hid u1; clear o1 u1) | (go_at_call 11; refine (sameBytes_eq _ _ 3 (gd [128, 1, 1]) (gd [128, 1, 1]) _ (OwnB.row (OwnB.up H1.out ((Up.refl w1).alloc _))) (row_lit w1 [128, 1, 1] _ _ rfl rfl (by decide) (by decide) (by decide)) (fun _ _ => rfl)).mono ?_; rintro e w2 ⟨rfl, m, rfl⟩))
  go_ret
  exact ⟨rfl, (Up.trans U1.out ((Up.refl w1).alloc _)).drewN _⟩
end Go.Proofs.Ytpofccnifecpfaa
