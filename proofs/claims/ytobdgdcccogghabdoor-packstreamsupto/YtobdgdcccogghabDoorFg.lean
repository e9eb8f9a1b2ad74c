/- What the law's own look, framing, returns: true; and what Unframe makes of a frame; condition: the table of sixteen words lies where its initialiser lays it. -/
import Derived.Test.YtobdgdcccogghabDoorUg
import Derived.Lib.SlBytesConst
import Derived.Laws.BytesArg
namespace Go.Proofs.YtobdgdcccogghabDoor
open Go.RowKit
theorem w32_congr {x y : Nat → Nat} (h : ∀ i, i < 4 → x i = y i) : w32 x = w32 y := by
  unfold w32; rw [h 0 (by omega), h 1 (by omega), h 2 (by omega), h 3 (by omega)]
theorem sum_congr {x y : Nat → Nat} {n : Nat} (h : ∀ i, i < n → x i = y i) : Crc.sum x n = Crc.sum y n := by
  unfold Crc.sum; rw [Crc.run_congr x y n h]
theorem frm_len (n S : Nat) (x : Nat → Nat) (h : n < 4294967296) : w32 (frm n S x) = n := by
  rw [w32_congr (y := wd n) (fun i hi => by simp [frm, hi]), w32_wd n h]
theorem frm_sum (n S : Nat) (x : Nat → Nat) (h : S < 4294967296) : w32 (sh 4 (frm n S x)) = S := by
  rw [w32_congr (y := wd S) (fun i hi => by simp [sh, frm, show 4 + i < 8 by omega, show ¬ 4 + i < 4 by omega]), w32_wd S h]
theorem frm_pay (n S : Nat) (x : Nat → Nat) : sh 8 (frm n S x) = x := by
  funext i; simp [sh, frm, show ¬ 8 + i < 4 by omega, show ¬ 8 + i < 8 by omega]
theorem unf_frm (n m : Nat) (x : Nat → Nat) (h : n ≤ 4096) (hm : 8 + n ≤ m) : unfE m (frm n (Crc.sum x n) x) = 0 := by
  unfold unfE
  rw [frm_len n _ x (by omega), frm_pay, frm_sum _ _ _ (sum_lt x n), if_neg (by omega), if_neg (by omega), if_neg (by omega), if_pos rfl]
def two : Nat → Nat := fun i => 104 + i
theorem two_row (w : World) : ByRow (w.alloc (.cells #[.int .u8 104, .int .u8 105] 5 (2, 3))) (.slice (some ⟨w.heap.size, 0, none⟩) 2 2) 2 two := by
  refine .inr ⟨by omega, by unfold maxLen; omega, w.heap.size, 0, 2, rfl, fun i hi => ?_, by omega, by unfold maxLen; omega⟩
  refine ⟨by unfold two; omega, ?_⟩
  rw [Nat.zero_add]
  match i, hi with
  | 0, _ | 1, _ => exact cell_new _ _ _ _ _ _ rfl
set_option maxHeartbeats 400000 in
theorem framing_any (w : World) (ht : Tab w) :
    Calls Tryd.prog 9 #[] w fun e w' => e = .returned (.bool true) ∧ Up w w' := by
  have kc := fun (w : World) (C : Array Value) (n c : Nat) => Lib.run_convert_bytes_const (P := Tryd.prog) w 22 5 C n c Tryd.underlying22 Tryd.underlying5
  have c1 := hid (frame_ok _ 2 two _ (ht.up ((Up.refl w).alloc _)) (two_row w) (by omega))
  have HT := hid ht
  clear ht
  go_enter Tryd.func9, Tryd.ntmps9
  go_wp2_with (go_at_call 10; refine c1.out.mono ?_; rintro e w1 ⟨v1, rfl, o1, u1⟩; obtain ⟨g, cp, rfl, hg, hgl, hcap, hcm, hcl, hfr⟩ := o1.shape (by omega); have H1 := hid o1; clear o1 hcl hfr)
  have u1' : Up w w1 := Up.trans ((Up.refl w).alloc _) u1
  have hE := unf_frm 2 (8 + 2) two (by omega) (by omega)
  obtain ⟨e1, e2⟩ := unf_ok hE
  have c2 := unframe_any _ (8 + 2) _ w1 (HT.out.up u1') H1.out.row
  rw [hE, e1, e2, frm_len 2 _ two (by omega), frm_pay] at c2
  refine c2.mono ?_
  rintro e w2 ⟨v2, rfl, o2, u2⟩
  obtain ⟨g2, cp2, rfl, hg2, hgl2, hcap2, hcm2, hcl2, hfr2⟩ := o2.shape (by omega)
  have hcv := run_convert_bytes_arg (P := Tryd.prog) w2 22 5 Tryd.underlying22 Tryd.underlying5 g2 0 2 cp2 [104, 105] rfl (fun i hi => by
    have := hcl2 i hi
    rw [Nat.zero_add, this]
    match i, hi with
    | 0, _ | 1, _ => rfl) 9 Tryd.underlying9
  have hu := Up.trans u1' u2
  clear c2 hfr2 hcl2 o2 H1 c1
  go_wp2
  go_ret
  exact ⟨ret_b (by decide +kernel), hu⟩
def frE (n : Nat) : Nat := if n ≤ 4096 then 0 else 2
def frL (n : Nat) : Nat := if n ≤ 4096 then 8 + n else 0
set_option maxHeartbeats 400000 in
theorem frame_any (v : Value) (n : Nat) (x : Nat → Nat) (w : World) (ht : Tab w) (hv : ByRow w v n x) :
    Calls Tryd.prog 10 #[v] w fun e w' => ∃ v', e = .returned (.tuple #[v', .int .i64 (frE n : Nat)]) ∧ OwnB w.heap.size w' v' (frL n) (frm n (Crc.sum x n) x) ∧ Up w w' := by
  by_cases h : n ≤ 4096
  · rw [show frE n = 0 by simp [frE, h], show frL n = 8 + n by simp [frL, h]]
    exact frame_ok v n x w ht hv h
  · rw [show frE n = 2 by simp [frE, h], show frL n = 0 by simp [frL, h]]
    exact (frame_long v n x w hv (by omega)).mono fun e W ⟨he, hw⟩ => ⟨_, he, OwnB.nil _ _ _, by rw [hw]; exact Up.refl _⟩
set_option maxHeartbeats 400000 in
theorem refFrame_any (v : Value) (n : Nat) (x : Nat → Nat) (w : World) (hv : ByRow w v n x) :
    Calls Tryd.prog 11 #[v] w fun e w' => ∃ v', e = .returned (.tuple #[v', .int .i64 (frE n : Nat)]) ∧ OwnB w.heap.size w' v' (frL n) (frm n (Crc.sum x n) x) ∧ Up w w' := by
  by_cases h : n ≤ 4096
  · rw [show frE n = 0 by simp [frE, h], show frL n = 8 + n by simp [frL, h]]
    exact refFrame_ok v n x w hv h
  · rw [show frE n = 2 by simp [frE, h], show frL n = 0 by simp [frL, h]]
    exact (refFrame_long v n x w hv (by omega)).mono fun e W ⟨he, hw⟩ => ⟨_, he, OwnB.nil _ _ _, by rw [hw]; exact Up.refl _⟩
end Go.Proofs.YtobdgdcccogghabDoor
