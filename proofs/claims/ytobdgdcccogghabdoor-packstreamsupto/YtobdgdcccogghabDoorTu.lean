/- What a frame becomes of which one byte is turned; no condition but that bytes are bytes. -/
import Derived.Test.YtobdgdcccogghabDoorFg
namespace Go.Proofs.YtobdgdcccogghabDoor
open Go.RowKit
theorem and_mask (a : Int) (m : Nat) (hm : m < 9223372036854775808) : ∃ M : Nat, M ≤ m ∧ bits .and .i64 a (m : Int) = (M : Int) := by
  refine ⟨(BitVec.ofInt 64 a &&& BitVec.ofInt 64 (m : Int)).toNat, ?_, ?_⟩
  · rw [BitVec.toNat_and, BitVec.ofInt_natCast, BitVec.toNat_ofNat, Nat.mod_eq_of_lt (by omega)]
    exact Nat.and_le_right
  · have h : (BitVec.ofInt 64 a &&& BitVec.ofInt 64 (m : Int)).toNat ≤ m := by
      rw [BitVec.toNat_and, BitVec.ofInt_natCast, BitVec.toNat_ofNat, Nat.mod_eq_of_lt (by omega)]
      exact Nat.and_le_right
    show IntKind.i64.wrap ((BitVec.ofInt 64 a &&& BitVec.ofInt 64 (m : Int)).toNat : Int) = _
    generalize (BitVec.ofInt 64 a &&& BitVec.ofInt 64 (m : Int)).toNat = r at *
    simp [IntKind.wrap, IntKind.bits, IntKind.signed]
    omega
theorem sum_ne (x y : Nat → Nat) (n j : Nat) (hx : ∀ i, i < n → x i < 256) (hy : ∀ i, i < n → y i < 256) (hj : j < n) (hd : x j ≠ y j) (he : ∀ i, i < n → i ≠ j → x i = y i) : Crc.sum x n ≠ Crc.sum y n := by
  intro h
  unfold Crc.sum at h
  have a := Crc.run_lt x n hx n (Nat.le_refl _)
  have b := Crc.run_lt y n hy n (Nat.le_refl _)
  exact Crc.run_turn x y n j hx hy hj hd he n hj (Nat.le_refl _) (by omega)

theorem w32_ne {x y : Nat → Nat} (j : Nat) (hj : j < 4) (hx : ∀ i, i < 4 → x i < 256) (hy : ∀ i, i < 4 → y i < 256) (hd : x j ≠ y j) : w32 x ≠ w32 y := by
  have a0 := hx 0 (by omega); have a1 := hx 1 (by omega); have a2 := hx 2 (by omega); have a3 := hx 3 (by omega)
  have b0 := hy 0 (by omega); have b1 := hy 1 (by omega); have b2 := hy 2 (by omega); have b3 := hy 3 (by omega)
  unfold w32
  match j, hj with
  | 0, _ | 1, _ | 2, _ | 3, _ => omega
theorem frm_lt (n S : Nat) (x : Nat → Nat) (hx : ∀ i, i < n → x i < 256) : ∀ i, i < 8 + n → frm n S x i < 256 := by
  intro i hi; unfold frm wd
  split
  · exact Nat.mod_lt _ (by omega)
  · split
    · exact Nat.mod_lt _ (by omega)
    · exact hx _ (by omega)
/-- A frame of which a byte from the fourth on is turned has another sum. -/
theorem turn_sum (n T I : Nat) (x : Nat → Nat) (hn : n ≤ 4096) (hx : ∀ i, i < n → x i < 256) (hT : T < 256) (hI : I < 8 + n) (h4 : 4 ≤ I) (hd : frm n (Crc.sum x n) x I ≠ T) : unfE (8 + n) (set (frm n (Crc.sum x n) x) I T) = 32 := by
  have hS := sum_lt x n
  have e1 : w32 (set (frm n (Crc.sum x n) x) I T) = n := by
    refine Eq.trans (w32_congr (fun i hi => ?_)) (frm_len n (Crc.sum x n) x (by omega))
    simp [set, show ¬ i = I by omega]
  unfold unfE
  rw [e1, if_neg (by omega), if_neg (by omega), if_neg (by omega), if_neg]
  by_cases h8 : 8 ≤ I
  · have e2 : w32 (sh 4 (set (frm n (Crc.sum x n) x) I T)) = Crc.sum x n := by
      refine Eq.trans (w32_congr (fun i hi => ?_)) (frm_sum n (Crc.sum x n) x hS)
      simp [sh, set, show ¬ 4 + i = I by omega]
    rw [e2]
    refine sum_ne _ x n (I - 8) (fun i hi => ?_) hx (by omega) ?_ (fun i hi hne => ?_)
    · unfold sh set; split
      · exact hT
      · exact frm_lt n _ x hx _ (by omega)
    · simp only [sh, set, show 8 + (I - 8) = I by omega, if_true]
      intro e; apply hd; rw [e]
      simp [frm, show ¬ I < 4 by omega, show ¬ I < 8 by omega]
    · have := congrFun (frm_pay n (Crc.sum x n) x) i
      simp only [sh, set] at *
      rw [if_neg (by omega)]; exact this
  · have e2 : sh 8 (set (frm n (Crc.sum x n) x) I T) = x := by
      have h := frm_pay n (Crc.sum x n) x
      funext i
      have := congrFun h i
      simp only [sh, set] at *
      rw [if_neg (by omega)]; exact this
    rw [e2]
    intro e
    have h := frm_sum n (Crc.sum x n) x hS
    rw [← h] at e
    refine w32_ne (I - 4) (by omega) (fun i hi => ?_) (fun i hi => ?_) ?_ e
    · exact frm_lt n _ x hx _ (by omega)
    · unfold sh set; split
      · exact hT
      · exact frm_lt n _ x hx _ (by omega)
    · simp only [sh, set, show 4 + (I - 4) = I by omega, if_true]; exact hd
/-- One of whose first bytes is turned is none of its length. -/
theorem turn_len (n T I : Nat) (x : Nat → Nat) (hn : n ≤ 4096) (hx : ∀ i, i < n → x i < 256) (hT : T < 256) (h4 : I < 4) (hd : frm n (Crc.sum x n) x I ≠ T) (hz : unfE (8 + n) (set (frm n (Crc.sum x n) x) I T) = 0) : w32 (set (frm n (Crc.sum x n) x) I T) < n := by
  have e1 : w32 (set (frm n (Crc.sum x n) x) I T) ≠ n := by
    intro e
    refine w32_ne (x := frm n (Crc.sum x n) x) (y := set (frm n (Crc.sum x n) x) I T) I h4 (fun i hi => frm_lt n _ x hx _ (by omega)) (fun i hi => ?_) (by simpa [set] using hd) ?_
    · unfold set; split
      · exact hT
      · exact frm_lt n _ x hx _ (by omega)
    · rw [e, frm_len n (Crc.sum x n) x (by omega)]
  unfold unfE at hz
  rw [if_neg (by omega)] at hz
  split at hz
  · omega
  · split at hz <;> omega
end Go.Proofs.YtobdgdcccogghabDoor
