/- What a change makes of who belongs and who votes; plain. -/
import Derived.Test.YtcicefpcledmgaaV19
namespace Go.Proofs.Ytcicefpcledmgaa
open Go.RowKit Go.Lib
set_option linter.unusedVariables false
set_option linter.unusedSimpArgs false
set_option maxRecDepth 20000
theorem lsI_snoc (L : List Int) : ∀ k, k ≤ L.length → lsI (gI L) k = L.take k
  | 0, _ => by simp [lsI]
  | k + 1, h => by
    unfold lsI
    rw [lsI_snoc L k (by omega), List.take_succ_eq_append_getElem (by omega)]
    congr 1
    simp [gI, List.getD_eq_getElem?_getD, List.getElem?_eq_getElem (show k < L.length by omega)]
theorem lsI_gI (L : List Int) : lsI (gI L) L.length = L := by rw [lsI_snoc L _ (Nat.le_refl _), List.take_length]
theorem hasG (L : List Int) (x : Int) : hasK (gI L) x L.length = true ↔ x ∈ L := by rw [hasK_iff, lsI_gI]
theorem memG (L M : List Int) (x : Int) : memB L.length (gI L) M.length (gI M) x = true ↔ x ∈ L ∨ x ∈ M := by
  unfold memB
  rw [Bool.or_eq_true, hasG, hasG]
theorem memB_iff (n m : Nat) (f g : Nat → Int) (x : Int) : memB n f m g x = true ↔ x ∈ lsI f n ∨ x ∈ lsI g m := by
  unfold memB
  rw [Bool.or_eq_true, hasK_iff, hasK_iff]
theorem rightG {L M : List Int} (h : RightC L M) : rightB L.length (gI L) M.length (gI M) = true := by
  rw [rightB_iff, lsI_gI, lsI_gI]
  exact h
/-- The one who is changed: it votes just where it was promoted, and belongs just where it was not removed. -/
theorem nx_voter {n m : Nat} {f g : Nat → Int} {k x : Int} (h : fltC n f m g k x = 0) : hasK (gI (nxV k x (lsI f n))) x (nxV k x (lsI f n)).length = (k == 2) := by
  rw [Bool.eq_iff_iff, hasG, nxV_mem]
  simp
theorem nx_member {n m : Nat} {f g : Nat → Int} {k x : Int} (h : fltC n f m g k x = 0) : memB (nxV k x (lsI f n)).length (gI (nxV k x (lsI f n))) (nxL k x (lsI g m)).length (gI (nxL k x (lsI g m))) x = (k != 3) := by
  obtain ⟨_, hk, _⟩ := flt_parts h
  rw [Bool.eq_iff_iff, memG, nxV_mem, nxL_mem]
  simp
  omega
/-- All others stay what they are. -/
theorem nx_voter' (n m : Nat) (f g : Nat → Int) (k x y : Int) (h : y ≠ x) : hasK (gI (nxV k x (lsI f n))) y (nxV k x (lsI f n)).length = hasK f y n := by
  rw [Bool.eq_iff_iff, hasG, hasK_iff, nxV_mem]
  simp [h]
theorem nx_member' (n m : Nat) (f g : Nat → Int) (k x y : Int) (h : y ≠ x) : memB (nxV k x (lsI f n)).length (gI (nxV k x (lsI f n))) (nxL k x (lsI g m)).length (gI (nxL k x (lsI g m))) y = memB n f m g y := by
  rw [Bool.eq_iff_iff, memG, memB_iff, nxV_mem, nxL_mem]
  simp [h]
end Go.Proofs.Ytcicefpcledmgaa
