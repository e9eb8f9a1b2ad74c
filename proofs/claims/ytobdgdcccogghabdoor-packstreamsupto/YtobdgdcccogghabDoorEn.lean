/- Numbers, flags and keys as bytes, as pack appends them: in plain lists and as contracts; conditions: the lengths fit. -/
import Derived.Test.YtobdgdcccogghabDoorLn
namespace Go.Proofs.YtobdgdcccogghabDoor
open Go.RowKit
set_option linter.unusedVariables false
def gd (L : List Nat) : Nat → Nat := fun i => L.getD i 0
theorem gd_cat (L M : List Nat) (i : Nat) (h : i < (L ++ M).length) : cat L.length (gd L) (gd M) i = gd (L ++ M) i := by
  unfold cat gd
  by_cases hi : i < L.length
  · simp [hi, List.getD, List.getElem?_append_left hi]
  · simp [hi, List.getD, List.getElem?_append_right (by omega : L.length ≤ i)]
/-- The slice value v owns the bytes L. -/
def OwnL (base : Nat) (w : World) (v : Value) (L : List Nat) : Prop := OwnB base w v L.length (gd L)
theorem OwnL.app {base : Nat} {w : World} {v : Value} {L M : List Nat} (h : OwnB base w v (L.length + M.length) (cat L.length (gd L) (gd M))) : OwnL base w v (L ++ M) := by
  unfold OwnL
  rw [List.length_append]
  exact h.congr (fun i hi => gd_cat L M i (by rw [List.length_append]; exact hi))
theorem row1L (w : World) (A : Int) (c : Nat) (h0 : A = (c : Int)) (hl : c < 256) :
    ByRow (w.alloc (.cells #[.int .u8 A] 5)) (.slice (some ⟨w.heap.size, 0, none⟩) 1 1) [c].length (gd [c]) := by
  subst h0
  refine .inr ⟨by simp, by unfold maxLen; simp, w.heap.size, 0, 1, rfl, fun i hi => ?_, by simp, by unfold maxLen; omega⟩
  obtain rfl : i = 0 := by simpa using hi
  exact ⟨hl, cell_new _ _ _ _ _ _ rfl⟩
def fold (z : Int) : Nat := if 0 ≤ z then (2 * z).toNat else (-2 * z - 1).toNat
theorem fold_lt (z : Int) (h1 : -9223372036854775808 ≤ z) (h2 : z ≤ 9223372036854775807) : fold z < 18446744073709551616 := by unfold fold; split <;> omega
theorem unf_fold (z : Int) : unf (fold z) = z := by
  unfold unf fold
  split
  · split <;> omega
  · split <;> omega
theorem fold_unf (u : Nat) : fold (unf u) = u := by
  unfold unf fold
  split
  · split <;> omega
  · split <;> omega
def grp : Nat → Nat → List Nat
  | 0, u => [u]
  | f + 1, u => if u < 128 then [u] else (u % 128 + 128) :: grp f (u / 128)
def numL (z : Int) : List Nat := grp 10 (fold z)
theorem grp_small (f u : Nat) (h : u < 128) : grp f u = [u] := by cases f with
  | zero => rfl
  | succ f => unfold grp; rw [if_pos h]
theorem grp_big (f u : Nat) (h : ¬ u < 128) : grp (f + 1) u = (u % 128 + 128) :: grp f (u / 128) := by
  conv => lhs; unfold grp
  rw [if_neg h]
theorem grp_len (f : Nat) : ∀ u, (grp f u).length ≤ f + 1 := by
  induction f with
  | zero => intro u; simp [grp]
  | succ f ih => intro u; unfold grp; split; simp; simp; exact ih _
theorem folded_bits (z : Int) (h1 : -9223372036854775808 ≤ z) (h2 : z ≤ 9223372036854775807) :
    bits .xor .u64 (IntKind.u64.wrap (IntKind.u64.wrap z * 2)) (IntKind.u64.wrap (z / 9223372036854775808)) = (fold z : Int) := by
  have ew : ∀ y : Int, IntKind.u64.wrap y = y % 18446744073709551616 := fun y => by simp [IntKind.wrap, IntKind.bits, IntKind.signed]
  rw [ew, ew, ew]
  unfold fold
  by_cases hz : 0 ≤ z
  · rw [if_pos hz, show z / 9223372036854775808 = 0 by omega, show (0 : Int) % 18446744073709551616 = ((0 : Nat) : Int) by rfl]
    rw [show (z % 18446744073709551616 * 2) % 18446744073709551616 = (((2 * z).toNat : Nat) : Int) by omega, u64_xor_nat _ 0 (by omega) (by omega), Nat.xor_zero]
  · rw [if_neg hz, show z / 9223372036854775808 = -1 by omega, show (-1 : Int) % 18446744073709551616 = ((18446744073709551615 : Nat) : Int) by decide]
    rw [show (z % 18446744073709551616 * 2) % 18446744073709551616 = (((18446744073709551616 + 2 * z).toNat : Nat) : Int) by omega, u64_xor_nat _ _ (by omega) (by omega)]
    congr 1
    have hb : (18446744073709551616 + 2 * z).toNat < 18446744073709551616 := by omega
    have e : ((BitVec.ofNat 64 (18446744073709551616 + 2 * z).toNat) ^^^ BitVec.allOnes 64).toNat = 18446744073709551615 - (18446744073709551616 + 2 * z).toNat := by
      rw [BitVec.xor_allOnes, BitVec.toNat_not, BitVec.toNat_ofNat, Nat.mod_eq_of_lt (by omega)]
    rw [BitVec.toNat_xor, BitVec.toNat_allOnes, BitVec.toNat_ofNat, Nat.mod_eq_of_lt (by omega)] at e
    rw [show (18446744073709551615 : Nat) = 2 ^ 64 - 1 by decide, e]
    omega

end Go.Proofs.YtobdgdcccogghabDoor
