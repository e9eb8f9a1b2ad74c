/- A world that has grown: nothing old has turned; the least and the greatest of numbers, as plain facts; no condition. -/
import Derived.Test.YtieljldhpinklabSl
namespace Go.Proofs.Ytieljldhpinklab
open Go.RowKit
/-- Nothing that was there has turned. -/
def Up (w w' : World) : Prop := Below w.heap.size w w'
theorem Up.refl (w : World) : Up w w := Below.refl _ _
theorem Up.trans {a b c : World} (h : Up a b) (k : Up b c) : Up a c := Below.trans h (Below.mono k h.size)
theorem Up.drew {a w : World} (h : Up a w) : Up a w.drew := Below.drew h
theorem Up.drewN {a w : World} (h : Up a w) (n : Nat) : Up a (w.drewN n) := below_drewN h n
theorem Up.alloc {a w : World} (h : Up a w) (o : Obj) : Up a (w.alloc o) := Below.alloc h h.size o
theorem Up.setCell {a w : World} (h : Up a w) {p : Addr} (hp : a.heap.size ≤ p.block) (u : Value) : Up a (w.setCell p u) := Below.setCell h hp u
theorem Up.keep {W w' : World} (h : Up W w') {p : Addr} {v : Value} (hc : W.cell? p = some v) : w'.cell? p = some v := by
  rw [Below.cell (p := p) h (World.block_lt_of_cell? W p hc)]; exact hc
namespace Fl
theorem minU_le (x : Nat → Nat) : ∀ k i, i ≤ k → code (minU x k) ≤ code (x i)
  | 0, i, h => by rw [show i = 0 by omega]; exact Nat.le_refl _
  | k + 1, i, h => by
    unfold minU
    by_cases e : i = k + 1
    · subst e; split <;> omega
    · have := minU_le x k i (by omega)
      split <;> omega
theorem maxU_le (x : Nat → Nat) : ∀ k i, i ≤ k → code (x i) ≤ code (maxU x k)
  | 0, i, h => by rw [show i = 0 by omega]; exact Nat.le_refl _
  | k + 1, i, h => by
    unfold maxU
    by_cases e : i = k + 1
    · subst e; split <;> omega
    · have := maxU_le x k i (by omega)
      split <;> omega
theorem minU_mem (x : Nat → Nat) : ∀ k, ∃ i, i ≤ k ∧ minU x k = x i
  | 0 => ⟨0, Nat.le_refl _, rfl⟩
  | k + 1 => by
    obtain ⟨i, hi, e⟩ := minU_mem x k
    unfold minU; split
    · exact ⟨k + 1, Nat.le_refl _, rfl⟩
    · exact ⟨i, by omega, e⟩
theorem maxU_mem (x : Nat → Nat) : ∀ k, ∃ i, i ≤ k ∧ maxU x k = x i
  | 0 => ⟨0, Nat.le_refl _, rfl⟩
  | k + 1 => by
    obtain ⟨i, hi, e⟩ := maxU_mem x k
    unfold maxU; split
    · exact ⟨k + 1, Nat.le_refl _, rfl⟩
    · exact ⟨i, by omega, e⟩
/-- Is one of the first k numbers of that code? -/
def anyU (x : Nat → Nat) (c : Nat) : Nat → Bool | 0 => false | k + 1 => anyU x c k || decide (code (x k) = c)
theorem anyU_of (x : Nat → Nat) (c : Nat) : ∀ n i, i < n → code (x i) = c → anyU x c n = true
  | n + 1, i, h, e => by
    unfold anyU
    by_cases hi : i = n
    · subst hi; simp [e]
    · rw [anyU_of x c n i (by omega) e]; rfl
end Fl
end Go.Proofs.Ytieljldhpinklab
