/- The law RlogNewer's logs; conditions: the rows lie in memory. -/
import Derived.Test.YtgpfmohaogppiaaL3
namespace Go.Proofs.Ytgpfmohaogppiaa
open Go.RowKit Go.Lib
set_option linter.unusedVariables false
set_option linter.unusedSimpArgs false
set_option maxRecDepth 20000
theorem entA_app (L : List Ent) (e : Ent) : entA (L ++ [e]) L.length = e := by simp [entA]
theorem last_app (ix tm : Int) (L : List Ent) (e : Ent) : lastI ix (L ++ [e]).length (entA (L ++ [e])) = e.i ∧ lastT tm (L ++ [e]).length (entA (L ++ [e])) = e.t := by
  unfold lastI lastT
  rw [List.length_append, if_neg (by simp), if_neg (by simp), show L.length + [e].length - 1 = L.length from by simp, entA_app]
  exact ⟨rfl, rfl⟩
/-- What each round of made keeps. -/
def Mk (L : List Ent) (k : Nat) : Prop := lastI 0 L.length (entA L) = (L.length : Int) ∧ 0 ≤ lastT 0 L.length (entA L) ∧ lastT 0 L.length (entA L) ≤ (L.length : Int) ∧ L.length ≤ 30 ∧ L.length ≤ k ∧ (k ≤ 30 → L.length = k)
theorem Mk.zero : Mk [] 0 := ⟨rfl, by decide, by decide, by decide, Nat.le_refl _, fun _ => rfl⟩
theorem Mk.skip {L : List Ent} {k : Nat} (h : Mk L k) (hk : 30 ≤ k) : Mk L (k + 1) := ⟨h.1, h.2.1, h.2.2.1, h.2.2.2.1, Nat.le_succ_of_le h.2.2.2.2.1, fun q => by omega⟩
theorem Mk.add {L : List Ent} {k : Nat} (h : Mk L k) (hk : k < 30) (b : Int) (hb : 0 ≤ b ∧ b ≤ 1) : Mk (L ++ [en ((L.length : Int) + 1) (lastT 0 L.length (entA L) + b)]) (k + 1) := by
  obtain ⟨h1, h2, h3, h4, h5, h6⟩ := h
  obtain ⟨a, c⟩ := last_app 0 0 L (en ((L.length : Int) + 1) (lastT 0 L.length (entA L) + b))
  have hl := h6 (by omega)
  unfold Mk
  rw [a, c]
  simp only [List.length_append, List.length_singleton, en]
  refine ⟨by omega, by omega, by omega, by omega, by omega, fun _ => by omega⟩
def uf (y z : Int) : Nat → Int := fun k => if k = 0 then y else z
theorem uf_mono {y z : Int} (h : y ≤ z) : ∀ k, k < 1 → uf y z k ≤ uf y z (k + 1) := fun k hk => by
  have e : k = 0 := by omega
  subst e
  exact h
theorem uf_bd {y z : Int} (h : 0 ≤ y ∧ y ≤ 1000) (h2 : 0 ≤ z ∧ z ≤ 1000) : ∀ k, k ≤ 1 → 0 ≤ uf y z k ∧ uf y z k ≤ 1000 := fun k hk => by unfold uf; split; exact h; exact h2
theorem and1 (x : Int) : 0 ≤ bits .and .i64 x 1 ∧ bits .and .i64 x 1 ≤ 1 := by
  have h : (BitVec.ofInt 64 x &&& BitVec.ofInt 64 1).toNat = (BitVec.ofInt 64 x).toNat % 2 := by rw [BitVec.toNat_and]; exact nat_mask1 _
  have e : bits .and .i64 x 1 = IntKind.wrap .i64 (((BitVec.ofInt 64 x &&& BitVec.ofInt 64 1).toNat : Nat) : Int) := rfl
  rw [e, h]
  rcases Nat.mod_two_eq_zero_or_one (BitVec.ofInt 64 x).toNat with q | q <;> rw [q] <;> decide

end Go.Proofs.Ytgpfmohaogppiaa
