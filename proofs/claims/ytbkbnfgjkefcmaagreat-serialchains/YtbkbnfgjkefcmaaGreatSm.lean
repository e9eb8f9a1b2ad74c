/- Spans as pairs of numbers, as plain facts: what a span's form is; no condition but that bits are fewer than 2^64. -/
import Derived.Test.YtbkbnfgjkefcmaaGreatFs
namespace Go.Proofs.YtbkbnfgjkefcmaaGreat
namespace Fl
def loB (a : Nat) (p : Bool) : Nat := if p = true then nextB a else canon a
def hiB (b : Nat) (q : Bool) : Nat := if q = true then prevB b else canon b
/-- Has a span no key? -/
def csE (a b : Nat) (p q : Bool) : Bool := nan a || nan b || (p && decide (a = INF)) || decide (code (hiB b q) < code (loB a p))
def csU (a b : Nat) (p q : Bool) : Nat := if csE a b p q = true then 0 else loB a p
def csV (a b : Nat) (p q : Bool) : Nat := if csE a b p q = true then 0 else hiB b q
theorem loB_W (a : Nat) (p : Bool) (h : W a) : W (loB a p) := by
  unfold loB; split
  · exact (nextB_form a h).2
  · exact canon_lt a h
theorem hiB_W (a : Nat) (p : Bool) (h : W a) : W (hiB a p) := by
  unfold hiB; split
  · exact (prevB_form a h).2
  · exact canon_lt a h
theorem loB_canon (a : Nat) (p : Bool) (h : W a) : canon (loB a p) = loB a p := by
  unfold loB; split
  · exact (nextB_form a h).1
  · exact canon_canon a
theorem hiB_canon (a : Nat) (p : Bool) (h : W a) : canon (hiB a p) = hiB a p := by
  unfold hiB; split
  · exact (prevB_form a h).1
  · exact canon_canon a
theorem csU_W (a b : Nat) (p q : Bool) (h : W a) : W (csU a b p q) := by
  unfold csU; split
  · unfold W; decide
  · exact loB_W a p h
theorem csV_W (a b : Nat) (p q : Bool) (h : W b) : W (csV a b p q) := by
  unfold csV; split
  · unfold W; decide
  · exact hiB_W b q h
theorem canon0 : canon 0 = 0 := by decide +kernel
theorem csU_canon (a b : Nat) (p q : Bool) (h : W a) : canon (csU a b p q) = csU a b p q := by
  unfold csU; split
  · exact canon0
  · exact loB_canon a p h
theorem csV_canon (a b : Nat) (p q : Bool) (h : W b) : canon (csV a b p q) = csV a b p q := by
  unfold csV; split
  · exact canon0
  · exact hiB_canon b q h
theorem csE_true (a b : Nat) (p q : Bool) (h : csE a b p q = true) : csU a b p q = 0 ∧ csV a b p q = 0 := by
  unfold csU csV; rw [if_pos h, if_pos h]; exact ⟨rfl, rfl⟩
theorem csE_false (a b : Nat) (p q : Bool) (h : csE a b p q = false) : csU a b p q = loB a p ∧ csV a b p q = hiB b q ∧ nan a = false ∧ nan b = false ∧ (p = true → a ≠ INF) ∧ code (loB a p) ≤ code (hiB b q) := by
  have hh := h
  unfold csE at hh
  simp only [Bool.or_eq_false_iff, Bool.and_eq_false_iff, decide_eq_false_iff_not] at hh
  obtain ⟨⟨⟨h1, h2⟩, h3⟩, h4⟩ := hh
  unfold csU csV; rw [h]
  refine ⟨rfl, rfl, h1, h2, ?_, by omega⟩
  intro hp; rcases h3 with h3 | h3
  · rw [hp] at h3; cases h3
  · exact h3
theorem nan_next (a : Nat) (h : W a) : nan (nextB a) = false := by
  by_cases hi : a = INF
  · subst hi; decide +kernel
  · rw [nan_code _ (nextB_form a h).2, code_next a h hi]
    unfold nc; simp only [decide_eq_false_iff_not]; (repeat' split) <;> omega
theorem nan_loB (a : Nat) (p : Bool) (h : W a) (hn : nan a = false) : nan (loB a p) = false := by
  unfold loB; split
  · exact nan_next a h
  · rw [nan_canon]; exact hn
/-- What a form with keys is like. -/
theorem cs_form (a b : Nat) (p q : Bool) (ha : W a) (hb : W b) (h : csE a b p q = false) :
    0 < code (csU a b p q) ∧ code (csU a b p q) ≤ code (csV a b p q) ∧ nan (csU a b p q) = false ∧ nan (csV a b p q) = false := by
  obtain ⟨e1, e2, h1, h2, h3, h4⟩ := csE_false a b p q h
  have n1 := nan_loB a p ha h1
  have c1 := code_pos (loB a p) (loB_W a p ha) n1
  rw [e1, e2]
  refine ⟨c1, h4, n1, ?_⟩
  rw [nan_code _ (hiB_W b q hb)]; simp only [decide_eq_false_iff_not]; omega
/-- Two forms' numbers are equal just if their codes are. -/
theorem ord_code (a b : Nat) (ha : W a) (hb : W b) (na : nan a = false) (nb : nan b = false) : (Go.FloatKind.f64.format.order a b == some .eq) = decide (code a = code b) := by
  rcases cmp_cases a b ha hb with ⟨n, _⟩ | ⟨n, _⟩ | ⟨_, n, _⟩ | ⟨_, _, o, e⟩ | ⟨_, _, o, e⟩ | ⟨_, _, o, e⟩
  · rw [na] at n; cases n
  · rw [na] at n; cases n
  · rw [nb] at n; cases n
  all_goals
    rw [o]
    have := cmpc_cases a b
    rw [e] at this
    first
      | (rw [decide_eq_true (by omega)]; rfl)
      | (rw [decide_eq_false (by omega)]; rfl)
theorem code_canon_inj (a b : Nat) (ha : W a) (hb : W b) (ca : canon a = a) (cb : canon b = b) (h : code a = code b) : a = b := by
  rw [← ca, ← cb, ← of_code a ha, ← of_code b hb, h]
end Fl
end Go.Proofs.YtbkbnfgjkefcmaaGreat
