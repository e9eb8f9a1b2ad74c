/- A form is its own form; the span of two numbers that the laws make; no condition. -/
import Derived.Test.YtbkbnfgjkefcmaaGreatSc
namespace Go.Proofs.YtbkbnfgjkefcmaaGreat
open Go.RowKit
namespace Fl
/-- A form: the empty span's, or two numbers in their forms, the first not behind the second. -/
def IsForm (u v : Nat) (e : Bool) : Prop := W u ∧ W v ∧ (e = true → u = 0 ∧ v = 0) ∧ (e = false → canon u = u ∧ canon v = v ∧ nan u = false ∧ nan v = false ∧ code u ≤ code v)
theorem cs_isForm (a b : Nat) (p q : Bool) (ha : W a) (hb : W b) : IsForm (csU a b p q) (csV a b p q) (csE a b p q) := by
  refine ⟨csU_W a b p q ha, csV_W a b p q hb, csE_true a b p q, fun h => ?_⟩
  have := cs_form a b p q ha hb h
  exact ⟨csU_canon a b p q ha, csV_canon a b p q hb, this.2.2.1, this.2.2.2, this.2.1⟩
theorem cs_of_form (u v : Nat) (e : Bool) (h : IsForm u v e) : csU u v e e = u ∧ csV u v e e = v ∧ csE u v e e = e := by
  obtain ⟨_, _, h1, h2⟩ := h
  cases e
  · obtain ⟨c1, c2, n1, n2, l⟩ := h2 rfl
    have e0 : csE u v false false = false := by
      unfold csE loB hiB; rw [n1, n2]; simp only [Bool.false_eq_true, if_false, Bool.false_and, Bool.or_false, Bool.false_or, decide_eq_false_iff_not]
      rw [c1, c2]; omega
    unfold csU csV; rw [e0]; unfold loB hiB
    simp only [Bool.false_eq_true, if_false]
    exact ⟨c1, c2, trivial⟩
  · obtain ⟨rfl, rfl⟩ := h1 rfl
    decide +kernel
end Fl
attribute [local go_sem] run_bits run_frombits run_store_float eqF
set_option maxHeartbeats 400000 in
set_option maxRecDepth 20000 in
theorem has_form (u v k : Nat) (e : Bool) (h : Fl.IsForm u v e) (hk : Fl.W k) (w : World) :
    Calls Tryz.prog 98 #[.agg #[.float .f64 u, .float .f64 v, .bool e, .bool e], .float .f64 k] w fun e' w' => e' = .returned (.bool (Fl.hasF u v e k)) ∧ Up w w' := by
  have H := has_any u v k h.1 h.2.1 hk e e w
  obtain ⟨e1, e2, e3⟩ := Fl.cs_of_form u v e h
  rw [e1, e2, e3] at H; exact H
set_option maxHeartbeats 400000 in
set_option maxRecDepth 20000 in
theorem empty_form (u v : Nat) (e : Bool) (h : Fl.IsForm u v e) (w : World) :
    Calls Tryz.prog 53 #[.agg #[.float .f64 u, .float .f64 v, .bool e, .bool e]] w fun e' w' => e' = .returned (.bool e) ∧ Up w w' := by
  have H := empty_any u v h.1 h.2.1 e e w
  obtain ⟨_, _, e3⟩ := Fl.cs_of_form u v e h
  rw [e3] at H; exact H
set_option maxHeartbeats 400000 in
set_option maxRecDepth 20000 in
theorem canon_form (u v : Nat) (e : Bool) (h : Fl.IsForm u v e) (w : World) :
    Calls Tryz.prog 78 #[.agg #[.float .f64 u, .float .f64 v, .bool e, .bool e]] w fun e' w' => e' = .returned (.agg #[.float .f64 u, .float .f64 v, .bool e, .bool e]) ∧ Up w w' := by
  have H := canonS_any u v h.1 h.2.1 e e w
  obtain ⟨e1, e2, e3⟩ := Fl.cs_of_form u v e h
  rw [e1, e2, e3] at H; exact H

end Go.Proofs.YtbkbnfgjkefcmaaGreat
