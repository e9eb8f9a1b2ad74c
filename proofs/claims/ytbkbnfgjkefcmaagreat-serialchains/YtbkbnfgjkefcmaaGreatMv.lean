/- The last of two numbers; two blocks that hold forms; a form's codes; no condition. -/
import Derived.Test.YtbkbnfgjkefcmaaGreatDq
import Derived.Test.YtbkbnfgjkefcmaaGreatMt
import Derived.Test.YtbkbnfgjkefcmaaGreatMm
import Derived.Test.YtbkbnfgjkefcmaaGreatRg
namespace Go.Proofs.YtbkbnfgjkefcmaaGreat
open Go.RowKit
set_option linter.unusedVariables false
attribute [local go_sem] run_bits run_frombits run_store_float eqF
set_option maxHeartbeats 400000 in
set_option maxRecDepth 20000 in
theorem most2 (u v m c : Nat) (hu : Fl.W u) (hv : Fl.W v) (cu : Fl.canon u = u) (cv : Fl.canon v = v) (W : World) (h0 : W.cell? ⟨m, 0, none⟩ = some (.float .f64 u)) (h1 : W.cell? ⟨m, 1, none⟩ = some (.float .f64 v)) :
    Calls Tryz.prog 109 #[.slice (some ⟨m, 0, none⟩) 2 c] W fun e w' => e = .returned (.float .f64 (Fl.mx u v)) ∧ w' = W := by
  have H := most_any m 0 2 c (fun j => if j = 0 then u else v) (by omega) (by unfold maxLen; omega) (fun i _ => by split <;> assumption) W (row2 u v m W h0 h1)
  have e : Fl.maxU (fun j => if j = 0 then u else v) (2 - 1) = Fl.mx u v := rfl
  rw [e, Fl.mx_canon cu cv] at H; exact H
set_option maxHeartbeats 400000 in
set_option maxRecDepth 20000 in
/-- Two blocks that hold forms. -/
abbrev T2 (m u1 v1 : Nat) (e1 : Bool) (n u2 v2 : Nat) (e2 : Bool) (w : World) : Prop := SpAt m u1 v1 e1 e1 w ∧ SpAt n u2 v2 e2 e2 w
theorem T2.up {m u1 v1 : Nat} {e1 : Bool} {n u2 v2 : Nat} {e2 : Bool} {w w' : World} (u : Up w w') (h : T2 m u1 v1 e1 n u2 v2 e2 w) : T2 m u1 v1 e1 n u2 v2 e2 w' := ⟨SpAt.up u h.1, SpAt.up u h.2⟩
theorem SpAt.farC {m k a b : Nat} {p q : Bool} {w : World} (hn : m ≠ k) (h : SpAt m a b p q w) (o : Nat) (v : Value) : SpAt m a b p q (w.setCell ⟨k, o, none⟩ v) := by
  have H : ∀ j, (w.setCell ⟨k, o, none⟩ v).cell? ⟨m, j, none⟩ = w.cell? ⟨m, j, none⟩ := fun j => World.cell?_setCell_far w ⟨k, o, none⟩ ⟨m, j, none⟩ v (fun e => hn e.symm)
  exact ⟨by rw [H]; exact h.1, by rw [H]; exact h.2.1, by rw [H]; exact h.2.2.1, by rw [H]; exact h.2.2.2⟩
theorem T2.far {m u1 v1 : Nat} {e1 : Bool} {n u2 v2 : Nat} {e2 : Bool} {k : Nat} {w : World} (hm : m ≠ k ∧ n ≠ k) {o : Nat} {v : Value} (h : T2 m u1 v1 e1 n u2 v2 e2 w) : T2 m u1 v1 e1 n u2 v2 e2 (w.setCell ⟨k, o, none⟩ v) := ⟨SpAt.farC hm.1 h.1 o v, SpAt.farC hm.2 h.2 o v⟩
namespace Fl
theorem rl_W {u : Nat} (e : Bool) (h : W u) : W (rl u e) := by unfold rl W; split; omega; exact code_le u h
theorem rh_W {u : Nat} (e : Bool) (h : W u) : W (rh u e) := by unfold rh W; split; omega; exact code_le u h
theorem empty_rng {u v : Nat} {e : Bool} (h : IsForm u v e) : decide (rh v e < rl u e) = e := by
  rcases form_rng h with ⟨rfl, _, _, r1, r2⟩ | ⟨rfl, r1, r2, r3, r4, r5⟩
  · rw [r1, r2]; rfl
  · rw [r1, r2]; simp; omega
theorem fq_ints (u1 v1 u2 v2 : Nat) (e1 e2 : Bool) : fq u1 v1 e1 u2 v2 e2 = (((rl u1 e1 : Int) == (rl u2 e2 : Int)) && ((rh v1 e1 : Int) == (rh v2 e2 : Int))) := by
  unfold fq; rw [Bool.eq_iff_iff]; simp only [decide_eq_true_eq, Bool.and_eq_true, beq_iff_eq]; omega
end Fl
set_option maxHeartbeats 400000 in
set_option maxRecDepth 20000 in
theorem rSpan_isForm {u v : Nat} {e : Bool} (h : Fl.IsForm u v e) (w : World) :
    Calls Tryz.prog 71 #[.agg #[.int .u64 (Fl.rl u e : Nat), .int .u64 (Fl.rh v e : Nat)]] w fun o w' => o = .returned (.agg #[.float .f64 u, .float .f64 v, .bool e, .bool e]) ∧ Up w w' := by
  have n := Fl.form_nan h
  rcases Fl.form_rng h with ⟨rfl, rfl, rfl, r1, r2⟩ | ⟨rfl, r1, r2, r3, r4, r5⟩
  · exact rSpan_none 1 0 (by omega) w
  · have H := rSpan_some (Fl.code u) (Fl.code v) (Fl.code_le u h.1) (Fl.code_le v h.2.1) (by omega) w
    rw [Fl.of_code u h.1, Fl.of_code v h.2.1, n.2.2.1, n.2.2.2] at H
    rw [r1, r2]; exact H
end Go.Proofs.YtbkbnfgjkefcmaaGreat
