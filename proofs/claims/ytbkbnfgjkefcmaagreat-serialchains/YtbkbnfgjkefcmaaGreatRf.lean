/- The reference's ranges: what Has and Empty of it return at every range; no condition. -/
import Derived.Test.YtbkbnfgjkefcmaaGreatRe
namespace Go.Proofs.YtbkbnfgjkefcmaaGreat
open Go.RowKit
namespace Fl
def rHasB (L H k : Nat) : Bool := !nan k && decide (L ≤ code k) && decide (code k ≤ H)
theorem rHas_eq (a b k : Nat) (p q : Bool) (ha : W a) (hb : W b) : rHasB (rL a b p q) (rH a b p q) k = hasF (csU a b p q) (csV a b p q) (csE a b p q) k := by
  unfold rHasB rL rH hasF
  cases h : csE a b p q
  · have f := cs_form a b p q ha hb h
    simp only [Bool.false_eq_true, if_false, Bool.not_false, Bool.true_and]
    by_cases hn : nan k = true
    · rw [hn, code_nan k hn]; simp; omega
    · rw [nf k hn]; rfl
  · simp only [if_true, Bool.not_true, Bool.false_and]
    rw [Bool.eq_iff_iff]; simp; omega
/-- The plain comparisons of a key with a span's ends. -/
def plainB (a b k : Nat) (p q : Bool) : Bool :=
  ((Go.FloatKind.f64.format.order k a == some .gt) || (Go.FloatKind.f64.format.order k a == some .eq) && !p) && ((Go.FloatKind.f64.format.order k b == some .lt) || (Go.FloatKind.f64.format.order k b == some .eq) && !q)
theorem ord_gt_code (k a : Nat) (hk : W k) (ha : W a) : (Go.FloatKind.f64.format.order k a == some .gt) = (!nan k && !nan a && decide (code a < code k)) ∧ (Go.FloatKind.f64.format.order k a == some .eq) = (!nan k && !nan a && decide (code a = code k)) ∧ (Go.FloatKind.f64.format.order k a == some .lt) = (!nan k && !nan a && decide (code k < code a)) := by
  rcases cmp_cases k a hk ha with ⟨n, m, _⟩ | ⟨n, m, _⟩ | ⟨n, m, _⟩ | ⟨n, m, o, e⟩ | ⟨n, m, o, e⟩ | ⟨n, m, o, e⟩
  · rw [ord_nan_l k a n, n]; exact ⟨rfl, rfl, rfl⟩
  · rw [ord_nan_l k a n, n]; exact ⟨rfl, rfl, rfl⟩
  · rw [ord_nan_r k a m, m, n]; exact ⟨rfl, rfl, rfl⟩
  all_goals
    have c := cmpc_cases k a
    rw [e] at c
    rw [o, n, m]
    refine ⟨?_, ?_, ?_⟩ <;> simp <;> omega
theorem has_plain (a b k : Nat) (p q : Bool) (ha : W a) (hb : W b) (hk : W k) : hasF (csU a b p q) (csV a b p q) (csE a b p q) k = plainB a b k p q := by
  unfold plainB
  have o1 := ord_gt_code k a hk ha
  have o2 := ord_gt_code k b hk hb
  rw [o1.1, o1.2.1, o2.2.1, o2.2.2]
  by_cases hnk : nan k = true
  · have : hasF (csU a b p q) (csV a b p q) (csE a b p q) k = false := by
      rw [← rHas_eq a b k p q ha hb]; unfold rHasB; rw [hnk]; rfl
    rw [this, hnk]; simp
  by_cases hna : nan a = true
  · have e : csE a b p q = true := by unfold csE; rw [hna]; rfl
    rw [e, hna]; simp [hasF]
  by_cases hnb : nan b = true
  · have e : csE a b p q = true := by unfold csE; rw [hnb]; simp
    rw [e, hnb]; simp [hasF]
  have nk := nf k hnk
  have na := nf a hna
  have nb := nf b hnb
  rw [nk, na, nb]
  have rk := code_range k hk
  have ra := code_range a ha
  have rb := code_range b hb
  have pk := code_pos k hk nk
  have pa := code_pos a ha na
  have pb := code_pos b hb nb
  have L : ¬ (p = true ∧ a = INF) → (code (loB a p) ≤ code k ↔ (code a < code k ∨ code a = code k ∧ p = false)) := by
    intro hp
    unfold loB
    cases p
    · simp only [Bool.false_eq_true, if_false, code_canon, and_true]; omega
    · have hi : a ≠ INF := fun e => hp ⟨rfl, e⟩
      have ci : code a ≠ 18442240474082181120 := fun e => hi ((code_inf_iff a ha).1 e)
      simp only [if_true]; rw [code_next a ha hi]; unfold nc
      (repeat' split) <;> simp <;> omega
  have R : code k ≤ code (hiB b q) ↔ (code k < code b ∨ code b = code k ∧ q = false) := by
    unfold hiB
    cases q
    · simp only [Bool.false_eq_true, if_false, code_canon, and_true]; omega
    · simp only [if_true]; rw [code_prev b hb]; unfold pc
      (repeat' split) <;> simp <;> omega
  by_cases hp : p = true ∧ a = INF
  · have e : csE a b p q = true := by unfold csE; rw [hp.1, decide_eq_true hp.2]; simp
    have c := (code_inf_iff a ha).2 hp.2
    rw [e, hp.1, c, Bool.eq_iff_iff]; simp [hasF]; omega
  · have L' := L hp
    cases e : csE a b p q
    · obtain ⟨e1, e2, _⟩ := csE_false a b p q e
      rw [e1, e2, Bool.eq_iff_iff]
      unfold hasF
      simp only [Bool.not_false, Bool.true_and, Bool.and_eq_true, decide_eq_true_eq, Bool.or_eq_true, Bool.not_eq_true']
      rw [L', R]
    · have hE : code (hiB b q) < code (loB a p) := by
        unfold csE at e; rw [na, nb] at e
        simp only [Bool.false_or, Bool.or_eq_true, Bool.and_eq_true, decide_eq_true_eq] at e
        rcases e with e | e
        · exact absurd e hp
        · exact e
      rw [Bool.eq_iff_iff]
      unfold hasF
      simp only [Bool.not_true, Bool.false_and, Bool.false_eq_true, Bool.not_false, Bool.true_and, Bool.and_eq_true, decide_eq_true_eq, Bool.or_eq_true, Bool.not_eq_true', false_iff]
      rw [← L', ← R]; omega
end Fl
attribute [local go_sem] run_bits run_frombits run_store_float eqF

set_option maxHeartbeats 400000 in
set_option maxRecDepth 20000 in
theorem rHas_any (L H k : Nat) (hk : Fl.W k) (w : World) :
    Calls Tryz.prog 56 #[.agg #[.int .u64 (L : Nat), .int .u64 (H : Nat)], .float .f64 k] w fun e w' => e = .returned (.bool (Fl.rHasB L H k)) ∧ Up w w' := by
  have B := hid (show Fl.rHasB L H k = (!Fl.nan k && decide (L ≤ Fl.code k) && decide (Fl.code k ≤ H)) from rfl)
  go_enter Tryz.func56, Tryz.ntmps56
  go_wp2_with (first | (go_at_call 65; refine (refCode_any _ ‹_› _).mono ?_; rintro e w' ⟨rfl, rfl⟩) | (go_at_call 63; refine (refNan_any _ ‹_› _).mono ?_; rintro e w' ⟨rfl, rfl⟩))
  all_goals go_ret
  all_goals exact ⟨ret_b (by rw [B.out]; simp [*]), (Up.refl _).alloc _⟩

set_option maxHeartbeats 400000 in
set_option maxRecDepth 20000 in
theorem rEmpty_any (L H : Nat) (w : World) :
    Calls Tryz.prog 38 #[.agg #[.int .u64 (L : Nat), .int .u64 (H : Nat)]] w fun e w' => e = .returned (.bool (decide (H < L))) ∧ Up w w' := by
  go_enter Tryz.func38, Tryz.ntmps38
  go_wp2
  go_ret
  exact ⟨ret_b (by simp), (Up.refl _).alloc _⟩

end Go.Proofs.YtbkbnfgjkefcmaaGreat
