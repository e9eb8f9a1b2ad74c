/- Proved: for every two float64 the law SpanOnes returns true, without a condition. -/
import Derived.Test.YtieljldhpinkladSd
import Derived.ProofKit
import Derived.OpenShut
import Derived.Lib.SmallJoins
namespace Go.Proofs.Ytieljldhpinklad.spanOnesDone
open Go.ChangeShapes Go.WideShapes Go.ChangeAt Go.RowKit Go.Joins
set_option linter.unusedVariables false

theorem own : ownKnob Try.prog.godebug = none := by kernel_rfl
theorem laidOut : laidOutB Try.prog = true := by kernel_rfl
theorem wb {a : Nat} (h : (Lit.float .f64 a).wf = true) : Fl.W a := by simp [Lit.wf] at h; exact h
attribute [local go_sem] run_bits run_frombits run_store_float eqF
set_option maxHeartbeats 1000000 in
theorem core (a0 a1 u v : Nat) (s : Bool) (h0 : Fl.W a0) (fo : Fl.IsForm u v s) (t t' : Bool)
    (HO : Hid (∀ w, Calls Try.prog 19 #[.float .f64 a0] w fun e w' => e = .returned (.agg #[.float .f64 u, .float .f64 v, .bool s, .bool s]) ∧ Up w w'))
    (HA : Hid (∀ w, Calls Try.prog 9 #[.agg #[.float .f64 u, .float .f64 v, .bool s, .bool s], .float .f64 a0] w fun e w' => e = .returned (.bool t) ∧ Up w w'))
    (HB : Hid (∀ w, Calls Try.prog 9 #[.agg #[.float .f64 u, .float .f64 v, .bool s, .bool s], .float .f64 a1] w fun e w' => e = .returned (.bool t') ∧ Up w w'))
    (h : (Fl.nan a0 = true ∧ s = true ∧ t' = false) ∨ (Fl.nan a0 = false ∧ t = true ∧ (t' == (FloatKind.f64.format.order a0 a1 == some .eq)) = true)) (w : World) :
    Calls Try.prog 5 #[.float .f64 a0, .float .f64 a1] w fun e w' => e = .returned (.bool true) ∧ Up w w' := by
  have z3 : Fl.W 4613937818241073152 := by unfold Fl.W; decide
  have H3a := fun w => one_any 4613937818241073152 z3 w
  rw [show Fl.csU 4613937818241073152 4613937818241073152 false false = 4613937818241073152 by decide +kernel, show Fl.csV 4613937818241073152 4613937818241073152 false false = 4613937818241073152 by decide +kernel, show Fl.csE 4613937818241073152 4613937818241073152 false false = false by decide +kernel] at H3a
  have H3 : Hid _ := H3a
  have o3 : FloatKind.f64.format.order 4613937818241073152 4613937818241073152 = some .eq := by decide +kernel
  have HE : Hid _ := fun w => empty_form u v s fo w
  clear H3a z3 fo
  rcases h with ⟨hn, rfl, rfl⟩ | ⟨hn, rfl, ht⟩
  · skip
    go_enter Try.func5, Try.ntmps5
    go_wp2_with (first | (go_at_call_of 19 (Value.float FloatKind.f64 4613937818241073152); refine (H3.out _).mono ?_; rintro e w1 ⟨rfl, hb1⟩) | (go_at_call 10; refine (at_any _ _ _).mono ?_; rintro e w2 ⟨rfl, hb2⟩) | (go_at_call 19; refine (HO.out _).mono ?_; rintro e w3 ⟨rfl, hb3⟩) | (go_at_call 20; refine (isNaN_any _ ‹Fl.W a0› _).mono ?_; rintro e w' ⟨rfl, rfl⟩) | (go_at_call_of 9 (Value.float FloatKind.f64 a0); refine (HA.out _).mono ?_; rintro e w4 ⟨rfl, hb4⟩; have s4 : SpAt w3.heap.size u v true true w4 := (by apply SpAt.up; assumption; first | assumption | (simp [SpAt]; done))) | (go_at_call_of 9 (Value.float FloatKind.f64 a1); refine (HB.out _).mono ?_; rintro e w5 ⟨rfl, hb5⟩) | (go_at_call 21; refine (HE.out _).mono ?_; rintro e w6 ⟨rfl, hb6⟩; have s6 : SpAt w3.heap.size u v true true w6 := (by apply SpAt.up; assumption; first | assumption | (simp [SpAt]; done))))
    all_goals go_ret
    all_goals exact ⟨rfl, (by repeat (first | exact Up.refl _ | assumption | refine Up.drew ?_ | refine Up.drewN ?_ _ | refine Up.alloc ?_ _ | refine Up.setCell ?_ ?_ _ | exact Nat.le_refl _ | exact Nat.le_add_right _ _ | (dsimp only; omega) | refine Up.trans ?_ ‹Up _ _›))⟩

  · skip
    go_enter Try.func5, Try.ntmps5
    go_wp2_with (first | (go_at_call_of 19 (Value.float FloatKind.f64 4613937818241073152); refine (H3.out _).mono ?_; rintro e w1 ⟨rfl, hb1⟩) | (go_at_call 10; refine (at_any _ _ _).mono ?_; rintro e w2 ⟨rfl, hb2⟩) | (go_at_call 19; refine (HO.out _).mono ?_; rintro e w3 ⟨rfl, hb3⟩) | (go_at_call 20; refine (isNaN_any _ ‹Fl.W a0› _).mono ?_; rintro e w' ⟨rfl, rfl⟩) | (go_at_call_of 9 (Value.float FloatKind.f64 a0); refine (HA.out _).mono ?_; rintro e w4 ⟨rfl, hb4⟩; have s4 : SpAt w3.heap.size u v s s w4 := (by apply SpAt.up; assumption; first | assumption | (simp [SpAt]; done))) | (go_at_call_of 9 (Value.float FloatKind.f64 a1); refine (HB.out _).mono ?_; rintro e w5 ⟨rfl, hb5⟩) | (go_at_call 21; refine (HE.out _).mono ?_; rintro e w6 ⟨rfl, hb6⟩; have s6 : SpAt w3.heap.size u v s s w6 := (by apply SpAt.up; assumption; first | assumption | (simp [SpAt]; done))))
    all_goals go_ret
    all_goals exact ⟨rfl, (by repeat (first | exact Up.refl _ | assumption | refine Up.drew ?_ | refine Up.drewN ?_ _ | refine Up.alloc ?_ _ | refine Up.setCell ?_ ?_ _ | exact Nat.le_refl _ | exact Nat.le_add_right _ _ | (dsimp only; omega) | refine Up.trans ?_ ‹Up _ _›))⟩

theorem walk (a0 : Nat) (a1 : Nat) (w0 : Fl.W a0) (w1 : Fl.W a1) (w : World) :
    Calls Try.prog 5 #[.float .f64 a0, .float .f64 a1] w fun e w' => e = .returned (.bool true) ∧ Up w w' := by
  have fo := Fl.cs_isForm a0 a0 false false w0 w0
  refine core a0 a1 _ _ _ w0 fo _ _ (fun w => one_any a0 w0 w) (fun w => has_form _ _ a0 _ fo w0 w) (fun w => has_form _ _ a1 _ fo w1 w) ?_ w
  by_cases hn : Fl.nan a0 = true
  · have e : Fl.csE a0 a0 false false = true := by unfold Fl.csE; rw [hn]; rfl
    exact .inl ⟨hn, e, by unfold Fl.hasF; rw [e]; rfl⟩
  · have hn' := Fl.nf a0 hn
    have e : Fl.csE a0 a0 false false = false := by unfold Fl.csE Fl.loB Fl.hiB; rw [hn']; simp
    obtain ⟨e1, e2, _⟩ := Fl.csE_false a0 a0 false false e
    rw [e1, e2, e]
    have eu : Fl.loB a0 false = Fl.canon a0 := rfl
    have ev : Fl.hiB a0 false = Fl.canon a0 := rfl
    have cu : Fl.code (Fl.canon a0) = Fl.code a0 := Fl.code_canon a0
    rw [eu, ev]
    have hp := Fl.code_pos a0 w0 hn'
    refine .inr ⟨hn', by unfold Fl.hasF; rw [cu]; simp, ?_⟩
    have eh : Fl.hasF (Fl.canon a0) (Fl.canon a0) false a1 = decide (Fl.code a0 = Fl.code a1) := by
      unfold Fl.hasF; rw [cu, Bool.eq_iff_iff]; simp; omega
    rw [eh]
    by_cases nb : Fl.nan a1 = true
    · rw [Fl.ord_nan_r _ _ nb, Fl.code_nan a1 nb, decide_eq_false (by omega)]; rfl
    · rw [Fl.ord_code a0 a1 w0 w1 hn' (Fl.nf a1 nb)]; simp

set_option maxRecDepth 100000 in
theorem lifted (os : Os) (started : os.Started) (H : Type) (enc : TypeId × Value → H) :
    ReturnsInHanded {} Try.checked os 5 .any (Rows.spanOnesSpec.pre6 enc Try.prog Try.f5 Rows.spanOnesRow.domain false) (Rows.spanOnesSpec.post enc Try.prog Try.f5 false true false false) := by
  refine returnsInHanded_of_change (C := Try.checked) own started (by kernel_rfl) Try.func5
    (ChangeSpec.witness6 (enc := enc) (C := Try.checked) false ⟨#[], #[.float .f64 0, .float .f64 0], []⟩ 8 (by kernel_rfl) (by kernel_rfl) (by kernel_rfl) (by kernel_rfl)) ?_
  intro W base args ds gs before hval0 hW hcnd _
  have hval : ∀ (j : Nat) t v, Try.f5.params[j]? = some t → args[j]? = some v → Value.okWide Try.prog W .any base t v := hval0
  have hW' := hW
  obtain ⟨p, q, hA0, hV, rfl, hfz, hnd⟩ := hW
  have hA : DataW.TrodAll enc Try.prog W 0 (fun _ => true) true Try.f5.params.toList args.toList ds p := hA0
  rw [Try.params5] at hA hval
  obtain ⟨v0, vs0, d0, ds0, p0, q0, hargs, rfl, rfl, h0, r0⟩ := trodAll_cons hA
  obtain ⟨v1, vs1, d1, ds1, p1, q1, rfl, rfl, rfl, h1, r1⟩ := trodAll_cons r0
  obtain ⟨rfl, rfl, rfl⟩ := trodAll_nil r1
  obtain rfl : args = #[v0, v1] := by cases args; simp_all
  obtain ⟨rfl, rfl⟩ := trodVars_none hV
  have k0 := h0
  have lt0 : ∀ x ∈ p0, x.block < W.heap.size := by obtain ⟨m, hm⟩ := k0; exact DataW.trod_lt m _ _ _ hm
  obtain ⟨a0, rfl, _, _, wf0⟩ := open_float Try.underlying22 (hval 0 22 v0 rfl rfl) h0
  have w0 := wb wf0
  have k1 := h1
  have lt1 : ∀ x ∈ p1, x.block < W.heap.size := by obtain ⟨m, hm⟩ := k1; exact DataW.trod_lt m _ _ _ hm
  obtain ⟨a1, rfl, _, _, wf1⟩ := open_float Try.underlying22 (hval 1 22 v1 rfl rfl) h1
  have w1 := wb wf1
  clear hA0 hval0
  refine (walk a0 a1 w0 w1 W).mono fun e W' ⟨he, bel⟩ => ?_
  subst he
  exact ⟨_, rfl, _, _, _, [], _, [], hW', trodAll_mk1 (shut_bool Try.underlying4 _), (trodAll_cons_mk (Below.trod laidOut (by kernel_rfl) (of_decide_eq_true (by kernel_rfl)) k0 bel lt0) (trodAll_cons_mk (Below.trod laidOut (by kernel_rfl) (of_decide_eq_true (by kernel_rfl)) k1 bel lt1) trodAll_mk0)), rfl, Below.frame bel _, fun h => by cases h⟩

theorem proved : Rows.SpanOnesSaid :=
  OpenClaim.holds_of_wide 5 Try.f5 rfl rfl rfl rfl rfl rfl rfl ⟨rfl, rfl, rfl, rfl, rfl⟩ rfl rfl rfl rfl rfl (by kernel_rfl) Try.func5 (by kernel_rfl)
    (of_decide_eq_true (by kernel_rfl)) (by unfold Func.isWrapper; first | (rw [if_pos (by decide +kernel)]; kernel_rfl) | (rw [if_neg (by decide +kernel)]; exact ⟨rfl, rfl⟩))
    (fun os started H enc _ => lifted os started H enc)
end Go.Proofs.Ytieljldhpinklad.spanOnesDone
namespace Go.Proofs.Ytieljldhpinklad
theorem spanOnes_holds : Rows.SpanOnesSaid := spanOnesDone.proved
#print axioms spanOnes_holds
end Go.Proofs.Ytieljldhpinklad
