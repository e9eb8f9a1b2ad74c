/- Proved: for every span and every float64 the law SpanHas returns true, without a condition. -/
import Derived.Test.YtieljldhpinklacRf
import Derived.ProofKit
import Derived.OpenShut
import Derived.Lib.SmallJoins
namespace Go.Proofs.Ytieljldhpinklac.spanHasDone
open Go.ChangeShapes Go.WideShapes Go.ChangeAt Go.RowKit Go.Joins
set_option linter.unusedVariables false

theorem own : ownKnob Try.prog.godebug = none := by kernel_rfl
theorem laidOut : laidOutB Try.prog = true := by kernel_rfl
theorem wb {a : Nat} (h : (Lit.float .f64 a).wf = true) : Fl.W a := by simp [Lit.wf] at h; exact h
theorem trod_float {H : Type} {enc : TypeId × Value → H} {P : Program} {w : World} {base : Nat} {spare : Nat → Bool} {held : Bool} {fuel : Nat} {t : TypeId} {cs : List Value} {x : DataW H × List MemPlace} (ht : P.underlying t = some (.float .f64)) (h : DataW.trod enc P w base spare held fuel t cs = some x) : ∃ n, cs = [.float .f64 n] ∧ x = (.lit (.float .f64 n), []) ∧ (Lit.float .f64 n).wf = true := by
  cases fuel with
  | zero => simp [DataW.trod] at h
  | succ n =>
    unfold DataW.trod at h
    rw [ht] at h
    split at h <;> simp_all
theorem cellsSpan : Try.prog.cellsOf 24 = 4 := by kernel_rfl
theorem open_span {H : Type} {enc : TypeId × Value → H} {W : World} {base : Nat} {v : Value} {d : DataW H} {ps : List MemPlace} (hv : Value.okWide Try.prog W .any base 24 v) (h : DataW.Trod enc Try.prog W 0 (fun _ => true) true 24 v d ps) :
    ∃ (a b : Nat) (p q : Bool), v = .agg #[.float .f64 a, .float .f64 b, .bool p, .bool q] ∧ Fl.W a ∧ Fl.W b := by
  obtain ⟨v0, v1, v2, v3, y0, y1, y2, y3, m, rfl, _, _, h0, h1, h2, h3⟩ := open_agg4 Try.underlying24 (by kernel_rfl) cellsSpan hv h
  obtain ⟨a, e0, _, wa⟩ := trod_float Try.underlying22 h0
  obtain ⟨b, e1, _, wbb⟩ := trod_float Try.underlying22 h1
  obtain ⟨p, e2, _⟩ := DataW.trod_bool Try.underlying4 h2
  obtain ⟨q, e3, _⟩ := DataW.trod_bool Try.underlying4 h3
  simp at e0 e1 e2 e3; subst e0 e1 e2 e3
  exact ⟨a, b, p, q, rfl, wb wa, wb wbb⟩
attribute [local go_sem] run_bits run_frombits run_store_float eqF
set_option maxHeartbeats 2000000 in
theorem core (a b k L R : Nat) (p q t : Bool) (ha : Fl.W a) (hb : Fl.W b) (hk : Fl.W k)
    (H1 : Hid (∀ w, Calls Try.prog 17 #[.agg #[.float .f64 4607182418800017408, .float .f64 4611686018427387904, .bool false, .bool false], .float .f64 4607182418800017408] w fun o w' => o = .returned (.bool true) ∧ Up w w')) (HH : Hid (∀ w, Calls Try.prog 17 #[.agg #[.float .f64 a, .float .f64 b, .bool p, .bool q], .float .f64 k] w fun o w' => o = .returned (.bool t) ∧ Up w w'))
    (HO : Hid (∀ w, Calls Try.prog 9 #[.agg #[.float .f64 a, .float .f64 b, .bool p, .bool q]] w fun o w' => o = .returned (.agg #[.int .u64 (L : Nat), .int .u64 (R : Nat)]) ∧ Up w w')) (HR : Hid (∀ w, Calls Try.prog 19 #[.agg #[.int .u64 (L : Nat), .int .u64 (R : Nat)], .float .f64 k] w fun o w' => o = .returned (.bool t) ∧ Up w w')) (HP : Hid (t = Fl.plainB a b k p q)) (w : World) :
    Calls Try.prog 4 #[.agg #[.float .f64 a, .float .f64 b, .bool p, .bool q], .float .f64 k] w fun e w' => e = .returned (.bool true) ∧ Up w w' := by
  go_enter Try.func4, Try.ntmps4
  go_wp2_with (first | (go_at_call 18; refine (at_any _ _ _).mono ?_; rintro e w2 ⟨rfl, hb2⟩; have s2 : SpAt w.heap.size a b p q w2 := SpAt.up hb2 (by simp [SpAt])) | (go_at_call_of 17 (Value.float FloatKind.f64 k); refine (HH.out _).mono ?_; rintro e w4 ⟨rfl, hb4⟩; have s4 : SpAt w.heap.size a b p q w4 := (by apply SpAt.up; assumption; assumption)) | (go_at_call_of 17 (Value.float FloatKind.f64 4607182418800017408); refine (H1.out _).mono ?_; rintro e w3 ⟨rfl, hb3⟩; have s3 : SpAt w.heap.size a b p q w3 := (by apply SpAt.up; assumption; assumption)) | (go_at_call 9; refine (HO.out _).mono ?_; rintro e w5 ⟨rfl, hb5⟩; have s5 : SpAt w.heap.size a b p q w5 := (by apply SpAt.up; assumption; assumption)) | (go_at_call 19; refine (HR.out _).mono ?_; rintro e w6 ⟨rfl, hb6⟩; have s6 : SpAt w.heap.size a b p q w6 := (by apply SpAt.up; assumption; assumption)))
  all_goals go_ret
  all_goals exact ⟨ret_b (by rw [HP.out]; unfold Fl.plainB; simp [*]), (by repeat (first | exact Up.refl _ | assumption | refine Up.drew ?_ | refine Up.drewN ?_ _ | refine Up.alloc ?_ _ | refine Up.setCell ?_ ?_ _ | exact Nat.le_refl _ | exact Nat.le_add_right _ _ | (dsimp only; omega) | refine Up.trans ?_ ‹Up _ _›))⟩

theorem walk (a0 b0 : Nat) (p0 q0 : Bool) (a1 : Nat) (w : World) (w0 : Fl.W a0) (x0 : Fl.W b0) (w1 : Fl.W a1) :
    Calls Try.prog 4 #[.agg #[.float .f64 a0, .float .f64 b0, .bool p0, .bool q0], .float .f64 a1] w fun e w' => e = .returned (.bool true) ∧ Up w w' := by
  have F12 : Fl.IsForm 4607182418800017408 4611686018427387904 false := by
    refine ⟨by unfold Fl.W; decide, by unfold Fl.W; decide, fun h => (by cases h), fun _ => by decide +kernel⟩
  have H1 := fun w => has_form _ _ 4607182418800017408 _ F12 (by unfold Fl.W; decide) w
  rw [show Fl.hasF 4607182418800017408 4611686018427387904 false 4607182418800017408 = true by decide +kernel] at H1
  have HR := fun w => rHas_any (Fl.rL a0 b0 p0 q0) (Fl.rH a0 b0 p0 q0) a1 w1 w
  rw [Fl.rHas_eq a0 b0 a1 p0 q0 w0 x0] at HR
  exact core a0 b0 a1 _ _ p0 q0 _ w0 x0 w1 H1 (fun w => has_any a0 b0 a1 w0 x0 w1 p0 q0 w) (fun w => rOf_any a0 b0 w0 x0 p0 q0 w) HR (Fl.has_plain a0 b0 a1 p0 q0 w0 x0 w1) w

set_option maxRecDepth 100000 in
theorem lifted (os : Os) (started : os.Started) (H : Type) (enc : TypeId × Value → H) :
    ReturnsInHanded {} Try.checked os 4 .any (Rows.spanHasSpec.pre6 enc Try.prog Try.f4 Rows.spanHasRow.domain false) (Rows.spanHasSpec.post enc Try.prog Try.f4 false true false false) := by
  refine returnsInHanded_of_change (C := Try.checked) own started (by kernel_rfl) Try.func4
    (ChangeSpec.witness6 (enc := enc) (C := Try.checked) false ⟨#[], #[.agg #[.float .f64 0, .float .f64 0, .bool false, .bool false], .float .f64 0], []⟩ 8 (by kernel_rfl) (by kernel_rfl) (by kernel_rfl) (by kernel_rfl)) ?_
  intro W base args ds gs before hval0 hW hcnd _
  have hval : ∀ (j : Nat) t v, Try.f4.params[j]? = some t → args[j]? = some v → Value.okWide Try.prog W .any base t v := hval0
  have hW' := hW
  obtain ⟨p, q, hA0, hV, rfl, hfz, hnd⟩ := hW
  have hA : DataW.TrodAll enc Try.prog W 0 (fun _ => true) true Try.f4.params.toList args.toList ds p := hA0
  rw [Try.params4] at hA hval
  obtain ⟨v0, vs0, d0, ds0, p0, q0, hargs, rfl, rfl, h0, r0⟩ := trodAll_cons hA
  obtain ⟨v1, vs1, d1, ds1, p1, q1, rfl, rfl, rfl, h1, r1⟩ := trodAll_cons r0
  obtain ⟨rfl, rfl, rfl⟩ := trodAll_nil r1
  obtain rfl : args = #[v0, v1] := by cases args; simp_all
  obtain ⟨rfl, rfl⟩ := trodVars_none hV
  have k0 := h0
  have lt0 : ∀ x ∈ p0, x.block < W.heap.size := by obtain ⟨m, hm⟩ := k0; exact DataW.trod_lt m _ _ _ hm
  obtain ⟨a0, b0, bp0, bq0, rfl, w0, x0⟩ := open_span (hval 0 24 v0 rfl rfl) h0
  have k1 := h1
  have lt1 : ∀ x ∈ p1, x.block < W.heap.size := by obtain ⟨m, hm⟩ := k1; exact DataW.trod_lt m _ _ _ hm
  obtain ⟨a1, rfl, _, _, wf1⟩ := open_float Try.underlying22 (hval 1 22 v1 rfl rfl) h1
  have w1 := wb wf1
  clear hA0 hval0
  refine (walk a0 b0 bp0 bq0 a1 W w0 x0 w1).mono fun e W' ⟨he, bel⟩ => ?_
  subst he
  exact ⟨_, rfl, _, _, _, [], _, [], hW', trodAll_mk1 (shut_bool Try.underlying4 _), (trodAll_cons_mk (Below.trod laidOut (by kernel_rfl) (of_decide_eq_true (by kernel_rfl)) k0 bel lt0) (trodAll_cons_mk (Below.trod laidOut (by kernel_rfl) (of_decide_eq_true (by kernel_rfl)) k1 bel lt1) trodAll_mk0)), rfl, Below.frame bel _, fun h => by cases h⟩

theorem proved : Rows.SpanHasSaid :=
  OpenClaim.holds_of_wide 4 Try.f4 rfl rfl rfl rfl rfl rfl rfl ⟨rfl, rfl, rfl, rfl, rfl⟩ rfl rfl rfl rfl rfl (by kernel_rfl) Try.func4 (by kernel_rfl)
    (of_decide_eq_true (by kernel_rfl)) (by unfold Func.isWrapper; first | (rw [if_pos (by decide +kernel)]; kernel_rfl) | (rw [if_neg (by decide +kernel)]; exact ⟨rfl, rfl⟩))
    (fun os started H enc _ => lifted os started H enc)
end Go.Proofs.Ytieljldhpinklac.spanHasDone
namespace Go.Proofs.Ytieljldhpinklac
theorem spanHas_holds : Rows.SpanHasSaid := spanHasDone.proved
#print axioms spanHas_holds
end Go.Proofs.Ytieljldhpinklac
