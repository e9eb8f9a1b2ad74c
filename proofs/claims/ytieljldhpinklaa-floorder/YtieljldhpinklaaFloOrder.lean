/- Proved: for every three float64 the law FloOrder returns true, without a condition. -/
import Derived.Test.YtieljldhpinklaaCp
import Derived.ProofKit
import Derived.OpenShut
namespace Go.Proofs.Ytieljldhpinklaa.floOrderDone
open Go.ChangeShapes Go.WideShapes Go.ChangeAt Go.RowKit
set_option linter.unusedVariables false

theorem own : ownKnob Try.prog.godebug = none := by kernel_rfl

theorem wb {a : Nat} (h : (Lit.float .f64 a).wf = true) : Fl.W a := by simp [Lit.wf] at h; exact h
set_option maxHeartbeats 400000 in
theorem core (a b c : Nat) (ha : Fl.W a) (hb : Fl.W b) (hc : Fl.W c) (x y z t : Int) (w : World) (e0 : Fl.cmpc 4607182418800017408 4611686018427387904 = -1)
    (e1 : Fl.cmpc a b = x) (e2 : Fl.cmpc b a = y) (e3 : Fl.cmpc a a = 0) (e4 : Fl.cmpc b c = z) (e5 : Fl.cmpc a c = t) (o : Hid (x = -1 ∨ (FloatKind.f64.format.order a b == some .lt) = false))
    (hx : (x = -1 ∧ y = 1 ∧ ((z = -1 ∨ z = 0) ∧ t = -1 ∨ z = 1 ∧ (t = -1 ∨ t = 0 ∨ t = 1))) ∨ (x = 0 ∧ y = 0 ∧ (z = -1 ∧ t = -1 ∨ z = 0 ∧ t = 0 ∨ z = 1 ∧ t = 1)) ∨ (x = 1 ∧ y = -1 ∧ ((z = -1 ∧ (t = -1 ∨ t = 0 ∨ t = 1)) ∨ (z = 0 ∨ z = 1) ∧ t = 1))) :
    Calls Try.prog 7 #[.float .f64 a, .float .f64 b, .float .f64 c] w fun e w' => e = .returned (.bool true) ∧ w' = w := by
  have z1 : Fl.W 4607182418800017408 := by unfold Fl.W; decide
  have z2 : Fl.W 4611686018427387904 := by unfold Fl.W; decide
  rcases hx with ⟨rfl, rfl, ⟨rfl | rfl, rfl⟩ | ⟨rfl, rfl | rfl | rfl⟩⟩ | ⟨rfl, rfl, ⟨rfl, rfl⟩ | ⟨rfl, rfl⟩ | ⟨rfl, rfl⟩⟩ | ⟨rfl, rfl, ⟨rfl, rfl | rfl | rfl⟩ | ⟨rfl | rfl, rfl⟩⟩
  all_goals
    try have o2 := o.out.resolve_left (by decide)
    clear o
    go_enter Try.func7, Try.ntmps7
    go_wp2_with (go_at_call 18; refine (cmp_any _ _ ‹_› ‹_› _).mono ?_; rintro e w' ⟨rfl, rfl⟩)
    all_goals go_ret
    all_goals exact ⟨rfl, rfl⟩

theorem walk (a0 : Nat) (a1 : Nat) (a2 : Nat) (w0 : (Lit.float .f64 a0).wf = true) (w1 : (Lit.float .f64 a1).wf = true) (w2 : (Lit.float .f64 a2).wf = true) (w : World) :
    Calls Try.prog 7 #[.float .f64 a0, .float .f64 a1, .float .f64 a2] w fun e w' => e = .returned (.bool true) ∧ Grown w w' := by
  have h0 := wb w0
  have h1 := wb w1
  have h2 := wb w2
  have c1 := Fl.cmpc_cases a0 a1
  have c2 := Fl.cmpc_cases a1 a0
  have c3 := Fl.cmpc_cases a1 a2
  have c4 := Fl.cmpc_cases a0 a2
  have c5 := Fl.cmpc_cases a0 a0
  refine (core a0 a1 a2 h0 h1 h2 _ _ _ _ w (by decide +kernel) rfl rfl (by omega) rfl rfl ?_ (by omega)).mono ?_
  · rcases Fl.cmp_cases a0 a1 h0 h1 with ⟨na, nb, e⟩ | ⟨na, nb, e⟩ | ⟨na, nb, e⟩ | ⟨na, nb, o, e⟩ | ⟨na, nb, o, e⟩ | ⟨na, nb, o, e⟩
    · exact .inr (by rw [Fl.ord_nan_l _ _ na]; rfl)
    · exact .inl e
    · exact .inr (by rw [Fl.ord_nan_r _ _ nb]; rfl)
    · exact .inl e
    · exact .inr (by rw [o]; rfl)
    · exact .inr (by rw [o]; rfl)
  · rintro e w' ⟨rfl, rfl⟩
    exact ⟨rfl, Grown.refl _⟩

set_option maxRecDepth 100000 in
theorem lifted (os : Os) (started : os.Started) (H : Type) (enc : TypeId × Value → H) :
    ReturnsInHanded {} Try.checked os 7 .any (Rows.floOrderSpec.pre6 enc Try.prog Try.f7 Rows.floOrderRow.domain false) (Rows.floOrderSpec.post enc Try.prog Try.f7 false true false false) := by
  refine returnsInHanded_of_change (C := Try.checked) own started (by kernel_rfl) Try.func7
    (ChangeSpec.witness6 (enc := enc) (C := Try.checked) false ⟨#[], #[.float .f64 0, .float .f64 0, .float .f64 0], []⟩ 8 (by kernel_rfl) (by kernel_rfl) (by kernel_rfl) (by kernel_rfl)) ?_
  intro W base args ds gs before hval0 hW hcnd _
  have hval : ∀ (j : Nat) t v, Try.f7.params[j]? = some t → args[j]? = some v → Value.okWide Try.prog W .any base t v := hval0
  have hW' := hW
  obtain ⟨p, q, hA0, hV, rfl, hfz, hnd⟩ := hW
  have hA : DataW.TrodAll enc Try.prog W 0 (fun _ => true) true Try.f7.params.toList args.toList ds p := hA0
  rw [Try.params7] at hA hval
  obtain ⟨v0, vs0, d0, ds0, p0, q0, hargs, rfl, rfl, h0, r0⟩ := trodAll_cons hA
  obtain ⟨v1, vs1, d1, ds1, p1, q1, rfl, rfl, rfl, h1, r1⟩ := trodAll_cons r0
  obtain ⟨v2, vs2, d2, ds2, p2, q2, rfl, rfl, rfl, h2, r2⟩ := trodAll_cons r1
  obtain ⟨rfl, rfl, rfl⟩ := trodAll_nil r2
  obtain rfl : args = #[v0, v1, v2] := by cases args; simp_all
  obtain ⟨rfl, rfl⟩ := trodVars_none hV
  obtain ⟨a0, rfl, rfl, rfl, w0⟩ := open_float Try.underlying22 (hval 0 22 v0 rfl rfl) h0
  obtain ⟨a1, rfl, rfl, rfl, w1⟩ := open_float Try.underlying22 (hval 1 22 v1 rfl rfl) h1
  obtain ⟨a2, rfl, rfl, rfl, w2⟩ := open_float Try.underlying22 (hval 2 22 v2 rfl rfl) h2
  clear hA0 hval0
  simp only [List.append_nil] at hW'
  refine (walk a0 a1 a2 w0 w1 w2 W).mono fun e W' ⟨he, hg⟩ => ?_
  subst he
  exact ⟨_, rfl, post_of_same (pa := []) (pv := []) hW' (fun _ _ _ => (trodAll_cons_mk (shut_bool Try.underlying4 _) trodAll_mk0)) (fun sp _ => (trodAll_cons_mk (shut_float Try.underlying22 w0) (trodAll_cons_mk (shut_float Try.underlying22 w1) (trodAll_cons_mk (shut_float Try.underlying22 w2) trodAll_mk0)))) (fun _ _ => rfl) rfl
    (hg.frame _) hg.2.1 (ok_one (by kernel_rfl) rfl (okWide_bool_mk Try.underlying4 _))⟩

theorem proved : Rows.FloOrderSaid :=
  OpenClaim.holds_of_wide 7 Try.f7 rfl rfl rfl rfl rfl rfl rfl ⟨rfl, rfl, rfl, rfl, rfl⟩ rfl rfl rfl rfl rfl (by kernel_rfl) Try.func7 (by kernel_rfl)
    (of_decide_eq_true (by kernel_rfl)) (by unfold Func.isWrapper; first | (rw [if_pos (by decide +kernel)]; kernel_rfl) | (rw [if_neg (by decide +kernel)]; exact ⟨rfl, rfl⟩))
    (fun os started H enc _ => lifted os started H enc)
end Go.Proofs.Ytieljldhpinklaa.floOrderDone
namespace Go.Proofs.Ytieljldhpinklaa
theorem floOrder_holds : Rows.FloOrderSaid := floOrderDone.proved
#print axioms floOrder_holds
end Go.Proofs.Ytieljldhpinklaa
