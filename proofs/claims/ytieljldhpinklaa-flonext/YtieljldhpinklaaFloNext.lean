/- Proved: for every float64 the law FloNext returns true, without a condition. -/
import Derived.Test.YtieljldhpinklaaCq
import Derived.Test.YtieljldhpinklaaCr
import Derived.ProofKit
import Derived.OpenShut
namespace Go.Proofs.Ytieljldhpinklaa.floNextDone
open Go.ChangeShapes Go.WideShapes Go.ChangeAt Go.RowKit
set_option linter.unusedVariables false

theorem own : ownKnob Try.prog.godebug = none := by kernel_rfl

theorem wb {a : Nat} (h : (Lit.float .f64 a).wf = true) : Fl.W a := by simp [Lit.wf] at h; exact h
set_option maxHeartbeats 400000 in

theorem walk (a0 : Nat) (w0 : (Lit.float .f64 a0).wf = true) (w : World) :
    Calls Try.prog 8 #[.float .f64 a0] w fun e w' => e = .returned (.bool true) ∧ Grown w w' := by
  have h0 := wb w0
  have z1 : Fl.W 4607182418800017408 := by unfold Fl.W; decide
  have e : Fl.nextB 4607182418800017408 = 4607182418800017409 := by decide +kernel
  have o : FloatKind.f64.format.order 4607182418800017409 4607182418800017408 = some .gt := by decide +kernel
  have n1 : Fl.W (Fl.nextB a0) := (Fl.nextB_form a0 h0).2
  have p1 : Fl.W (Fl.prevB a0) := (Fl.prevB_form a0 h0).2
  have n2 : (((Fl.canon (Fl.nextB a0) : Nat) : Int) == ((Fl.nextB a0 : Nat) : Int)) = true := by rw [(Fl.nextB_form a0 h0).1]; simp
  have p2 : (((Fl.canon (Fl.prevB a0) : Nat) : Int) == ((Fl.prevB a0 : Nat) : Int)) = true := by rw [(Fl.prevB_form a0 h0).1]; simp
  go_enter Try.func8, Try.ntmps8
  go_wp2_with (first | (go_at_call 20; refine (next_any _ ‹_› _).mono ?_; rintro e w' ⟨rfl, rfl⟩) | (go_at_call 23; refine (prev_any _ ‹_› _).mono ?_; rintro e w' ⟨rfl, rfl⟩) | (go_at_call 22; refine (rnext_any _ ‹_› _).mono ?_; rintro e w' ⟨rfl, rfl⟩) | (go_at_call 24; refine (rprev_any _ ‹_› _).mono ?_; rintro e w' ⟨rfl, rfl⟩) | (go_at_call 21; refine (same_any _ _ ‹_› ‹_› _).mono ?_; rintro e w' ⟨rfl, rfl⟩) | (go_at_call 17; refine (form_any _ ‹_› _).mono ?_; rintro e w' ⟨rfl, rfl⟩) | (go_at_call 25; refine (isInf_pos _ ‹_› _).mono ?_; rintro e w' ⟨rfl, rfl⟩))
  all_goals go_ret
  all_goals exact ⟨rfl, by repeat (first | exact Grown.refl _ | apply Grown.drew | apply Grown.alloc)⟩

set_option maxRecDepth 100000 in
theorem lifted (os : Os) (started : os.Started) (H : Type) (enc : TypeId × Value → H) :
    ReturnsInHanded {} Try.checked os 8 .any (Rows.floNextSpec.pre6 enc Try.prog Try.f8 Rows.floNextRow.domain false) (Rows.floNextSpec.post enc Try.prog Try.f8 false true false false) := by
  refine returnsInHanded_of_change (C := Try.checked) own started (by kernel_rfl) Try.func8
    (ChangeSpec.witness6 (enc := enc) (C := Try.checked) false ⟨#[], #[.float .f64 0], []⟩ 8 (by kernel_rfl) (by kernel_rfl) (by kernel_rfl) (by kernel_rfl)) ?_
  intro W base args ds gs before hval0 hW hcnd _
  have hval : ∀ (j : Nat) t v, Try.f8.params[j]? = some t → args[j]? = some v → Value.okWide Try.prog W .any base t v := hval0
  have hW' := hW
  obtain ⟨p, q, hA0, hV, rfl, hfz, hnd⟩ := hW
  have hA : DataW.TrodAll enc Try.prog W 0 (fun _ => true) true Try.f8.params.toList args.toList ds p := hA0
  rw [Try.params8] at hA hval
  obtain ⟨v0, vs0, d0, ds0, p0, q0, hargs, rfl, rfl, h0, r0⟩ := trodAll_cons hA
  obtain ⟨rfl, rfl, rfl⟩ := trodAll_nil r0
  obtain rfl : args = #[v0] := by cases args; simp_all
  obtain ⟨rfl, rfl⟩ := trodVars_none hV
  obtain ⟨a0, rfl, rfl, rfl, w0⟩ := open_float Try.underlying22 (hval 0 22 v0 rfl rfl) h0
  clear hA0 hval0
  simp only [List.append_nil] at hW'
  refine (walk a0 w0 W).mono fun e W' ⟨he, hg⟩ => ?_
  subst he
  exact ⟨_, rfl, post_of_same (pa := []) (pv := []) hW' (fun _ _ _ => (trodAll_cons_mk (shut_bool Try.underlying4 _) trodAll_mk0)) (fun sp _ => (trodAll_cons_mk (shut_float Try.underlying22 w0) trodAll_mk0)) (fun _ _ => rfl) rfl
    (hg.frame _) hg.2.1 (ok_one (by kernel_rfl) rfl (okWide_bool_mk Try.underlying4 _))⟩

theorem proved : Rows.FloNextSaid :=
  OpenClaim.holds_of_wide 8 Try.f8 rfl rfl rfl rfl rfl rfl rfl ⟨rfl, rfl, rfl, rfl, rfl⟩ rfl rfl rfl rfl rfl (by kernel_rfl) Try.func8 (by kernel_rfl)
    (of_decide_eq_true (by kernel_rfl)) (by unfold Func.isWrapper; first | (rw [if_pos (by decide +kernel)]; kernel_rfl) | (rw [if_neg (by decide +kernel)]; exact ⟨rfl, rfl⟩))
    (fun os started H enc _ => lifted os started H enc)
end Go.Proofs.Ytieljldhpinklaa.floNextDone
namespace Go.Proofs.Ytieljldhpinklaa
theorem floNext_holds : Rows.FloNextSaid := floNextDone.proved
#print axioms floNext_holds
end Go.Proofs.Ytieljldhpinklaa
