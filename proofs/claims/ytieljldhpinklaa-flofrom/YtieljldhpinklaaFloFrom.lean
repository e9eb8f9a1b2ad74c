/- Proved: for every uint64 the law FloFrom returns true, without a condition. -/
import Derived.Test.YtieljldhpinklaaCp
import Derived.Deep.RegionWith
import Derived.ProofKit
import Derived.OpenShut
namespace Go.Proofs.Ytieljldhpinklaa.floFromDone
open Go.ChangeShapes Go.WideShapes Go.ChangeAt Go.RowKit
set_option linter.unusedVariables false

theorem own : ownKnob Try.prog.godebug = none := by kernel_rfl

attribute [local go_sem] run_bits run_frombits
theorem wu {a : Int} (h : (Lit.int .u64 a).wf = true) : ∃ u : Nat, a = (u : Int) ∧ Fl.W u := by
  simp [Lit.wf, IntKind.min, IntKind.max, IntKind.bits, IntKind.signed] at h
  exact ⟨a.toNat, by omega, by unfold Fl.W; omega⟩
set_option maxHeartbeats 400000 in

theorem walk (a0 : Int) (w0 : (Lit.int .u64 a0).wf = true) (w : World) :
    Calls Try.prog 5 #[.int .u64 a0] w fun e w' => e = .returned (.bool true) ∧ Grown w w' := by
  obtain ⟨u, rfl, hu⟩ := wu w0
  clear w0
  have hs : Fl.W 9223372036854775808 := by unfold Fl.W; decide
  have HS1 := fun w => from_yes 9223372036854775808 hs (by decide +kernel) w
  rw [show Fl.of 9223372036854775808 = 0 by decide +kernel] at HS1
  have HS : Hid _ := HS1
  have o0 : FloatKind.f64.format.order 0 0 = some .eq := by decide +kernel
  clear HS1
  by_cases hc : Fl.isCode u = true
  · have HF : Hid _ := fun w => from_yes u hu hc w
    have ho : Fl.W (Fl.of u) := Fl.of_lt u hu
    have e1 := Fl.code_of u hu hc
    have t1 : (((Fl.code (Fl.of u) : Nat) : Int) == (u : Int)) = true := by rw [e1]; simp
    have t2 : (((Fl.canon (Fl.of u) : Nat) : Int) == ((Fl.of u : Nat) : Int)) = true := by rw [← Fl.of_code (Fl.of u) ho, e1]; simp
    clear e1
    go_enter Try.func5, Try.ntmps5
    go_wp2_with (first | (go_at_call_of 15 (Value.int IntKind.u64 9223372036854775808); refine (HS.out _).mono ?_; rintro e w' ⟨rfl, rfl⟩) | (go_at_call 15; refine (HF.out _).mono ?_; rintro e w' ⟨rfl, rfl⟩) | (go_at_call 16; refine (isCode_any _ ‹_› _).mono ?_; rintro e w' ⟨rfl, rfl⟩) | (go_at_call 14; refine (refCode_any _ ‹_› _).mono ?_; rintro e w' ⟨rfl, rfl⟩) | (go_at_call 17; refine (form_any _ ‹_› _).mono ?_; rintro e w' ⟨rfl, rfl⟩))
    all_goals go_ret
    all_goals exact ⟨rfl, by repeat (first | exact Grown.refl _ | apply Grown.drew | apply Grown.alloc)⟩
  · have hc' := Fl.isCode_false u hc
    have HF : Hid _ := fun w => from_no u hu hc' w
    clear hc
    go_enter Try.func5, Try.ntmps5
    go_wp2_with (first | (go_at_call_of 15 (Value.int IntKind.u64 9223372036854775808); refine (HS.out _).mono ?_; rintro e w' ⟨rfl, rfl⟩) | (go_at_call 15; refine (HF.out _).mono ?_; rintro e w' ⟨rfl, rfl⟩) | (go_at_call 16; refine (isCode_any _ ‹_› _).mono ?_; rintro e w' ⟨rfl, rfl⟩) | (go_at_call 14; refine (refCode_any _ ‹_› _).mono ?_; rintro e w' ⟨rfl, rfl⟩) | (go_at_call 17; refine (form_any _ ‹_› _).mono ?_; rintro e w' ⟨rfl, rfl⟩))
    all_goals go_ret
    all_goals exact ⟨rfl, by repeat (first | exact Grown.refl _ | apply Grown.drew | apply Grown.alloc)⟩

set_option maxRecDepth 100000 in
theorem lifted (os : Os) (started : os.Started) (H : Type) (enc : TypeId × Value → H) :
    ReturnsInHanded {} Try.checked os 5 .any (Rows.floFromSpec.pre6 enc Try.prog Try.f5 Rows.floFromRow.domain false) (Rows.floFromSpec.post enc Try.prog Try.f5 false true false false) := by
  refine returnsInHanded_of_change (C := Try.checked) own started (by kernel_rfl) Try.func5
    (ChangeSpec.witness6 (enc := enc) (C := Try.checked) false ⟨#[], #[.int .u64 0], []⟩ 8 (by kernel_rfl) (by kernel_rfl) (by kernel_rfl) (by kernel_rfl)) ?_
  intro W base args ds gs before hval0 hW hcnd _
  have hval : ∀ (j : Nat) t v, Try.f5.params[j]? = some t → args[j]? = some v → Value.okWide Try.prog W .any base t v := hval0
  have hW' := hW
  obtain ⟨p, q, hA0, hV, rfl, hfz, hnd⟩ := hW
  have hA : DataW.TrodAll enc Try.prog W 0 (fun _ => true) true Try.f5.params.toList args.toList ds p := hA0
  rw [Try.params5] at hA hval
  obtain ⟨v0, vs0, d0, ds0, p0, q0, hargs, rfl, rfl, h0, r0⟩ := trodAll_cons hA
  obtain ⟨rfl, rfl, rfl⟩ := trodAll_nil r0
  obtain rfl : args = #[v0] := by cases args; simp_all
  obtain ⟨rfl, rfl⟩ := trodVars_none hV
  obtain ⟨a0, rfl, rfl, rfl, w0⟩ := open_int Try.underlying24 (hval 0 24 v0 rfl rfl) h0
  clear hA0 hval0
  simp only [List.append_nil] at hW'
  refine (walk a0 w0 W).mono fun e W' ⟨he, hg⟩ => ?_
  subst he
  exact ⟨_, rfl, post_of_same (pa := []) (pv := []) hW' (fun _ _ _ => (trodAll_cons_mk (shut_bool Try.underlying4 _) trodAll_mk0)) (fun sp _ => (trodAll_cons_mk (shut_int Try.underlying24 w0) trodAll_mk0)) (fun _ _ => rfl) rfl
    (hg.frame _) hg.2.1 (ok_one (by kernel_rfl) rfl (okWide_bool_mk Try.underlying4 _))⟩

theorem proved : Rows.FloFromSaid :=
  OpenClaim.holds_of_wide 5 Try.f5 rfl rfl rfl rfl rfl rfl rfl ⟨rfl, rfl, rfl, rfl, rfl⟩ rfl rfl rfl rfl rfl (by kernel_rfl) Try.func5 (by kernel_rfl)
    (of_decide_eq_true (by kernel_rfl)) (by unfold Func.isWrapper; first | (rw [if_pos (by decide +kernel)]; kernel_rfl) | (rw [if_neg (by decide +kernel)]; exact ⟨rfl, rfl⟩))
    (fun os started H enc _ => lifted os started H enc)
end Go.Proofs.Ytieljldhpinklaa.floFromDone
namespace Go.Proofs.Ytieljldhpinklaa
theorem floFrom_holds : Rows.FloFromSaid := floFromDone.proved
#print axioms floFrom_holds
end Go.Proofs.Ytieljldhpinklaa
