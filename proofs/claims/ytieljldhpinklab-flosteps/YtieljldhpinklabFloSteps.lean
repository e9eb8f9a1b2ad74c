/- Proved: for every two float64 the law FloSteps returns true, without a condition. -/
import Derived.Test.YtieljldhpinklabCq
import Derived.Test.YtieljldhpinklabFs
import Derived.ProofKit
import Derived.OpenShut
namespace Go.Proofs.Ytieljldhpinklab.floStepsDone
open Go.ChangeShapes Go.WideShapes Go.ChangeAt Go.RowKit
set_option linter.unusedVariables false

theorem own : ownKnob Try.prog.godebug = none := by kernel_rfl

theorem wb {a : Nat} (h : (Lit.float .f64 a).wf = true) : Fl.W a := by simp [Lit.wf] at h; exact h
set_option maxHeartbeats 1000000 in

theorem walk (a0 : Nat) (a1 : Nat) (w0 : (Lit.float .f64 a0).wf = true) (w1 : (Lit.float .f64 a1).wf = true) (w : World) :
    Calls Try.prog 3 #[.float .f64 a0, .float .f64 a1] w fun e w' => e = .returned (.bool true) ∧ Grown w w' := by
  have h0 := wb w0
  have h1 := wb w1
  have z1 : Fl.W 4607182418800017408 := by unfold Fl.W; decide
  have e : Fl.nextB 4607182418800017408 = 4607182418800017409 := by decide +kernel
  have o : FloatKind.f64.format.order 4607182418800017409 4607182418800017408 = some .gt := by decide +kernel
  have n1 : Fl.W (Fl.nextB a0) := (Fl.nextB_form a0 h0).2
  have p1 : Fl.W (Fl.prevB a0) := (Fl.prevB_form a0 h0).2
  have pn : Fl.W (Fl.prevB (Fl.nextB a0)) := (Fl.prevB_form _ n1).2
  have np : Fl.W (Fl.nextB (Fl.prevB a0)) := (Fl.nextB_form _ p1).2
  have r0 := Fl.code_range a0 h0
  have r1 := Fl.code_range a1 h1
  have ci := Fl.code_inf_iff a0 h0
  have cp := Fl.code_prev a0 h0
  clear w0 w1
  by_cases hi : a0 = Fl.INF
  · have i1 : decide (a0 = Fl.INF) = true := by simpa using hi
    have i2 : decide (Fl.nextB a0 = Fl.INF) = true := by rw [hi]; decide +kernel
    have c1 : Fl.cmpc (Fl.prevB a0) a0 = -1 := Fl.cmpc_lt _ _ (by rw [cp, ci.2 hi]; decide)
    clear hi r0 r1 ci cp
    go_enter Try.func3, Try.ntmps3
    go_wp2_with (first | (go_at_call 7; refine (next_any _ ‹_› _).mono ?_; rintro e w' ⟨rfl, rfl⟩) | (go_at_call 8; refine (prev_any _ ‹_› _).mono ?_; rintro e w' ⟨rfl, rfl⟩) | (go_at_call 10; refine (cmp_any _ _ ‹_› ‹_› _).mono ?_; rintro e w' ⟨rfl, rfl⟩) | (go_at_call 9; refine (isInf_pos _ ‹_› _).mono ?_; rintro e w' ⟨rfl, rfl⟩) | (go_at_call 11; refine (isNaN_any _ ‹_› _).mono ?_; rintro e w' ⟨rfl, rfl⟩))
    all_goals go_ret
    all_goals exact ⟨rfl, by repeat (first | exact Grown.refl _ | apply Grown.drew | apply Grown.alloc)⟩

  have i1 : decide (a0 = Fl.INF) = false := by simpa using hi
  have cn := Fl.code_next a0 h0 hi
  have ne : Fl.code a0 ≠ 18442240474082181120 := fun h => hi (ci.1 h)
  have cpn := Fl.code_prev (Fl.nextB a0) n1
  rw [cn] at cpn
  have lt1 : Fl.code a0 < Fl.nc (Fl.code a0) := by unfold Fl.nc; (repeat' split) <;> omega
  have pcnc : Fl.pc (Fl.nc (Fl.code a0)) = Fl.code a0 := by unfold Fl.nc Fl.pc; (repeat' split) <;> omega
  have gap : ¬ (Fl.code a0 < Fl.code a1 ∧ Fl.code a1 < Fl.nc (Fl.code a0)) := by unfold Fl.nc; (repeat' split) <;> omega
  have c1 : Fl.cmpc a0 (Fl.nextB a0) = -1 := Fl.cmpc_lt _ _ (by rw [cn]; exact lt1)
  have c2 : Fl.cmpc (Fl.prevB (Fl.nextB a0)) a0 = 0 := Fl.cmpc_eq _ _ (by rw [cpn, pcnc])
  have ny : ((Fl.cmpc a1 a0 == 1) = false) ∨ ((Fl.cmpc a1 a0 == 1) = true ∧ (Fl.cmpc a1 (Fl.nextB a0) == -1) = false) := by
    rcases Fl.cmpc_cases a1 a0 with ⟨x, y⟩ | ⟨x, y⟩ | ⟨x, y⟩
    · left; rw [x]; decide
    · left; rw [x]; decide
    · right; refine ⟨by rw [x]; decide, ?_⟩
      rcases Fl.cmpc_cases a1 (Fl.nextB a0) with ⟨x', y'⟩ | ⟨x', y'⟩ | ⟨x', y'⟩
      · rw [cn] at y'; exact absurd ⟨y, y'⟩ gap
      · rw [x']; decide
      · rw [x']; decide
  by_cases hn : Fl.nan a0 = true
  · have hp : Fl.nan (Fl.prevB a0) = true := by unfold Fl.prevB; rw [if_pos (.inl hn)]; decide +kernel
    clear hi r0 r1 ci cp cn ne cpn lt1 pcnc gap
    rcases ny with y1 | ⟨y1, y2⟩
    · go_enter Try.func3, Try.ntmps3
      go_wp2_with (first | (go_at_call 7; refine (next_any _ ‹_› _).mono ?_; rintro e w' ⟨rfl, rfl⟩) | (go_at_call 8; refine (prev_any _ ‹_› _).mono ?_; rintro e w' ⟨rfl, rfl⟩) | (go_at_call 10; refine (cmp_any _ _ ‹_› ‹_› _).mono ?_; rintro e w' ⟨rfl, rfl⟩) | (go_at_call 9; refine (isInf_pos _ ‹_› _).mono ?_; rintro e w' ⟨rfl, rfl⟩) | (go_at_call 11; refine (isNaN_any _ ‹_› _).mono ?_; rintro e w' ⟨rfl, rfl⟩))
      all_goals go_ret
      all_goals exact ⟨rfl, by repeat (first | exact Grown.refl _ | apply Grown.drew | apply Grown.alloc)⟩
    · go_enter Try.func3, Try.ntmps3
      go_wp2_with (first | (go_at_call 7; refine (next_any _ ‹_› _).mono ?_; rintro e w' ⟨rfl, rfl⟩) | (go_at_call 8; refine (prev_any _ ‹_› _).mono ?_; rintro e w' ⟨rfl, rfl⟩) | (go_at_call 10; refine (cmp_any _ _ ‹_› ‹_› _).mono ?_; rintro e w' ⟨rfl, rfl⟩) | (go_at_call 9; refine (isInf_pos _ ‹_› _).mono ?_; rintro e w' ⟨rfl, rfl⟩) | (go_at_call 11; refine (isNaN_any _ ‹_› _).mono ?_; rintro e w' ⟨rfl, rfl⟩))
      all_goals go_ret
      all_goals exact ⟨rfl, by repeat (first | exact Grown.refl _ | apply Grown.drew | apply Grown.alloc)⟩
  · have hn' := Fl.nf a0 hn
    have nz : Fl.code a0 ≠ 0 := by have := Fl.code_pos a0 h0 hn'; omega
    have ltp : Fl.pc (Fl.code a0) < Fl.code a0 := by unfold Fl.pc; (repeat' split) <;> omega
    have pne : Fl.prevB a0 ≠ Fl.INF := by intro h; rw [(Fl.code_inf_iff _ p1).2 h] at cp; omega
    have cnp := Fl.code_next (Fl.prevB a0) p1 pne
    have ncpc : Fl.nc (Fl.pc (Fl.code a0)) = Fl.code a0 := by unfold Fl.nc Fl.pc; (repeat' split) <;> omega
    have c3 : Fl.cmpc (Fl.prevB a0) a0 = -1 := Fl.cmpc_lt _ _ (by rw [cp]; exact ltp)
    have c4 : Fl.cmpc (Fl.nextB (Fl.prevB a0)) a0 = 0 := Fl.cmpc_eq _ _ (by rw [cnp, cp, ncpc])
    clear hi r0 r1 ci cp cn ne cpn lt1 pcnc gap nz ltp pne cnp ncpc hn
    rcases ny with y1 | ⟨y1, y2⟩
    · go_enter Try.func3, Try.ntmps3
      go_wp2_with (first | (go_at_call 7; refine (next_any _ ‹_› _).mono ?_; rintro e w' ⟨rfl, rfl⟩) | (go_at_call 8; refine (prev_any _ ‹_› _).mono ?_; rintro e w' ⟨rfl, rfl⟩) | (go_at_call 10; refine (cmp_any _ _ ‹_› ‹_› _).mono ?_; rintro e w' ⟨rfl, rfl⟩) | (go_at_call 9; refine (isInf_pos _ ‹_› _).mono ?_; rintro e w' ⟨rfl, rfl⟩) | (go_at_call 11; refine (isNaN_any _ ‹_› _).mono ?_; rintro e w' ⟨rfl, rfl⟩))
      all_goals go_ret
      all_goals exact ⟨rfl, by repeat (first | exact Grown.refl _ | apply Grown.drew | apply Grown.alloc)⟩
    · go_enter Try.func3, Try.ntmps3
      go_wp2_with (first | (go_at_call 7; refine (next_any _ ‹_› _).mono ?_; rintro e w' ⟨rfl, rfl⟩) | (go_at_call 8; refine (prev_any _ ‹_› _).mono ?_; rintro e w' ⟨rfl, rfl⟩) | (go_at_call 10; refine (cmp_any _ _ ‹_› ‹_› _).mono ?_; rintro e w' ⟨rfl, rfl⟩) | (go_at_call 9; refine (isInf_pos _ ‹_› _).mono ?_; rintro e w' ⟨rfl, rfl⟩) | (go_at_call 11; refine (isNaN_any _ ‹_› _).mono ?_; rintro e w' ⟨rfl, rfl⟩))
      all_goals go_ret
      all_goals exact ⟨rfl, by repeat (first | exact Grown.refl _ | apply Grown.drew | apply Grown.alloc)⟩

set_option maxRecDepth 100000 in
theorem lifted (os : Os) (started : os.Started) (H : Type) (enc : TypeId × Value → H) :
    ReturnsInHanded {} Try.checked os 3 .any (Rows.floStepsSpec.pre6 enc Try.prog Try.f3 Rows.floStepsRow.domain false) (Rows.floStepsSpec.post enc Try.prog Try.f3 false true false false) := by
  refine returnsInHanded_of_change (C := Try.checked) own started (by kernel_rfl) Try.func3
    (ChangeSpec.witness6 (enc := enc) (C := Try.checked) false ⟨#[], #[.float .f64 0, .float .f64 0], []⟩ 8 (by kernel_rfl) (by kernel_rfl) (by kernel_rfl) (by kernel_rfl)) ?_
  intro W base args ds gs before hval0 hW hcnd _
  have hval : ∀ (j : Nat) t v, Try.f3.params[j]? = some t → args[j]? = some v → Value.okWide Try.prog W .any base t v := hval0
  have hW' := hW
  obtain ⟨p, q, hA0, hV, rfl, hfz, hnd⟩ := hW
  have hA : DataW.TrodAll enc Try.prog W 0 (fun _ => true) true Try.f3.params.toList args.toList ds p := hA0
  rw [Try.params3] at hA hval
  obtain ⟨v0, vs0, d0, ds0, p0, q0, hargs, rfl, rfl, h0, r0⟩ := trodAll_cons hA
  obtain ⟨v1, vs1, d1, ds1, p1, q1, rfl, rfl, rfl, h1, r1⟩ := trodAll_cons r0
  obtain ⟨rfl, rfl, rfl⟩ := trodAll_nil r1
  obtain rfl : args = #[v0, v1] := by cases args; simp_all
  obtain ⟨rfl, rfl⟩ := trodVars_none hV
  obtain ⟨a0, rfl, rfl, rfl, w0⟩ := open_float Try.underlying22 (hval 0 22 v0 rfl rfl) h0
  obtain ⟨a1, rfl, rfl, rfl, w1⟩ := open_float Try.underlying22 (hval 1 22 v1 rfl rfl) h1
  clear hA0 hval0
  simp only [List.append_nil] at hW'
  refine (walk a0 a1 w0 w1 W).mono fun e W' ⟨he, hg⟩ => ?_
  subst he
  exact ⟨_, rfl, post_of_same (pa := []) (pv := []) hW' (fun _ _ _ => (trodAll_cons_mk (shut_bool Try.underlying4 _) trodAll_mk0)) (fun sp _ => (trodAll_cons_mk (shut_float Try.underlying22 w0) (trodAll_cons_mk (shut_float Try.underlying22 w1) trodAll_mk0))) (fun _ _ => rfl) rfl
    (hg.frame _) hg.2.1 (ok_one (by kernel_rfl) rfl (okWide_bool_mk Try.underlying4 _))⟩

theorem proved : Rows.FloStepsSaid :=
  OpenClaim.holds_of_wide 3 Try.f3 rfl rfl rfl rfl rfl rfl rfl ⟨rfl, rfl, rfl, rfl, rfl⟩ rfl rfl rfl rfl rfl (by kernel_rfl) Try.func3 (by kernel_rfl)
    (of_decide_eq_true (by kernel_rfl)) (by unfold Func.isWrapper; first | (rw [if_pos (by decide +kernel)]; kernel_rfl) | (rw [if_neg (by decide +kernel)]; exact ⟨rfl, rfl⟩))
    (fun os started H enc _ => lifted os started H enc)
end Go.Proofs.Ytieljldhpinklab.floStepsDone
namespace Go.Proofs.Ytieljldhpinklab
theorem floSteps_holds : Rows.FloStepsSaid := floStepsDone.proved
#print axioms floSteps_holds
end Go.Proofs.Ytieljldhpinklab
