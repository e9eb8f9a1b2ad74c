/- Proved: for every two slices of bytes the law PackFrames returns true, with the table of its sixteen words as its initialiser lays it (the card ties it), without another condition. -/
import Derived.Test.YtobdgdcccogghabDoorFg
import Derived.Test.YtobdgdcccogghabDoorCards
import Derived.Test.YtobdgdcccogghabDoorTie
import Derived.Deep.DeepHandedRow
import Derived.Lib.LaidTab
import Derived.Lib.SmallJoins
namespace Go.Proofs.YtobdgdcccogghabDoor.packFramesDone
open Go.ChangeShapes Go.WideShapes Go.ChangeAt Go.RowKit Go.Joins
set_option linter.unusedVariables false

theorem own : ownKnob Tryd.prog.godebug = none := by kernel_rfl
theorem laidOut : laidOutB Tryd.prog = true := by kernel_rfl
theorem gTab : Tryd.prog.globalNamed "quillet/pack.halves" = some 0 := by kernel_rfl
theorem gTabType : (Tryd.prog.globals[0]?).map (·.type) = some 41 := by kernel_rfl
theorem cellsTab : Tryd.prog.cellsOf 41 = 16 := by kernel_rfl
theorem cellsU : Tryd.prog.cellsOf 23 = 1 := by kernel_rfl
theorem table {W : World} (h : laidMetH Tryd.prog Rows.packFramesRow.laid W) : Lib.TabIs Tryd.prog W "quillet/pack.halves" .u32 [0, 274646895, 549293790, 820201905, 1098587580, 1361435347, 1640403810, 1905808397, 2197175160, 2460548119, 2722870694, 2987750089, 3280807620, 3553878443, 3811616794, 4084100981] :=
  Lib.tabIs_of_head (rest := []) gTab gTabType Tryd.underlying41 Tryd.underlying23 cellsU cellsTab h
theorem tab {W : World} (h : laidMetH Tryd.prog Rows.packFramesRow.laid W) : Tab W := by
  intro j hj
  have hc := (table h).cell gTab j (by simpa using hj)
  rw [hc]
  have all : ∀ j, j < 16 → ([0, 274646895, 549293790, 820201905, 1098587580, 1361435347, 1640403810, 1905808397, 2197175160, 2460548119, 2722870694, 2987750089, 3280807620, 3553878443, 3811616794, 4084100981] : List Int).getD j 0 = ((Crc.tab j : Nat) : Int) := by decide +kernel
  rw [all j hj]
theorem unfE_lt (n : Nat) (x : Nat → Nat) : unfE n x ≤ 32 := by unfold unfE; (repeat' split) <;> omega

theorem walk (v0 : Value) (n0 : Nat) (x0 : Nat → Nat) (v1 : Value) (n1 : Nat) (x1 : Nat → Nat) (w : World) (ht : Tab w) (w0 : ByRow w v0 n0 x0) (w1 : ByRow w v1 n1 x1) :
    Calls Tryd.prog 4 #[v0, v1] w fun e w' => e = .returned (.bool true) ∧ Up w w' := by
  have HV := hid w0
  have HW := hid w1
  have HT := hid ht
  clear w0 w1 ht
  have hE := unfE_lt n1 x1
  have hfE : frE n0 ≤ 2 := by unfold frE; split <;> omega
  go_enter Tryd.func4, Tryd.ntmps4
  go_wp2_with (go_at_call 9; refine (framing_any w HT.out).mono ?_; rintro e W1 ⟨rfl, u1⟩)
  refine (frame_any _ n0 x0 W1 (HT.out.up u1) (HV.out.up u1)).mono ?_
  rintro e W2 ⟨f1, rfl, o2, u2'⟩
  have u2 := u1.trans u2'
  have H2 := hid o2
  clear o2 u2'
  go_wp2_with (fail)
  refine (refFrame_any _ n0 x0 W2 (HV.out.up u2)).mono ?_
  rintro e W3 ⟨f2, rfl, o3, u3'⟩
  have u3 := u2.trans u3'
  have H3 := hid o3
  have H2' := hid (H2.out.up u3')
  clear o3 u3' H2
  go_wp2_with (fail)
  refine (sameBytes_eq _ _ _ _ _ W3 H2'.out.row H3.out.row (fun _ _ => rfl)).mono ?_
  rintro e _ ⟨rfl, m, rfl⟩
  clear H2' H3
  go_wp2_with (fail)
  have u4 := u3.drewN m
  refine (unframe_any _ n1 x1 _ (HT.out.up u4) (HW.out.up u4)).mono ?_
  rintro e W5 ⟨q, rfl, o5, u5'⟩
  have u5 := u4.trans u5'
  have H5 := hid o5
  clear o5 u5'
  go_wp2_with (fail)
  refine (refUnframe_any _ n1 x1 _ (HW.out.up u5)).mono ?_
  rintro e W6 ⟨r, rfl, o6, u6'⟩
  have u6 := u5.trans u6'
  have H6 := hid o6
  have H5' := hid (H5.out.up u6')
  clear o6 u6' H5
  go_wp2_with (go_at_call 12; refine (sameBytes_eq _ _ _ _ _ W6 H5'.out.row H6.out.row (fun _ _ => rfl)).mono ?_; rintro e _ ⟨rfl, m, rfl⟩)
  go_ret
  exact ⟨rfl, u6.drewN _⟩

/-- A world for the witness: the settled one, the table holding what its initialiser lays. -/
noncomputable def laidWorld (os : Os) : World :=
  { World.holding Tryd.prog os ⟨#[], #[], []⟩ with heap := (World.holding Tryd.prog os ⟨#[], #[], []⟩).heap.modify 0 fun
      | .cells _ t frozen => .cells #[.int .u32 0, .int .u32 274646895, .int .u32 549293790, .int .u32 820201905, .int .u32 1098587580, .int .u32 1361435347, .int .u32 1640403810, .int .u32 1905808397, .int .u32 2197175160, .int .u32 2460548119, .int .u32 2722870694, .int .u32 2987750089, .int .u32 3280807620, .int .u32 3553878443, .int .u32 3811616794, .int .u32 4084100981] t frozen
      | o => o }
theorem laid_met (os : Os) : laidMet Tryd.prog Rows.packFramesRow.laid ((laidWorld os).forCall (fun _ _ => 0) ⟨#[], #[.slice none 0 0, .slice none 0 0], []⟩).memory :=
  laidMet_of_run' 8 (by kernel_rfl) (by kernel_rfl)
theorem reads (os : Os) {H : Type} (enc : TypeId × Value → H) : ∃ places, DataW.whole enc Tryd.prog ((laidWorld os).forCall (fun _ _ => 0) ⟨#[], #[.slice none 0 0, .slice none 0 0], []⟩).memory Tryd.f4.params.toList Rows.packFramesSpec.vars false (#[.slice none 0 0, .slice none 0 0] : Array Value).toList 8 = some ([.nil, .nil], [], places) :=
  ⟨[], by kernel_rfl⟩
set_option maxRecDepth 100000 in
theorem lifted (os : Os) (started : os.Started) (H : Type) (enc : TypeId × Value → H) (F : Stop.Interp) :
    ReturnsInHanded {} Tryd.checked os 4 .any ((OpenSpec.ofChange Rows.packFramesSpec).preRow enc Tryd.prog Tryd.f4 Rows.packFramesRow.domain false Rows.packFramesRow.laid) (((OpenSpec.ofChange Rows.packFramesSpec).at F).post enc Tryd.prog Tryd.f4 false true false false) := by
  obtain ⟨places, hx⟩ := reads os enc
  refine returnsInHanded_of_row (C := Tryd.checked) (s := OpenSpec.ofChange Rows.packFramesSpec) own started (by kernel_rfl) Tryd.func4
    (witness_row_at (enc := enc) (C := Tryd.checked) false (laidWorld os) #[.slice none 0 0, .slice none 0 0] rfl (by kernel_rfl) (by kernel_rfl) (by kernel_rfl)
      (OpenSpec.preRow_of_cond 8 hx (by kernel_rfl) (fun k hk => by cases hk) (by kernel_rfl) (laid_met os))) ?_
  intro W base args ds gs before hval0 hW hcnd _ _ hL _ _
  have hval : ∀ (j : Nat) t v, Tryd.f4.params[j]? = some t → args[j]? = some v → Value.okWide Tryd.prog W .any base t v := hval0
  have hW' := hW
  obtain ⟨p, q, hA0, hV, rfl, hfz, hnd⟩ := hW
  have hA : DataW.TrodAll enc Tryd.prog W 0 (fun _ => true) true Tryd.f4.params.toList args.toList ds p := hA0
  rw [Tryd.params4] at hA hval
  obtain ⟨v0, vs0, d0, ds0, p0, q0, hargs, rfl, rfl, h0, r0⟩ := trodAll_cons hA
  obtain ⟨v1, vs1, d1, ds1, p1, q1, rfl, rfl, rfl, h1, r1⟩ := trodAll_cons r0
  obtain ⟨rfl, rfl, rfl⟩ := trodAll_nil r1
  obtain rfl : args = #[v0, v1] := by cases args; simp_all
  obtain ⟨rfl, rfl⟩ := trodVars_none hV
  have k0 := h0
  have lt0 : ∀ x ∈ p0, x.block < W.heap.size := by obtain ⟨m, hm⟩ := k0; exact DataW.trod_lt m _ _ _ hm
  obtain ⟨n0, x0, w0⟩ := open_bytes (hval 0 22 v0 rfl rfl) h0
  have k1 := h1
  have lt1 : ∀ x ∈ p1, x.block < W.heap.size := by obtain ⟨m, hm⟩ := k1; exact DataW.trod_lt m _ _ _ hm
  obtain ⟨n1, x1, w1⟩ := open_bytes (hval 1 22 v1 rfl rfl) h1
  clear hA0 hval0
  refine (walk v0 n0 x0 v1 n1 x1 W (tab hL) w0 w1).mono fun e W' ⟨he, bel⟩ => ?_
  subst he
  exact ⟨_, rfl, _, _, _, [], _, [], hW', trodAll_mk1 (shut_bool Tryd.underlying4 _), (trodAll_cons_mk (Below.trod laidOut (by kernel_rfl) (of_decide_eq_true (by kernel_rfl)) k0 bel lt0) (trodAll_cons_mk (Below.trod laidOut (by kernel_rfl) (of_decide_eq_true (by kernel_rfl)) k1 bel lt1) trodAll_mk0)), rfl, Below.frame bel _, fun h => by cases h⟩

theorem said : Rows.PackFramesSaid :=
  OpenClaim.holds_of_cond 4 Tryd.f4 rfl rfl rfl rfl rfl rfl rfl ⟨rfl, rfl, rfl, rfl, rfl⟩ rfl rfl rfl rfl rfl (by kernel_rfl) Tryd.func4 (by kernel_rfl)
    (of_decide_eq_true (by kernel_rfl)) (by unfold Func.isWrapper; first | (rw [if_pos (by decide +kernel)]; kernel_rfl) | (rw [if_neg (by decide +kernel)]; exact ⟨rfl, rfl⟩))
    (fun os started H enc _ F => by rw [OpenClaim.pre_eq_preRow]; exact lifted os started H enc F)
theorem plain (f : FuncId) (fn : Func) (hf : Tryd.pinned.checked.prog.funcNamed "quillet/quilletlaw03.PackFrames" = some f) (hfn : Tryd.pinned.checked.prog.funcs[f]? = some fn) :
    false = Tryd.pinned.checked.prog.looks [] ∧ ∀ (j : Nat) t, fn.params[j]? = some t → Tryd.pinned.checked.prog.wantsStandIn t = false := by
  obtain rfl : f = 4 := Option.some.inj ((show Tryd.prog.funcNamed "quillet/quilletlaw03.PackFrames" = some 4 by kernel_rfl).symm.trans hf) |>.symm
  obtain rfl : fn = Tryd.f4 := (Option.some.inj (Tryd.func4.symm.trans hfn)).symm
  refine ⟨by kernel_rfl, fun j t ht => ?_⟩
  rw [Tryd.params4] at ht
  have hm := Array.mem_of_getElem? ht
  have ht2 : t = 22 := by simpa using hm
  rcases ht2 with rfl
  · exact (show Tryd.prog.wantsStandIn 22 = false by kernel_rfl)
theorem card : Rows.PackFramesCardSaid :=
  Claim7.holds_tied_plain_at .later [] _ _ _ _ said (fun _ h => by cases h) (by kernel_rfl) (fun _ h => by cases h) packFrames_row_tie rfl ⟨rfl, rfl⟩ (by kernel_rfl) rfl plain (by kernel_rfl)
end Go.Proofs.YtobdgdcccogghabDoor.packFramesDone
namespace Go.Proofs.YtobdgdcccogghabDoor
theorem packFrames_holds : Rows.PackFramesCardSaid := packFramesDone.card
#print axioms packFrames_holds
end Go.Proofs.YtobdgdcccogghabDoor
