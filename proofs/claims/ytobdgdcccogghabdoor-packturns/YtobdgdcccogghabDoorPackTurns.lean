/- Proved: for every slice of bytes, every int and every byte the law PackTurns returns true, with the table of its sixteen words as its initialiser lays it (the card ties it), without another condition. -/
import Derived.Test.YtobdgdcccogghabDoorTu
import Derived.Test.YtobdgdcccogghabDoorCards
import Derived.Test.YtobdgdcccogghabDoorTie
import Derived.Deep.DeepHandedRow
import Derived.Lib.LaidTab
import Derived.Lib.SmallJoins
namespace Go.Proofs.YtobdgdcccogghabDoor.packTurnsDone
open Go.ChangeShapes Go.WideShapes Go.ChangeAt Go.RowKit Go.Joins
set_option linter.unusedVariables false

theorem own : ownKnob Tryd.prog.godebug = none := by kernel_rfl
theorem laidOut : laidOutB Tryd.prog = true := by kernel_rfl
theorem gTab : Tryd.prog.globalNamed "quillet/pack.halves" = some 0 := by kernel_rfl
theorem gTabType : (Tryd.prog.globals[0]?).map (·.type) = some 41 := by kernel_rfl
theorem cellsTab : Tryd.prog.cellsOf 41 = 16 := by kernel_rfl
theorem cellsU : Tryd.prog.cellsOf 23 = 1 := by kernel_rfl
theorem table {W : World} (h : laidMetH Tryd.prog Rows.packTurnsRow.laid W) : Lib.TabIs Tryd.prog W "quillet/pack.halves" .u32 [0, 274646895, 549293790, 820201905, 1098587580, 1361435347, 1640403810, 1905808397, 2197175160, 2460548119, 2722870694, 2987750089, 3280807620, 3553878443, 3811616794, 4084100981] :=
  Lib.tabIs_of_head (rest := []) gTab gTabType Tryd.underlying41 Tryd.underlying23 cellsU cellsTab h
theorem tab {W : World} (h : laidMetH Tryd.prog Rows.packTurnsRow.laid W) : Tab W := by
  intro j hj
  have hc := (table h).cell gTab j (by simpa using hj)
  rw [hc]
  have all : ∀ j, j < 16 → ([0, 274646895, 549293790, 820201905, 1098587580, 1361435347, 1640403810, 1905808397, 2197175160, 2460548119, 2722870694, 2987750089, 3280807620, 3553878443, 3811616794, 4084100981] : List Int).getD j 0 = ((Crc.tab j : Nat) : Int) := by decide +kernel
  rw [all j hj]
theorem unfE_lt (n : Nat) (x : Nat → Nat) : unfE n x ≤ 32 := by unfold unfE; (repeat' split) <;> omega

set_option maxHeartbeats 400000 in
theorem turns_long (v0 : Value) (n0 : Nat) (x0 : Nat → Nat) (a1 : Int) (T : Nat) (w : World) (ht : Tab w) (w0 : ByRow w v0 n0 x0) (hn : 4096 < n0) :
    Calls Tryd.prog 6 #[v0, .int .i64 a1, .int .u8 (T : Int)] w fun e w' => e = .returned (.bool true) ∧ Up w w' := by
  have hm := w0.max
  have HT := hid ht
  have HV := hid w0
  obtain ⟨b, off, cap, rfl, _⟩ := w0.cells (by omega)
  clear ht w0
  unfold maxLen at hm
  go_enter Tryd.func6, Tryd.ntmps6
  go_wp2_with (first | (go_at_call 9; refine (framing_any w HT.out).mono ?_; rintro e W1 ⟨rfl, u1⟩) | (go_at_call 10; refine (frame_long _ n0 x0 _ (HV.out.up u1) hn).mono ?_; rintro e w' ⟨rfl, hw⟩; have hw2 := hw.symm; subst hw2))
  go_ret
  exact ⟨ret_b (by rw [decide_eq_true_eq]; omega), u1⟩
set_option maxHeartbeats 1000000 in
theorem turns_ok (v0 : Value) (n0 : Nat) (x0 : Nat → Nat) (a1 : Int) (T : Nat) (w : World) (ht : Tab w) (w0 : ByRow w v0 n0 x0) (hn : n0 ≤ 4096) (hT : T < 256) :
    Calls Tryd.prog 6 #[v0, .int .i64 a1, .int .u8 (T : Int)] w fun e w' => e = .returned (.bool true) ∧ Up w w' := by
  have HT := hid ht
  have HV := hid w0
  have HX := hid w0.lt
  obtain ⟨M, hM, eM⟩ := and_mask a1 8191 (by omega)
  rw [show ((8191 : Nat) : Int) = 8191 from rfl] at eM
  have kS := hid (turn_sum n0 T (M % (8 + n0)) x0 hn w0.lt hT (Nat.mod_lt _ (by omega)))
  have kL := hid (turn_len n0 T (M % (8 + n0)) x0 hn w0.lt hT)
  have HF := hid (frm_lt n0 (Crc.sum x0 n0) x0 w0.lt)
  clear ht w0
  have fr := hid (fun W hT hV => frame_ok v0 n0 x0 W hT hV hn)
  generalize frm n0 (Crc.sum x0 n0) x0 = F at *
  obtain ⟨N, hN⟩ : ∃ N, 8 + n0 = N := ⟨_, rfl⟩
  rw [hN] at kS kL HF fr
  have h8 : 8 ≤ N := by omega
  have hN2 : N ≤ 4104 := by omega
  have hI : M % N < N := Nat.mod_lt _ (by omega)
  have t0 : ((0 : Int) != 0) = false := by decide
  go_enter Tryd.func6, Tryd.ntmps6
  go_wp2_with (go_at_call 9; refine (framing_any w HT.out).mono ?_; rintro e W1 ⟨rfl, u1⟩)
  refine (fr.out W1 (HT.out.up u1) (HV.out.up u1)).mono ?_
  rintro e W2 ⟨f1, rfl, o2, u2'⟩
  have u2 := u1.trans u2'
  obtain ⟨g, cp, rfl, hg, hgl, hcap, hcm, hcl, hfr⟩ := o2.shape (by omega)
  have cI := hcl _ hI
  have H2 := hid o2
  have u2 := u1.trans u2'
  clear o2 u2' fr hcl hfr
  by_cases hd : F (M % N) = T
  · have t1 : (((F (M % N) : Nat) : Int) == (T : Int)) = true := by rw [hd]; simp
    clear hd
    go_wp2
    go_ret
    exact ⟨rfl, u2⟩
  · have t1 : (((F (M % N) : Nat) : Int) == (T : Int)) = false := by rw [beq_eq_false_iff_ne]; omega
    have HD := hid hd
    clear hd
    go_wp2_with (at_builtin; refine wp_app rfl (.tmp 37) (.tmp 38) rfl W2.heap.size _ _ 0 N (fun _ => 0) F rfl rfl (OwnB.empty (Nat.le_refl _) rfl) (H2.out.row.up ((Up.refl W2).alloc _)) (by omega) (by simp) ?_; intro v' W3 hown hgr hbel; obtain ⟨g3, cp3, rfl, hg3, hgl3, ho3, hcl3, hfr3⟩ := app_copy hown (by omega); have cI3 := hcl3 _ hI; have fI3 := hfr3 (M % N); have u3 := hid (show Up W2 W3 from Below.trans ((Up.refl W2).alloc _) hbel); clear hown hcl3 hfr3 hbel hgr)
    have ho4 := ho3.stored (M % N) T hT
    have u4 : Up W2 (W3.setCell ⟨g3, M % N, none⟩ (.int .u8 (T : Int))) := u3.out.setCell hg3 _
    refine (unframe_any _ N _ _ (HT.out.up (u2.trans u4)) ho4.row).mono ?_
    rintro e W5 ⟨q, rfl, o5, u5'⟩
    have u5 := (u2.trans u4).trans u5'
    obtain ⟨qa, qc, rfl, _, _⟩ := o5.len
    clear o5 u5' u4 ho4 ho3
    by_cases h4 : 4 ≤ M % N
    · have hE := kS.out h4 HD.out
      obtain ⟨e1, e2⟩ := unf_no hE (by omega)
      rw [hE, e1, e2]
      have t4 : decide ((4 : Int) ≤ (M : Int) % (N : Int)) = true := by rw [decide_eq_true_eq]; omega
      clear hE e1 e2 h4
      go_wp2
      go_ret
      exact ⟨rfl, u5⟩
    · have t4 : decide ((4 : Int) ≤ (M : Int) % (N : Int)) = false := by rw [decide_eq_false_iff_not]; omega
      have hE := unfE_lt N (set F (M % N) T)
      by_cases hz : unfE N (set F (M % N) T) = 0
      · have hlt := kL.out (by omega) HD.out hz
        obtain ⟨e1, e2⟩ := unf_ok hz
        rw [hz, e1, e2]
        generalize w32 (set F (M % N) T) = Z at *
        have t5 : decide (((8 + Z : Nat) : Int) < (N : Int)) = true := by rw [decide_eq_true_eq]; omega
        clear e1 e2 hz h4 hE
        go_wp2
        go_ret
        exact ⟨ret_b (by first | rfl | (simp; omega)), u5⟩
      · have t5 : (((unfE N (set F (M % N) T) : Nat) : Int) != 0) = true := by rw [bne_iff_ne]; omega
        generalize unfE N (set F (M % N) T) = E at *
        generalize unfL N (set F (M % N) T) = E2 at *
        generalize unfM N (set F (M % N) T) = E3 at *
        clear hz h4
        go_wp2
        go_ret
        exact ⟨rfl, u5⟩

theorem walk (v0 : Value) (n0 : Nat) (x0 : Nat → Nat) (a1 : Int) (a2 : Int) (w : World) (ht : Tab w) (w0 : ByRow w v0 n0 x0) (w1 : (Lit.int .i64 a1).wf = true) (w2 : (Lit.int .u8 a2).wf = true) :
    Calls Tryd.prog 6 #[v0, .int .i64 a1, .int .u8 a2] w fun e w' => e = .returned (.bool true) ∧ Up w w' := by
  have h2 : ∃ T : Nat, a2 = (T : Int) ∧ T < 256 := by
    have hw := w2
    simp [Lit.wf, IntKind.min, IntKind.max, IntKind.bits, IntKind.signed] at hw
    exact ⟨a2.toNat, by omega, by omega⟩
  obtain ⟨T, rfl, hT⟩ := h2
  by_cases hn : n0 ≤ 4096
  · exact turns_ok v0 n0 x0 a1 T w ht w0 hn hT
  · exact turns_long v0 n0 x0 a1 T w ht w0 (by omega)

/-- A world for the witness: the settled one, the table holding what its initialiser lays. -/
noncomputable def laidWorld (os : Os) : World :=
  { World.holding Tryd.prog os ⟨#[], #[], []⟩ with heap := (World.holding Tryd.prog os ⟨#[], #[], []⟩).heap.modify 0 fun
      | .cells _ t frozen => .cells #[.int .u32 0, .int .u32 274646895, .int .u32 549293790, .int .u32 820201905, .int .u32 1098587580, .int .u32 1361435347, .int .u32 1640403810, .int .u32 1905808397, .int .u32 2197175160, .int .u32 2460548119, .int .u32 2722870694, .int .u32 2987750089, .int .u32 3280807620, .int .u32 3553878443, .int .u32 3811616794, .int .u32 4084100981] t frozen
      | o => o }
theorem laid_met (os : Os) : laidMet Tryd.prog Rows.packTurnsRow.laid ((laidWorld os).forCall (fun _ _ => 0) ⟨#[], #[.slice none 0 0, .int .i64 0, .int .u8 0], []⟩).memory :=
  laidMet_of_run' 8 (by kernel_rfl) (by kernel_rfl)
theorem reads (os : Os) {H : Type} (enc : TypeId × Value → H) : ∃ places, DataW.whole enc Tryd.prog ((laidWorld os).forCall (fun _ _ => 0) ⟨#[], #[.slice none 0 0, .int .i64 0, .int .u8 0], []⟩).memory Tryd.f6.params.toList Rows.packTurnsSpec.vars false (#[.slice none 0 0, .int .i64 0, .int .u8 0] : Array Value).toList 8 = some ([.nil, .lit (.int .i64 0), .lit (.int .u8 0)], [], places) :=
  ⟨[], by kernel_rfl⟩
set_option maxRecDepth 100000 in
theorem lifted (os : Os) (started : os.Started) (H : Type) (enc : TypeId × Value → H) (F : Stop.Interp) :
    ReturnsInHanded {} Tryd.checked os 6 .any ((OpenSpec.ofChange Rows.packTurnsSpec).preRow enc Tryd.prog Tryd.f6 Rows.packTurnsRow.domain false Rows.packTurnsRow.laid) (((OpenSpec.ofChange Rows.packTurnsSpec).at F).post enc Tryd.prog Tryd.f6 false true false false) := by
  obtain ⟨places, hx⟩ := reads os enc
  refine returnsInHanded_of_row (C := Tryd.checked) (s := OpenSpec.ofChange Rows.packTurnsSpec) own started (by kernel_rfl) Tryd.func6
    (witness_row_at (enc := enc) (C := Tryd.checked) false (laidWorld os) #[.slice none 0 0, .int .i64 0, .int .u8 0] rfl (by kernel_rfl) (by kernel_rfl) (by kernel_rfl)
      (OpenSpec.preRow_of_cond 8 hx (by kernel_rfl) (fun k hk => by cases hk) (by kernel_rfl) (laid_met os))) ?_
  intro W base args ds gs before hval0 hW hcnd _ _ hL _ _
  have hval : ∀ (j : Nat) t v, Tryd.f6.params[j]? = some t → args[j]? = some v → Value.okWide Tryd.prog W .any base t v := hval0
  have hW' := hW
  obtain ⟨p, q, hA0, hV, rfl, hfz, hnd⟩ := hW
  have hA : DataW.TrodAll enc Tryd.prog W 0 (fun _ => true) true Tryd.f6.params.toList args.toList ds p := hA0
  rw [Tryd.params6] at hA hval
  obtain ⟨v0, vs0, d0, ds0, p0, q0, hargs, rfl, rfl, h0, r0⟩ := trodAll_cons hA
  obtain ⟨v1, vs1, d1, ds1, p1, q1, rfl, rfl, rfl, h1, r1⟩ := trodAll_cons r0
  obtain ⟨v2, vs2, d2, ds2, p2, q2, rfl, rfl, rfl, h2, r2⟩ := trodAll_cons r1
  obtain ⟨rfl, rfl, rfl⟩ := trodAll_nil r2
  obtain rfl : args = #[v0, v1, v2] := by cases args; simp_all
  obtain ⟨rfl, rfl⟩ := trodVars_none hV
  have k0 := h0
  have lt0 : ∀ x ∈ p0, x.block < W.heap.size := by obtain ⟨m, hm⟩ := k0; exact DataW.trod_lt m _ _ _ hm
  obtain ⟨n0, x0, w0⟩ := open_bytes (hval 0 22 v0 rfl rfl) h0
  have k1 := h1
  have lt1 : ∀ x ∈ p1, x.block < W.heap.size := by obtain ⟨m, hm⟩ := k1; exact DataW.trod_lt m _ _ _ hm
  obtain ⟨a1, rfl, _, _, w1⟩ := open_int Tryd.underlying3 (hval 1 3 v1 rfl rfl) h1
  have k2 := h2
  have lt2 : ∀ x ∈ p2, x.block < W.heap.size := by obtain ⟨m, hm⟩ := k2; exact DataW.trod_lt m _ _ _ hm
  obtain ⟨a2, rfl, _, _, w2⟩ := open_int Tryd.underlying5 (hval 2 5 v2 rfl rfl) h2
  clear hA0 hval0
  refine (walk v0 n0 x0 a1 a2 W (tab hL) w0 w1 w2).mono fun e W' ⟨he, bel⟩ => ?_
  subst he
  exact ⟨_, rfl, _, _, _, [], _, [], hW', trodAll_mk1 (shut_bool Tryd.underlying4 _), (trodAll_cons_mk (Below.trod laidOut (by kernel_rfl) (of_decide_eq_true (by kernel_rfl)) k0 bel lt0) (trodAll_cons_mk (Below.trod laidOut (by kernel_rfl) (of_decide_eq_true (by kernel_rfl)) k1 bel lt1) (trodAll_cons_mk (Below.trod laidOut (by kernel_rfl) (of_decide_eq_true (by kernel_rfl)) k2 bel lt2) trodAll_mk0))), rfl, Below.frame bel _, fun h => by cases h⟩

theorem said : Rows.PackTurnsSaid :=
  OpenClaim.holds_of_cond 6 Tryd.f6 rfl rfl rfl rfl rfl rfl rfl ⟨rfl, rfl, rfl, rfl, rfl⟩ rfl rfl rfl rfl rfl (by kernel_rfl) Tryd.func6 (by kernel_rfl)
    (of_decide_eq_true (by kernel_rfl)) (by unfold Func.isWrapper; first | (rw [if_pos (by decide +kernel)]; kernel_rfl) | (rw [if_neg (by decide +kernel)]; exact ⟨rfl, rfl⟩))
    (fun os started H enc _ F => by rw [OpenClaim.pre_eq_preRow]; exact lifted os started H enc F)
theorem plain (f : FuncId) (fn : Func) (hf : Tryd.pinned.checked.prog.funcNamed "quillet/quilletlaw03.PackTurns" = some f) (hfn : Tryd.pinned.checked.prog.funcs[f]? = some fn) :
    false = Tryd.pinned.checked.prog.looks [] ∧ ∀ (j : Nat) t, fn.params[j]? = some t → Tryd.pinned.checked.prog.wantsStandIn t = false := by
  obtain rfl : f = 6 := Option.some.inj ((show Tryd.prog.funcNamed "quillet/quilletlaw03.PackTurns" = some 6 by kernel_rfl).symm.trans hf) |>.symm
  obtain rfl : fn = Tryd.f6 := (Option.some.inj (Tryd.func6.symm.trans hfn)).symm
  refine ⟨by kernel_rfl, fun j t ht => ?_⟩
  rw [Tryd.params6] at ht
  have hm := Array.mem_of_getElem? ht
  have ht2 : t = 22 ∨ t = 3 ∨ t = 5 := by simpa using hm
  rcases ht2 with rfl | rfl | rfl
  · exact (show Tryd.prog.wantsStandIn 22 = false by kernel_rfl)
  · exact (show Tryd.prog.wantsStandIn 3 = false by kernel_rfl)
  · exact (show Tryd.prog.wantsStandIn 5 = false by kernel_rfl)
theorem card : Rows.PackTurnsCardSaid :=
  Claim7.holds_tied_plain_at .later [] _ _ _ _ said (fun _ h => by cases h) (by kernel_rfl) (fun _ h => by cases h) packTurns_row_tie rfl ⟨rfl, rfl⟩ (by kernel_rfl) rfl plain (by kernel_rfl)
end Go.Proofs.YtobdgdcccogghabDoor.packTurnsDone
namespace Go.Proofs.YtobdgdcccogghabDoor
theorem packTurns_holds : Rows.PackTurnsCardSaid := packTurnsDone.card
#print axioms packTurns_holds
end Go.Proofs.YtobdgdcccogghabDoor
