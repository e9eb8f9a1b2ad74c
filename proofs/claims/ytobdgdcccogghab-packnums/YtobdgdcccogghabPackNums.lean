/- Proved: for every two numbers of 64 bits the law PackNums returns true, without a condition. -/
import Derived.Test.YtobdgdcccogghabPn
import Derived.ProofKit
import Derived.OpenShut
import Derived.Lib.SmallJoins
namespace Go.Proofs.Ytobdgdcccogghab.packNumsDone
open Go.ChangeShapes Go.WideShapes Go.ChangeAt Go.RowKit Go.Joins
set_option linter.unusedVariables false

theorem own : ownKnob Try.prog.godebug = none := by kernel_rfl
theorem laidOut : laidOutB Try.prog = true := by kernel_rfl
theorem fin1 (k : Nat) (a : Int) (h : k = 1 ↔ (-64 ≤ a ∧ a < 64)) (h0 : 0 ≤ a) : (((k : Int) == 1) == decide (a < 64)) = true := by
  rw [beq_iff_eq, Bool.eq_iff_iff, beq_iff_eq, decide_eq_true_eq]; omega
theorem fin2 (k : Nat) (a : Int) (h : k = 1 ↔ (-64 ≤ a ∧ a < 64)) (h0 : -64 ≤ a) : (((k : Int) == 1) == decide (a < 64)) = true := by
  rw [beq_iff_eq, Bool.eq_iff_iff, beq_iff_eq, decide_eq_true_eq]; omega
theorem fin3 (k : Nat) (a : Int) (h : k = 1 ↔ (-64 ≤ a ∧ a < 64)) (h0 : a < -64) : (!((k : Int) == 1)) = true := by
  rw [Bool.not_eq_true', beq_eq_false_iff_ne]; omega

set_option maxRecDepth 20000 in
set_option maxHeartbeats 4000000 in
theorem walk (a0 : Int) (a1 : Int) (w : World) (w0 : (Lit.int .i64 a0).wf = true) (w1 : (Lit.int .i64 a1).wf = true) :
    Calls Try.prog 4 #[.int .i64 a0, .int .i64 a1] w fun e w' => e = .returned (.bool true) ∧ Up w w' := by
  have hw0 := w0
  have hw1 := w1
  simp [Lit.wf, IntKind.min, IntKind.max, IntKind.bits, IntKind.signed] at hw0 hw1
  obtain ⟨l1, l2⟩ := num_len a0 hw0.1 hw0.2
  obtain ⟨m1, m2⟩ := num_len a1 hw1.1 hw1.2
  have HA := hid (num_at a0 hw0.1 hw0.2)
  have HL := hid (num_low a0 hw0.1 hw0.2)
  have H1 := hid (num_one a0 hw0.1 hw0.2)
  have HM := hid (num_mono a0 a1)
  have HR := hid (num_read a0 hw0.1 hw0.2)
  have HP0 := hid (fun W => put_one a0 hw0.1 hw0.2 W)
  have HP1 := hid (fun W => put_one a1 hw1.1 hw1.2 W)
  have HW0 := hid hw0
  have HW1 := hid hw1
  clear hw0 hw1 w0 w1
  unfold OwnL at HP0 HP1
  generalize (numL a0).length = N at *
  generalize gd (numL a0) = X at *
  generalize (numL a1).length = M at *
  generalize gd (numL a1) = Y at *
  go_enter Try.func4, Try.ntmps4
  go_wp2_with (first | (go_at_call 5; refine (putting_any w).mono ?_; rintro e W1 ⟨rfl, u1⟩) | (go_at_call 8; refine (getting_any _).mono ?_; rintro e W2 ⟨rfl, u2⟩))
  refine (HP0.out W2).mono ?_
  rintro e W3 ⟨v3, rfl, o3, u3⟩
  obtain ⟨g3, c3, rfl, hg3, hgl3, hn3, hm3, hc3, _⟩ := o3.shape (by omega)
  have O3 := hid o3
  clear o3
  go_wp2_with (fail)
  refine (HP1.out W3).mono ?_
  rintro e W4 ⟨v4, rfl, o4, u4⟩
  obtain ⟨g4, c4, rfl, hg4, hgl4, hn4, hm4, _, _⟩ := o4.shape (by omega)
  clear o4
  have HC := hid (fun i hi => u4.keep (hc3 i hi))
  have O4 := hid (O3.out.up u4)
  have U4 := hid (((u1.trans u2).trans u3).trans u4)
  clear hc3 O3 u1 u2 u3 u4
  go_wp2
  go_loop [51] (fun i => ∃ k : Nat, k ≤ N ∧ i = .int .i64 (k : Nat)) (fun i => N - (intOf i).toNat)
  case atStart => exact ⟨0, Nat.zero_le _, rfl⟩
  case round =>
    obtain ⟨k, hk, rfl⟩ := hrel
    by_cases hlt : k < N
    · have hcell := HC.out k hlt
      obtain ⟨hx, hx2⟩ := HA.out k hlt
      clear HC HA HL H1 HM HR HP0 HP1 O4 U4
      by_cases hl : k + 1 < N
      · have t0 : 128 ≤ X k := hx2.2 hl
        have t1 : decide ((128 : Int) ≤ ((X k : Nat) : Int)) = true := by rw [decide_eq_true_eq]; omega
        have t2 : (k : Int) < (N : Int) - 1 := by omega
        clear hx2 t0
        go_wp2
        go_round
        case rel => exact ⟨k + 1, hlt, by go_num⟩
        case measure => simp [intOf]; omega
      · have t0 : ¬ 128 ≤ X k := fun h => hl (hx2.1 h)
        have t1 : decide ((128 : Int) ≤ ((X k : Nat) : Int)) = false := by rw [decide_eq_false_iff_not]; omega
        have t2 : decide ((k : Int) < (N : Int) - 1) = false := by rw [decide_eq_false_iff_not]; omega
        clear hx2 t0
        go_wp2
        go_round
        case rel => exact ⟨k + 1, hlt, by go_num⟩
        case measure => simp [intOf]; omega
    · obtain rfl : k = N := by omega
      have cz := HC.out 0 (by omega)
      have lz := (HA.out 0 (by omega)).1
      have hlow := HL.out
      have HONE := hid H1.out
      have hkc : (W4.alloc (.cells #[.int .i64 1] 3)).cell? ⟨W4.heap.size, 0, none⟩ = some (.int .i64 1) := cell_new _ _ _ _ _ _ rfl
      have HG := hid (get_num _ k c3 W4.heap.size X _ (O4.out.row.up ((Up.refl W4).alloc _)) HR.out.2 (by omega) hkc)
      rw [HR.out.1] at HG
      have ea : bits .and .u8 ((X 0 : Nat) : Int) 1 = ((X 0 % 2 : Nat) : Int) := by
        have := u8_and_nat (X 0) 1 lz (by omega)
        rw [nat_mask1] at this; exact this
      clear HC HA HL H1 HR HP0 HP1 O4 hkc hlt hk
      by_cases hz : 0 ≤ a0
      · rw [if_neg (by omega)] at hlow
        rw [hlow] at ea
        clear hlow
        by_cases hm : a0 ≤ a1
        · have hmn := HM.out (.inl ⟨hz, hm⟩)
          go_wp2_with (go_at_call 9; refine HG.out.mono ?_; rintro e W5 ⟨g5, c5, rfl, cg, u5⟩; have U5 := hid u5; clear u5)
          all_goals go_ret
          all_goals exact ⟨ret_b (by first | exact fin1 k a0 HONE.out ‹_› | exact fin2 k a0 HONE.out ‹_› | exact fin3 k a0 HONE.out ‹_›), Up.trans (Up.trans U4.out ((Up.refl W4).alloc _)) U5.out⟩
        · go_wp2_with (go_at_call 9; refine HG.out.mono ?_; rintro e W5 ⟨g5, c5, rfl, cg, u5⟩; have U5 := hid u5; clear u5)
          all_goals go_ret
          all_goals exact ⟨ret_b (by first | exact fin1 k a0 HONE.out ‹_› | exact fin2 k a0 HONE.out ‹_› | exact fin3 k a0 HONE.out ‹_›), Up.trans (Up.trans U4.out ((Up.refl W4).alloc _)) U5.out⟩
      · rw [if_pos (by omega)] at hlow
        rw [hlow] at ea
        clear hlow
        have hz2 : a0 < 0 := by omega
        by_cases hm : a1 ≤ a0
        · have hmn := HM.out (.inr ⟨hz2, hm⟩)
          go_wp2_with (go_at_call 9; refine HG.out.mono ?_; rintro e W5 ⟨g5, c5, rfl, cg, u5⟩; have U5 := hid u5; clear u5)
          all_goals go_ret
          all_goals exact ⟨ret_b (by first | exact fin1 k a0 HONE.out ‹_› | exact fin2 k a0 HONE.out ‹_› | exact fin3 k a0 HONE.out ‹_›), Up.trans (Up.trans U4.out ((Up.refl W4).alloc _)) U5.out⟩
        · go_wp2_with (go_at_call 9; refine HG.out.mono ?_; rintro e W5 ⟨g5, c5, rfl, cg, u5⟩; have U5 := hid u5; clear u5)
          all_goals go_ret
          all_goals exact ⟨ret_b (by first | exact fin1 k a0 HONE.out ‹_› | exact fin2 k a0 HONE.out ‹_› | exact fin3 k a0 HONE.out ‹_›), Up.trans (Up.trans U4.out ((Up.refl W4).alloc _)) U5.out⟩

set_option maxRecDepth 100000 in
theorem lifted (os : Os) (started : os.Started) (H : Type) (enc : TypeId × Value → H) :
    ReturnsInHanded {} Try.checked os 4 .any (Rows.packNumsSpec.pre6 enc Try.prog Try.f4 Rows.packNumsRow.domain false) (Rows.packNumsSpec.post enc Try.prog Try.f4 false true false false) := by
  refine returnsInHanded_of_change (C := Try.checked) own started (by kernel_rfl) Try.func4
    (ChangeSpec.witness6 (enc := enc) (C := Try.checked) false ⟨#[], #[.int .i64 0, .int .i64 0], []⟩ 8 (by kernel_rfl) (by kernel_rfl) (by kernel_rfl) (by kernel_rfl)) ?_
  intro W base args ds gs before hval0 hW hcnd _
  have hval : ∀ (j : Nat) t v, Try.f4.params[j]? = some t → args[j]? = some v → Value.okWide Try.prog W .any base t v := hval0
  have hW' := hW
  obtain ⟨p, q, hA0, hV, rfl, hfz, hnd⟩ := hW
  have hA : DataW.TrodAll enc Try.prog W 0 (fun _ => true) true Try.f4.params.toList args.toList ds p := hA0
  rw [Try.params4] at hA hval
  obtain ⟨v0, vs0, d0, ds0, p0, q0, hargs, rfl, rfl, h0, r0⟩ := trodAll_cons hA
  obtain ⟨v1, vs1, d1, ds1, p1, q1, rfl, rfl, rfl, h1, r1⟩ := trodAll_cons r0
  obtain ⟨rfl, rfl, rfl⟩ := trodAll_nil r1
  obtain rfl : args = #[v0, v1] := by cases args; simp_all
  obtain ⟨rfl, rfl⟩ := trodVars_none hV
  have k0 := h0
  have lt0 : ∀ x ∈ p0, x.block < W.heap.size := by obtain ⟨m, hm⟩ := k0; exact DataW.trod_lt m _ _ _ hm
  obtain ⟨a0, rfl, _, _, w0⟩ := open_int Try.underlying2 (hval 0 2 v0 rfl rfl) h0
  have k1 := h1
  have lt1 : ∀ x ∈ p1, x.block < W.heap.size := by obtain ⟨m, hm⟩ := k1; exact DataW.trod_lt m _ _ _ hm
  obtain ⟨a1, rfl, _, _, w1⟩ := open_int Try.underlying2 (hval 1 2 v1 rfl rfl) h1
  clear hA0 hval0
  refine (walk a0 a1 W w0 w1).mono fun e W' ⟨he, bel⟩ => ?_
  subst he
  exact ⟨_, rfl, _, _, _, [], _, [], hW', trodAll_mk1 (shut_bool Try.underlying4 _), (trodAll_cons_mk (Below.trod laidOut (by kernel_rfl) (of_decide_eq_true (by kernel_rfl)) k0 bel lt0) (trodAll_cons_mk (Below.trod laidOut (by kernel_rfl) (of_decide_eq_true (by kernel_rfl)) k1 bel lt1) trodAll_mk0)), rfl, Below.frame bel _, fun h => by cases h⟩

theorem proved : Rows.PackNumsSaid :=
  OpenClaim.holds_of_wide 4 Try.f4 rfl rfl rfl rfl rfl rfl rfl ⟨rfl, rfl, rfl, rfl, rfl⟩ rfl rfl rfl rfl rfl (by kernel_rfl) Try.func4 (by kernel_rfl)
    (of_decide_eq_true (by kernel_rfl)) (by unfold Func.isWrapper; first | (rw [if_pos (by decide +kernel)]; kernel_rfl) | (rw [if_neg (by decide +kernel)]; exact ⟨rfl, rfl⟩))
    (fun os started H enc _ => lifted os started H enc)
end Go.Proofs.Ytobdgdcccogghab.packNumsDone
namespace Go.Proofs.Ytobdgdcccogghab
theorem packNums_holds : Rows.PackNumsSaid := packNumsDone.proved
#print axioms packNums_holds
end Go.Proofs.Ytobdgdcccogghab
