/- Proved: for every slice of float64 and every int the law FloRange returns true, without a condition. -/
import Derived.Test.YtieljldhpinklabUq
import Derived.Deep.RegionWith
import Derived.ProofKit
import Derived.OpenShut
import Derived.Lib.SmallJoins
namespace Go.Proofs.Ytieljldhpinklab.floRangeDone
open Go.ChangeShapes Go.WideShapes Go.ChangeAt Go.RowKit Go.Joins
set_option linter.unusedVariables false

theorem own : ownKnob Try.prog.godebug = none := by kernel_rfl
theorem laidOut : laidOutB Try.prog = true := by kernel_rfl
theorem wb {a : Nat} (h : (Lit.float .f64 a).wf = true) : Fl.W a := by simp [Lit.wf] at h; exact h
attribute [local go_sem] run_bits run_frombits

theorem two_row (a b m : Nat) (W : World) (h0 : W.cell? ⟨m, 0, none⟩ = some (.float .f64 a)) (h1 : W.cell? ⟨m, 1, none⟩ = some (.float .f64 b)) : ∀ i, i < 2 → W.cell? ⟨m, 0 + i, none⟩ = some (.float .f64 ((fun j => if j = 0 then a else b) i)) := by
  intro i hi
  rw [Nat.zero_add]
  match i, hi with
  | 0, _ => exact h0
  | 1, _ => exact h1
theorem two_W (a b : Nat) (ha : Fl.W a) (hb : Fl.W b) : ∀ i, i < 2 → Fl.W ((fun j => if j = 0 then a else b) i) := by
  intro i _; dsimp only; split <;> assumption
theorem least2 (a b m c : Nat) (ha : Fl.W a) (hb : Fl.W b) (W : World) (h0 : W.cell? ⟨m, 0, none⟩ = some (.float .f64 a)) (h1 : W.cell? ⟨m, 1, none⟩ = some (.float .f64 b)) :
    Calls Try.prog 12 #[.slice (some ⟨m, 0, none⟩) 2 c] W fun e w' => e = .returned (.float .f64 (Fl.canon (if Fl.code b < Fl.code a then b else a))) ∧ w' = W :=
  least_any m 0 2 c (fun j => if j = 0 then a else b) (by omega) (by unfold maxLen; omega) (two_W a b ha hb) W (two_row a b m W h0 h1)
theorem most2 (a b m c : Nat) (ha : Fl.W a) (hb : Fl.W b) (W : World) (h0 : W.cell? ⟨m, 0, none⟩ = some (.float .f64 a)) (h1 : W.cell? ⟨m, 1, none⟩ = some (.float .f64 b)) :
    Calls Try.prog 13 #[.slice (some ⟨m, 0, none⟩) 2 c] W fun e w' => e = .returned (.float .f64 (Fl.canon (if Fl.code a < Fl.code b then b else a))) ∧ w' = W :=
  most_any m 0 2 c (fun j => if j = 0 then a else b) (by omega) (by unfold maxLen; omega) (two_W a b ha hb) W (two_row a b m W h0 h1)
set_option maxHeartbeats 2000000 in
theorem walk_some (a1 : Int) (n cap b off A B : Nat) (x : Nat → Nat) (w : World) (hn : 0 < n) (hm : n ≤ maxLen) (hc : ∀ i, i < n → Fl.W (x i) ∧ w.cell? ⟨b, off + i, none⟩ = some (.float .f64 (x i)))
    (hA : Fl.canon (Fl.minU x (n - 1)) = A) (hB : Fl.canon (Fl.maxU x (n - 1)) = B) :
    Calls Try.prog 6 #[.slice (some ⟨b, off, none⟩) n cap, .int .i64 a1] w fun e w' => e = .returned (.bool true) ∧ Up w w' := by
  have z1 : Fl.W 4607182418800017408 := by unfold Fl.W; decide
  have z2 : Fl.W 4611686018427387904 := by unfold Fl.W; decide
  have z0 : Fl.W 0 := by unfold Fl.W; decide
  have f1 : Fl.canon (if Fl.code 4607182418800017408 < Fl.code 4611686018427387904 then 4607182418800017408 else 4611686018427387904) = 4607182418800017408 := by decide +kernel
  have f2 : Fl.canon (if Fl.code 4607182418800017408 < Fl.code 4611686018427387904 then 4611686018427387904 else 4607182418800017408) = 4611686018427387904 := by decide +kernel
  have f3 : (((Fl.code 0 : Nat) : Int) != 9223372036854775808) = false := by decide +kernel
  have o1 : FloatKind.f64.format.order 4607182418800017408 4607182418800017408 = some .eq := by decide +kernel
  have o2 : FloatKind.f64.format.order 4611686018427387904 4611686018427387904 = some .eq := by decide +kernel
  have t0 : ((n : Int) == 0) = false := beq_eq_false_iff_ne.2 (by omega)
  have HL0 := fun (W : World) (hW : Up w W) => least_any b off n cap x (by omega) hm (fun i hi => (hc i hi).1) W (fun i hi => hW.keep (hc i hi).2)
  have HM0 := fun (W : World) (hW : Up w W) => most_any b off n cap x (by omega) hm (fun i hi => (hc i hi).1) W (fun i hi => hW.keep (hc i hi).2)
  rw [hA] at HL0
  rw [hB] at HM0
  have HL := hid HL0
  have HM := hid HM0
  have wA : Fl.W A := by rw [← hA]; exact Fl.canon_lt _ (Fl.minU_W x n (fun i hi => (hc i hi).1) _ (by omega))
  have wB : Fl.W B := by rw [← hB]; exact Fl.canon_lt _ (Fl.maxU_W x n (fun i hi => (hc i hi).1) _ (by omega))
  have lA := hid (show ∀ i, i < n → Fl.code A ≤ Fl.code (x i) by intro i hi; rw [← hA, Fl.code_canon]; exact Fl.minU_le x _ i (by omega))
  have lB := hid (show ∀ i, i < n → Fl.code (x i) ≤ Fl.code B by intro i hi; rw [← hB, Fl.code_canon]; exact Fl.maxU_le x _ i (by omega))
  have mA := hid (show Fl.anyU x (Fl.code A) n = true by obtain ⟨i, hi, e⟩ := Fl.minU_mem x (n - 1); exact Fl.anyU_of x _ n i (by omega) (by rw [← hA, Fl.code_canon, e]))
  have mB := hid (show Fl.anyU x (Fl.code B) n = true by obtain ⟨i, hi, e⟩ := Fl.maxU_mem x (n - 1); exact Fl.anyU_of x _ n i (by omega) (by rw [← hB, Fl.code_canon, e]))
  have HX := hid hc
  clear hc HL0 HM0 hA hB
  unfold maxLen at hm
  go_enter Try.func6, Try.ntmps6
  go_wp2_with (first | (go_at_call_of 12 (Value.slice (some { block := w.heap.size, off := 0 }) 2 2); refine (least2 4611686018427387904 4607182418800017408 _ _ z2 z1 _ (by simp) (by simp)).mono ?_; rintro e w' ⟨rfl, rfl⟩) | (go_at_call_of 13 (Value.slice (some { block := w.heap.size + 1, off := 0 }) 2 2); refine (most2 4607182418800017408 4611686018427387904 _ _ z1 z2 _ (by simp) (by simp)).mono ?_; rintro e w' ⟨rfl, rfl⟩) | (go_at_call 18; refine (code_any _ ‹_› _).mono ?_; rintro e w' ⟨rfl, rfl⟩) | (go_at_call 12; refine (HL.out _ (((Up.refl _).alloc _).alloc _)).mono ?_; rintro e w' ⟨rfl, rfl⟩) | (go_at_call 13; refine (HM.out _ (((Up.refl _).alloc _).alloc _)).mono ?_; rintro e w' ⟨rfl, rfl⟩))
  clear f1 f2 f3 o1 o2 HL HM
  go_loop [7, 8, 34] (fun f l i => ∃ k : Nat, k ≤ n ∧ i = .int .i64 k ∧ f = .bool (Fl.anyU x (Fl.code A) k) ∧ l = .bool (Fl.anyU x (Fl.code B) k)) (fun _ _ i => n - (intOf i).toNat)
  case atStart => exact ⟨0, Nat.zero_le _, rfl, rfl, rfl⟩
  case round =>
    obtain ⟨k, hk, rfl, rfl, rfl⟩ := hrel
    by_cases hlt : k < n
    · have hcell := (HX.out k hlt).2
      have hx := (HX.out k hlt).1
      have cA := Fl.cmpc_cases (x k) A
      have cA' := Fl.cmpc_cases A (x k)
      have cB := Fl.cmpc_cases (x k) B
      have kA := lA.out k hlt
      have kB := lB.out k hlt
      have U1 := hid (show Fl.anyU x (Fl.code A) (k + 1) = (Fl.anyU x (Fl.code A) k || (Fl.cmpc (x k) A == 0)) by
        show (_ || decide (Fl.code (x k) = Fl.code A)) = _; congr 1; rw [Bool.eq_iff_iff]; simp; omega)
      have U2 := hid (show Fl.anyU x (Fl.code B) (k + 1) = (Fl.anyU x (Fl.code B) k || (Fl.cmpc (x k) B == 0)) by
        show (_ || decide (Fl.code (x k) = Fl.code B)) = _; congr 1; rw [Bool.eq_iff_iff]; simp; omega)
      have t1 : decide (0 < Fl.cmpc A (x k)) = false := by simp; omega
      have t2 : decide (0 < Fl.cmpc (x k) B) = false := by simp; omega
      have hcode : Fl.W (Fl.code (x k)) := Fl.code_le _ hx
      have HF0 := fun w => from_yes (Fl.code (x k)) hcode (Fl.isCode_code _ hx) w
      rw [Fl.of_code _ hx] at HF0
      have HF := hid HF0
      have hcell2 : ((w.alloc (.cells #[.float .f64 4611686018427387904, .float .f64 4607182418800017408] 22)).alloc (.cells #[.float .f64 4607182418800017408, .float .f64 4611686018427387904] 22)).cell? ⟨b, off + k, none⟩ = some (.float .f64 (x k)) := Up.keep (((Up.refl _).alloc _).alloc _) hcell
      clear cA cA' cB kA kB HF0 hcell
      generalize Fl.anyU x (Fl.code A) k = f at *
      generalize Fl.anyU x (Fl.code B) k = l at *
      cases f <;> cases l
      all_goals
        go_wp2_with (first | (go_at_call 10; refine (cmp_any _ _ ‹_› ‹_› _).mono ?_; rintro e w' ⟨rfl, rfl⟩) | (go_at_call 18; refine (code_any _ ‹_› _).mono ?_; rintro e w' ⟨rfl, rfl⟩) | (go_at_call 19; refine (HF.out _).mono ?_; rintro e w' ⟨rfl, rfl⟩) | (go_at_call 20; refine (canon_any _ ‹_› _).mono ?_; rintro e w' ⟨rfl, rfl⟩))
        go_round
        case rel => exact ⟨k + 1, hlt, by go_num, by rw [U1.out]; simp, by rw [U2.out]; simp⟩
        case measure => simp [intOf]; omega
    · have hkn : k = n := by omega
      subst hkn
      rw [mA.out, mB.out]
      go_wp2
      go_ret
      exact ⟨rfl, (by repeat (first | exact Up.refl _ | assumption | refine Up.drew ?_ | refine Up.drewN ?_ _ | refine Up.alloc ?_ _ | refine Up.setCell ?_ ?_ _ | exact Nat.le_refl _ | exact Nat.le_add_right _ _ | (dsimp only; omega) | refine Up.trans ?_ ‹Up _ _›))⟩
set_option maxHeartbeats 1000000 in
theorem walk_none (a1 : Int) (a : Option Addr) (c : Nat) (w : World) :
    Calls Try.prog 6 #[.slice a 0 c, .int .i64 a1] w fun e w' => e = .returned (.bool true) ∧ Up w w' := by
  have z1 : Fl.W 4607182418800017408 := by unfold Fl.W; decide
  have z2 : Fl.W 4611686018427387904 := by unfold Fl.W; decide
  have z0 : Fl.W 0 := by unfold Fl.W; decide
  have f1 : Fl.canon (if Fl.code 4607182418800017408 < Fl.code 4611686018427387904 then 4607182418800017408 else 4611686018427387904) = 4607182418800017408 := by decide +kernel
  have f2 : Fl.canon (if Fl.code 4607182418800017408 < Fl.code 4611686018427387904 then 4611686018427387904 else 4607182418800017408) = 4611686018427387904 := by decide +kernel
  have f3 : (((Fl.code 0 : Nat) : Int) != 9223372036854775808) = false := by decide +kernel
  have o1 : FloatKind.f64.format.order 4607182418800017408 4607182418800017408 = some .eq := by decide +kernel
  have o2 : FloatKind.f64.format.order 4611686018427387904 4611686018427387904 = some .eq := by decide +kernel
  go_enter Try.func6, Try.ntmps6
  go_wp2_with (first | (go_at_call_of 12 (Value.slice (some { block := w.heap.size, off := 0 }) 2 2); refine (least2 4611686018427387904 4607182418800017408 _ _ z2 z1 _ (by simp) (by simp)).mono ?_; rintro e w' ⟨rfl, rfl⟩) | (go_at_call_of 13 (Value.slice (some { block := w.heap.size + 1, off := 0 }) 2 2); refine (most2 4607182418800017408 4611686018427387904 _ _ z1 z2 _ (by simp) (by simp)).mono ?_; rintro e w' ⟨rfl, rfl⟩) | (go_at_call 18; refine (code_any _ ‹_› _).mono ?_; rintro e w' ⟨rfl, rfl⟩))
  go_ret
  exact ⟨rfl, (by repeat (first | exact Up.refl _ | assumption | refine Up.drew ?_ | refine Up.drewN ?_ _ | refine Up.alloc ?_ _ | refine Up.setCell ?_ ?_ _ | exact Nat.le_refl _ | exact Nat.le_add_right _ _ | (dsimp only; omega) | refine Up.trans ?_ ‹Up _ _›))⟩

theorem walk (v0 : Value) (n0 : Nat) (x0 : Nat → Nat) (a1 : Int) (w : World) (w0 : FlRow w v0 n0 x0) (w1 : (Lit.int .i64 a1).wf = true) :
    Calls Try.prog 6 #[v0, .int .i64 a1] w fun e w' => e = .returned (.bool true) ∧ Up w w' := by
  rcases w0 with ⟨rfl, a, c, rfl⟩ | ⟨hn, hm, b, off, cap, rfl, hc⟩
  · exact walk_none a1 a c w
  · exact walk_some a1 n0 cap b off _ _ x0 w hn hm hc rfl rfl

set_option maxRecDepth 100000 in
theorem lifted (os : Os) (started : os.Started) (H : Type) (enc : TypeId × Value → H) :
    ReturnsInHanded {} Try.checked os 6 .any (Rows.floRangeSpec.pre6 enc Try.prog Try.f6 Rows.floRangeRow.domain false) (Rows.floRangeSpec.post enc Try.prog Try.f6 false true false false) := by
  refine returnsInHanded_of_change (C := Try.checked) own started (by kernel_rfl) Try.func6
    (ChangeSpec.witness6 (enc := enc) (C := Try.checked) false ⟨#[], #[.slice none 0 0, .int .i64 0], []⟩ 8 (by kernel_rfl) (by kernel_rfl) (by kernel_rfl) (by kernel_rfl)) ?_
  intro W base args ds gs before hval0 hW hcnd _
  have hval : ∀ (j : Nat) t v, Try.f6.params[j]? = some t → args[j]? = some v → Value.okWide Try.prog W .any base t v := hval0
  have hW' := hW
  obtain ⟨p, q, hA0, hV, rfl, hfz, hnd⟩ := hW
  have hA : DataW.TrodAll enc Try.prog W 0 (fun _ => true) true Try.f6.params.toList args.toList ds p := hA0
  rw [Try.params6] at hA hval
  obtain ⟨v0, vs0, d0, ds0, p0, q0, hargs, rfl, rfl, h0, r0⟩ := trodAll_cons hA
  obtain ⟨v1, vs1, d1, ds1, p1, q1, rfl, rfl, rfl, h1, r1⟩ := trodAll_cons r0
  obtain ⟨rfl, rfl, rfl⟩ := trodAll_nil r1
  obtain rfl : args = #[v0, v1] := by cases args; simp_all
  obtain ⟨rfl, rfl⟩ := trodVars_none hV
  have k0 := h0
  have lt0 : ∀ x ∈ p0, x.block < W.heap.size := by obtain ⟨m, hm⟩ := k0; exact DataW.trod_lt m _ _ _ hm
  obtain ⟨n0, x0, w0⟩ := open_floats (hval 0 28 v0 rfl rfl) h0
  have k1 := h1
  have lt1 : ∀ x ∈ p1, x.block < W.heap.size := by obtain ⟨m, hm⟩ := k1; exact DataW.trod_lt m _ _ _ hm
  obtain ⟨a1, rfl, _, _, w1⟩ := open_int Try.underlying3 (hval 1 3 v1 rfl rfl) h1
  clear hA0 hval0
  refine (walk v0 n0 x0 a1 W w0 w1).mono fun e W' ⟨he, bel⟩ => ?_
  subst he
  exact ⟨_, rfl, _, _, _, [], _, [], hW', trodAll_mk1 (shut_bool Try.underlying4 _), (trodAll_cons_mk (Below.trod laidOut (by kernel_rfl) (of_decide_eq_true (by kernel_rfl)) k0 bel lt0) (trodAll_cons_mk (Below.trod laidOut (by kernel_rfl) (of_decide_eq_true (by kernel_rfl)) k1 bel lt1) trodAll_mk0)), rfl, Below.frame bel _, fun h => by cases h⟩

theorem proved : Rows.FloRangeSaid :=
  OpenClaim.holds_of_wide 6 Try.f6 rfl rfl rfl rfl rfl rfl rfl ⟨rfl, rfl, rfl, rfl, rfl⟩ rfl rfl rfl rfl rfl (by kernel_rfl) Try.func6 (by kernel_rfl)
    (of_decide_eq_true (by kernel_rfl)) (by unfold Func.isWrapper; first | (rw [if_pos (by decide +kernel)]; kernel_rfl) | (rw [if_neg (by decide +kernel)]; exact ⟨rfl, rfl⟩))
    (fun os started H enc _ => lifted os started H enc)
end Go.Proofs.Ytieljldhpinklab.floRangeDone
namespace Go.Proofs.Ytieljldhpinklab
theorem floRange_holds : Rows.FloRangeSaid := floRangeDone.proved
#print axioms floRange_holds
end Go.Proofs.Ytieljldhpinklab
