/- Proved: for every row of float64 the law FloEnds returns true, without a condition. -/
import Derived.Test.YtnggkncmcbcceaaEd
import Derived.Test.YtnggkncmcbcceaaMe
import Derived.ProofKit
import Derived.OpenShut
import Derived.Lib.SmallJoins
namespace Go.Proofs.Ytnggkncmcbcceaa.floEndsDone
open Go.ChangeShapes Go.WideShapes Go.ChangeAt Go.RowKit Go.Joins
set_option linter.unusedVariables false

theorem own : ownKnob Try.prog.godebug = none := by kernel_rfl
theorem laidOut : laidOutB Try.prog = true := by kernel_rfl
theorem wb {a : Nat} (h : (Lit.float .f64 a).wf = true) : Fl.W a := by simp [Lit.wf] at h; exact h
theorem bytesFloat : Try.prog.bytesOf 23 = 8 := by kernel_rfl
attribute [local go_sem] run_bits run_frombits run_store_float eqF
set_option maxHeartbeats 2000000 in
theorem ends_none (a : Option Addr) (c : Nat) (w : World) :
    Calls Try.prog 3 #[.slice a 0 c] w fun e w' => e = .returned (.bool true) ∧ Up w w' := by
  have z1 : Fl.W 4607182418800017408 := by unfold Fl.W; decide
  have z2 : Fl.W 4611686018427387904 := by unfold Fl.W; decide
  have y1 : Fl.canon 4607182418800017408 = 4607182418800017408 := by decide +kernel
  have y2 : Fl.canon 4611686018427387904 = 4611686018427387904 := by decide +kernel
  have f1 : Fl.mn 4611686018427387904 4607182418800017408 = 4607182418800017408 := by decide +kernel
  have f2 : Fl.mx 4607182418800017408 4611686018427387904 = 4611686018427387904 := by decide +kernel
  have o1 : FloatKind.f64.format.order 4607182418800017408 4607182418800017408 = some .eq := by decide +kernel
  have o2 : FloatKind.f64.format.order 4611686018427387904 4611686018427387904 = some .eq := by decide +kernel
  have zn : Fl.W 9221120237041090561 := by unfold Fl.W; decide
  have nn : Fl.nan 9221120237041090561 = true := by decide +kernel
  go_enter Try.func3, Try.ntmps3
  go_wp2_with (first | (go_at_call_of 9 (Value.slice (some { block := w.heap.size, off := 0 }) 2 2); refine (least2 4611686018427387904 4607182418800017408 _ _ z2 z1 y2 y1 _ (by simp) (by simp)).mono ?_; rintro e w' ⟨rfl, rfl⟩) | (go_at_call_of 10 (Value.slice (some { block := w.heap.size + 1, off := 0 }) 2 2); refine (most2 4607182418800017408 4611686018427387904 _ _ z1 z2 y1 y2 _ (by simp) (by simp)).mono ?_; rintro e w' ⟨rfl, rfl⟩) | (go_at_call 9; refine (least_none _ _ _).mono ?_; rintro e w' ⟨rfl, rfl⟩) | (go_at_call 10; refine (most_none _ _ _).mono ?_; rintro e w' ⟨rfl, rfl⟩) | (go_at_call 11; refine (isNaN_any _ zn _).mono ?_; rintro e w' ⟨rfl, rfl⟩))
  go_ret
  exact ⟨rfl, ((Up.refl _).alloc _).alloc _⟩
set_option maxHeartbeats 2000000 in
theorem ends_some (b off n cap : Nat) (x : Nat → Nat) (w : World) (hn : 0 < n) (hm : n ≤ 17592186044000) (hc : ∀ i, i < n → Fl.W (x i) ∧ w.cell? ⟨b, off + i, none⟩ = some (.float .f64 (x i))) :
    Calls Try.prog 3 #[.slice (some ⟨b, off, none⟩) n cap] w fun e w' => e = .returned (.bool true) ∧ Up w w' := by
  have z1 : Fl.W 4607182418800017408 := by unfold Fl.W; decide
  have z2 : Fl.W 4611686018427387904 := by unfold Fl.W; decide
  have y1 : Fl.canon 4607182418800017408 = 4607182418800017408 := by decide +kernel
  have y2 : Fl.canon 4611686018427387904 = 4611686018427387904 := by decide +kernel
  have f1 : Fl.mn 4611686018427387904 4607182418800017408 = 4607182418800017408 := by decide +kernel
  have f2 : Fl.mx 4607182418800017408 4611686018427387904 = 4611686018427387904 := by decide +kernel
  have o1 : FloatKind.f64.format.order 4607182418800017408 4607182418800017408 = some .eq := by decide +kernel
  have o2 : FloatKind.f64.format.order 4611686018427387904 4611686018427387904 = some .eq := by decide +kernel
  have t0 : ((n : Int) == 0) = false := beq_eq_false_iff_ne.2 (by omega)
  have hml : n ≤ maxLen := by unfold maxLen; omega
  have HL := hid (fun (W : World) (hW : Up w W) => least_any b off n cap x (by omega) hml (fun i hi => (hc i hi).1) W (fun i hi => hW.keep (hc i hi).2))
  have HM := hid (fun (W : World) (hW : Up w W) => most_any b off n cap x (by omega) hml (fun i hi => (hc i hi).1) W (fun i hi => hW.keep (hc i hi).2))
  have HS := hid (fun (W : World) (hW : Up w W) => sort_any b off n cap x hm W (fun i hi => ⟨(hc i hi).1, hW.keep (hc i hi).2⟩))
  obtain ⟨k, rfl⟩ : ∃ k, n = k + 1 := ⟨n - 1, by omega⟩
  have he := Fl.sort_ends x k
  have HN := hid (Fl.sortL_len x (k + 1))
  have HK := hid hm
  rw [show k + 1 - 1 = k by omega] at HL HM
  have HE := hid he
  clear he hc hm hml hn
  generalize Fl.canon (Fl.minU x k) = A at *
  generalize Fl.canon (Fl.maxU x k) = B at *
  generalize Fl.sortL x (k + 1) = S at *
  go_enter Try.func3, Try.ntmps3
  go_upto_region 7 with (first | (go_at_call_of 9 (Value.slice (some { block := w.heap.size, off := 0 }) 2 2); refine (least2 4611686018427387904 4607182418800017408 _ _ z2 z1 y2 y1 _ (by simp) (by simp)).mono ?_; rintro e w' ⟨rfl, rfl⟩) | (go_at_call_of 10 (Value.slice (some { block := w.heap.size + 1, off := 0 }) 2 2); refine (most2 4607182418800017408 4611686018427387904 _ _ z1 z2 y1 y2 _ (by simp) (by simp)).mono ?_; rintro e w' ⟨rfl, rfl⟩) | (go_at_call 9; refine (HL.out _ (((Up.refl _).alloc _).alloc _)).mono ?_; rintro e w' ⟨rfl, rfl⟩) | (go_at_call 10; refine (HM.out _ (((Up.refl _).alloc _).alloc _)).mono ?_; rintro e w' ⟨rfl, rfl⟩) | (go_at_call 12; refine (HS.out _ (((Up.refl _).alloc _).alloc _)).mono ?_; rintro e w5 ⟨v5, rfl, o5, u5⟩; have O5 := hid o5; have U5 := hid (Up.trans (((Up.refl w).alloc _).alloc _) u5); clear o5 u5))
  obtain ⟨h1, h2, _⟩ := HE.out
  obtain ⟨q, hq⟩ : ∃ q, S.length = q + 1 := by
    cases S with
    | nil => simp at h1
    | cons a r => exact ⟨r.length, by simp⟩
  obtain ⟨g, gc, rfl, _, _, hcell⟩ := OwnF.shape O5.out (by omega)
  have c0 : w5.cell? ⟨g, 0, none⟩ = some (.float .f64 A) := by
    rw [hcell 0 (by omega)]
    cases S with
    | nil => simp at h1
    | cons a r => simp at h1; simp [h1]
  have c1 : w5.cell? ⟨g, q, none⟩ = some (.float .f64 B) := by
    rw [hcell q (by omega)]
    rw [List.getLast?_eq_getElem?, hq, show q + 1 - 1 = q by omega, List.getElem?_eq_getElem (by omega)] at h2
    simpa using h2
  rw [hq]
  have l0 : (0 : Int) < ((q + 1 : Nat) : Int) := by omega
  have hwq : IntKind.i64.wrap (q : Int) = (q : Int) := by have := HN.out; have := HK.out; simp [IntKind.wrap, IntKind.bits, IntKind.signed]; omega
  have l1 : (0 : Int) ≤ (q : Int) := by omega
  have l2 : (q : Int) < ((q + 1 : Nat) : Int) := by omega
  clear h1 h2 hcell HE O5 hq
  go_quiet (fail)
  go_wp2
  go_ret
  exact ⟨rfl, U5.out.drewN _⟩

theorem walk (v0 : Value) (n0 : Nat) (x0 : Nat → Nat) (w : World) (w0 : FlRow w v0 n0 x0) (b0 : n0 ≤ 17592186044000) :
    Calls Try.prog 3 #[v0] w fun e w' => e = .returned (.bool true) ∧ Up w w' := by
  rcases w0 with ⟨rfl, a, c, rfl⟩ | ⟨hn, _, b, off, cap, rfl, hc⟩
  · exact ends_none a c w
  · exact ends_some b off n0 cap x0 w hn b0 hc

set_option maxRecDepth 100000 in
theorem lifted (os : Os) (started : os.Started) (H : Type) (enc : TypeId × Value → H) :
    ReturnsInHanded {} Try.checked os 3 .any (Rows.floEndsSpec.pre6 enc Try.prog Try.f3 Rows.floEndsRow.domain false) (Rows.floEndsSpec.post enc Try.prog Try.f3 false true false false) := by
  refine returnsInHanded_of_change_sized (C := Try.checked) own started (by kernel_rfl) Try.func3
    (ChangeSpec.witness6 (enc := enc) (C := Try.checked) false ⟨#[], #[.slice none 0 0], []⟩ 8 (by kernel_rfl) (by kernel_rfl) (by kernel_rfl) (by kernel_rfl)) ?_
  intro W base args ds gs before hval0 hW hcnd hsz0 _
  have hval : ∀ (j : Nat) t v, Try.f3.params[j]? = some t → args[j]? = some v → Value.okWide Try.prog W .any base t v := hval0
  have hW' := hW
  obtain ⟨p, q, hA0, hV, rfl, hfz, hnd⟩ := hW
  have hA : DataW.TrodAll enc Try.prog W 0 (fun _ => true) true Try.f3.params.toList args.toList ds p := hA0
  have hsz : (DataW.weightsEach Try.prog (Try.f3.params.toList ++ Rows.floEndsSpec.plain.varTypes Try.prog) (ds ++ gs)).all (· ≤ reachBytes) = true := hsz0
  rw [Try.params3] at hA hval hsz
  obtain ⟨v0, vs0, d0, ds0, p0, q0, hargs, rfl, rfl, h0, r0⟩ := trodAll_cons hA
  obtain ⟨rfl, rfl, rfl⟩ := trodAll_nil r0
  obtain rfl : args = #[v0] := by cases args; simp_all
  obtain ⟨rfl, rfl⟩ := trodVars_none hV
  have k0 := h0
  have lt0 : ∀ x ∈ p0, x.block < W.heap.size := by obtain ⟨m, hm⟩ := k0; exact DataW.trod_lt m _ _ _ hm
  obtain ⟨n0, x0, w0, hd0⟩ := open_floats2 (hval 0 22 v0 rfl rfl) h0
  have b0 : n0 ≤ 17592186044000 := by
    rcases hd0 with rfl | ⟨els, sp, rfl, rfl⟩
    · omega
    · have hz := sized_slice hsz (j := 0) (t := 22) (e := 23) rfl rfl Try.underlying22
      rw [bytesFloat] at hz
      simp only [reachBytes] at hz
      omega
  clear hA0 hval0
  refine (walk v0 n0 x0 W w0 b0).mono fun e W' ⟨he, bel⟩ => ?_
  subst he
  exact ⟨_, rfl, _, _, _, [], _, [], hW', trodAll_mk1 (shut_bool Try.underlying4 _), (trodAll_cons_mk (Below.trod laidOut (by kernel_rfl) (of_decide_eq_true (by kernel_rfl)) k0 bel lt0) trodAll_mk0), rfl, Below.frame bel _, fun h => by cases h⟩

theorem proved : Rows.FloEndsSaid :=
  OpenClaim.holds_of_wide 3 Try.f3 rfl rfl rfl rfl rfl rfl rfl ⟨rfl, rfl, rfl, rfl, rfl⟩ rfl rfl rfl rfl rfl (by kernel_rfl) Try.func3 (by kernel_rfl)
    (of_decide_eq_true (by kernel_rfl)) (by unfold Func.isWrapper; first | (rw [if_pos (by decide +kernel)]; kernel_rfl) | (rw [if_neg (by decide +kernel)]; exact ⟨rfl, rfl⟩))
    (fun os started H enc _ => lifted os started H enc)
end Go.Proofs.Ytnggkncmcbcceaa.floEndsDone
namespace Go.Proofs.Ytnggkncmcbcceaa
theorem floEnds_holds : Rows.FloEndsSaid := floEndsDone.proved
#print axioms floEnds_holds
end Go.Proofs.Ytnggkncmcbcceaa
