/- Proved: for every span the law SpanEnds returns true, without a condition. -/
import Derived.Test.YtieljldhpinkladSd
import Derived.ProofKit
import Derived.OpenShut
import Derived.Lib.SmallJoins
namespace Go.Proofs.Ytieljldhpinklad.spanEndsDone
open Go.ChangeShapes Go.WideShapes Go.ChangeAt Go.RowKit Go.Joins
set_option linter.unusedVariables false

theorem own : ownKnob Try.prog.godebug = none := by kernel_rfl
theorem laidOut : laidOutB Try.prog = true := by kernel_rfl
theorem wb {a : Nat} (h : (Lit.float .f64 a).wf = true) : Fl.W a := by simp [Lit.wf] at h; exact h
theorem trod_float {H : Type} {enc : TypeId × Value → H} {P : Program} {w : World} {base : Nat} {spare : Nat → Bool} {held : Bool} {fuel : Nat} {t : TypeId} {cs : List Value} {x : DataW H × List MemPlace} (ht : P.underlying t = some (.float .f64)) (h : DataW.trod enc P w base spare held fuel t cs = some x) : ∃ n, cs = [.float .f64 n] ∧ x = (.lit (.float .f64 n), []) ∧ (Lit.float .f64 n).wf = true := by
  cases fuel with
  | zero => simp [DataW.trod] at h
  | succ n =>
    unfold DataW.trod at h
    rw [ht] at h
    split at h <;> simp_all
theorem cellsSpan : Try.prog.cellsOf 24 = 4 := by kernel_rfl
theorem open_span {H : Type} {enc : TypeId × Value → H} {W : World} {base : Nat} {v : Value} {d : DataW H} {ps : List MemPlace} (hv : Value.okWide Try.prog W .any base 24 v) (h : DataW.Trod enc Try.prog W 0 (fun _ => true) true 24 v d ps) :
    ∃ (a b : Nat) (p q : Bool), v = .agg #[.float .f64 a, .float .f64 b, .bool p, .bool q] ∧ Fl.W a ∧ Fl.W b := by
  obtain ⟨v0, v1, v2, v3, y0, y1, y2, y3, m, rfl, _, _, h0, h1, h2, h3⟩ := open_agg4 Try.underlying24 (by kernel_rfl) cellsSpan hv h
  obtain ⟨a, e0, _, wa⟩ := trod_float Try.underlying22 h0
  obtain ⟨b, e1, _, wbb⟩ := trod_float Try.underlying22 h1
  obtain ⟨p, e2, _⟩ := DataW.trod_bool Try.underlying4 h2
  obtain ⟨q, e3, _⟩ := DataW.trod_bool Try.underlying4 h3
  simp at e0 e1 e2 e3; subst e0 e1 e2 e3
  exact ⟨a, b, p, q, rfl, wb wa, wb wbb⟩
abbrev P2 (n a b : Nat) (p q : Bool) (m c d : Nat) (r s : Bool) (w : World) : Prop := SpAt n a b p q w ∧ SpAt m c d r s w
theorem P2.up {n a b : Nat} {p q : Bool} {m c d : Nat} {r s : Bool} {W w' : World} (h : Up W w') (k : P2 n a b p q m c d r s W) : P2 n a b p q m c d r s w' := ⟨SpAt.up h k.1, SpAt.up h k.2⟩
attribute [local go_sem] run_bits run_frombits run_store_float eqF
set_option maxHeartbeats 2000000 in
theorem core_none (a b u v : Nat) (p q : Bool) (HC : Hid (∀ w, Calls Try.prog 26 #[.agg #[.float .f64 a, .float .f64 b, .bool p, .bool q]] w fun o w' => o = .returned (.agg #[.float .f64 0, .float .f64 0, .bool true, .bool true]) ∧ Up w w')) (HE : Hid (∀ w, Calls Try.prog 21 #[.agg #[.float .f64 a, .float .f64 b, .bool p, .bool q]] w fun o w' => o = .returned (.bool true) ∧ Up w w'))
    (H1 : Hid (∀ w, Calls Try.prog 9 #[.agg #[.float .f64 4607182418800017408, .float .f64 4611686018427387904, .bool false, .bool false], .float .f64 4607182418800017408] w fun o w' => o = .returned (.bool true) ∧ Up w w')) (w : World) :
    Calls Try.prog 7 #[.agg #[.float .f64 a, .float .f64 b, .bool p, .bool q]] w fun e w' => e = .returned (.bool true) ∧ Up w w' := by
  have o0 : FloatKind.f64.format.order 0 0 = some .eq := by decide +kernel
  all_goals
    go_enter Try.func7, Try.ntmps7
    go_wp2_with (first | (go_at_call 11; refine (alive_any _).mono ?_; rintro e w1 ⟨rfl, hb1⟩; have s1 : SpAt w.heap.size a b p q w1 := SpAt.up hb1 (by simp [SpAt])) | (go_at_call 10; refine (at_any _ _ _).mono ?_; rintro e w2 ⟨rfl, hb2⟩; have s2 : SpAt w.heap.size a b p q w2 := SpAt.up hb2 (by assumption)) | (go_at_call_of 9 (Value.float FloatKind.f64 4607182418800017408); refine (H1.out _).mono ?_; rintro e w3 ⟨rfl, hb3⟩; have s3 : SpAt w.heap.size a b p q w3 := SpAt.up hb3 (by assumption)) | (go_at_call 26; refine (HC.out _).mono ?_; rintro e w4 ⟨rfl, hb4⟩; have s4 : SpAt w.heap.size a b p q w4 := SpAt.up hb4 (by assumption); have z4 : w.heap.size < w4.heap.size := World.block_lt_of_cell? w4 _ s4.1) | (go_at_call 21; refine (HE.out _).mono ?_; rintro e w5 ⟨rfl, hb5⟩; have s5 : P2 w.heap.size a b p q w4.heap.size 0 0 true true w5 := P2.up hb5 ⟨SpAt.up (Up.alloc (Up.refl _) _) (by assumption), (by simp [SpAt])⟩))
    go_ret
    exact ⟨rfl, (by repeat (first | exact Up.refl _ | assumption | refine Up.drew ?_ | refine Up.drewN ?_ _ | refine Up.alloc ?_ _ | refine Up.setCell ?_ ?_ _ | exact Nat.le_refl _ | exact Nat.le_add_right _ _ | (dsimp only; omega) | refine Up.trans ?_ ‹Up _ _›))⟩
set_option maxHeartbeats 2000000 in
theorem core_some (a b u v : Nat) (p q t : Bool) (hu : Fl.W u) (hv : Fl.W v) (HC : Hid (∀ w, Calls Try.prog 26 #[.agg #[.float .f64 a, .float .f64 b, .bool p, .bool q]] w fun o w' => o = .returned (.agg #[.float .f64 u, .float .f64 v, .bool false, .bool false]) ∧ Up w w')) (HE : Hid (∀ w, Calls Try.prog 21 #[.agg #[.float .f64 a, .float .f64 b, .bool p, .bool q]] w fun o w' => o = .returned (.bool false) ∧ Up w w'))
    (H1 : Hid (∀ w, Calls Try.prog 9 #[.agg #[.float .f64 4607182418800017408, .float .f64 4611686018427387904, .bool false, .bool false], .float .f64 4607182418800017408] w fun o w' => o = .returned (.bool true) ∧ Up w w'))
    (Hu : Hid (∀ w, Calls Try.prog 9 #[.agg #[.float .f64 a, .float .f64 b, .bool p, .bool q], .float .f64 u] w fun o w' => o = .returned (.bool true) ∧ Up w w')) (Hv : Hid (∀ w, Calls Try.prog 9 #[.agg #[.float .f64 a, .float .f64 b, .bool p, .bool q], .float .f64 v] w fun o w' => o = .returned (.bool true) ∧ Up w w')) (Hp : Hid (∀ w, Calls Try.prog 9 #[.agg #[.float .f64 a, .float .f64 b, .bool p, .bool q], .float .f64 (Fl.prevB u)] w fun o w' => o = .returned (.bool false) ∧ Up w w')) (Hn : Hid (∀ w, Calls Try.prog 9 #[.agg #[.float .f64 a, .float .f64 b, .bool p, .bool q], .float .f64 (Fl.nextB v)] w fun o w' => o = .returned (.bool t) ∧ Up w w'))
    (ht : decide (v = Fl.INF) = true ∨ (decide (v = Fl.INF) = false ∧ t = false)) (w : World) :
    Calls Try.prog 7 #[.agg #[.float .f64 a, .float .f64 b, .bool p, .bool q]] w fun e w' => e = .returned (.bool true) ∧ Up w w' := by
  rcases ht with ht | ⟨ht, rfl⟩
  · skip
    go_enter Try.func7, Try.ntmps7
    go_wp2_with (first | (go_at_call 11; refine (alive_any _).mono ?_; rintro e w1 ⟨rfl, hb1⟩; have s1 : SpAt w.heap.size a b p q w1 := SpAt.up hb1 (by simp [SpAt])) | (go_at_call 10; refine (at_any _ _ _).mono ?_; rintro e w2 ⟨rfl, hb2⟩; have s2 : SpAt w.heap.size a b p q w2 := SpAt.up hb2 (by assumption)) | (go_at_call_of 9 (Value.float FloatKind.f64 4607182418800017408); refine (H1.out _).mono ?_; rintro e w3 ⟨rfl, hb3⟩; have s3 : SpAt w.heap.size a b p q w3 := SpAt.up hb3 (by assumption)) | (go_at_call 26; refine (HC.out _).mono ?_; rintro e w4 ⟨rfl, hb4⟩; have s4 : SpAt w.heap.size a b p q w4 := SpAt.up hb4 (by assumption); have z4 : w.heap.size < w4.heap.size := World.block_lt_of_cell? w4 _ s4.1) | (go_at_call 21; refine (HE.out _).mono ?_; rintro e w5 ⟨rfl, hb5⟩; have s5 : P2 w.heap.size a b p q w4.heap.size u v false false w5 := P2.up hb5 ⟨SpAt.up (Up.alloc (Up.refl _) _) (by assumption), (by simp [SpAt])⟩))
    go_region_held3 (P2 w.heap.size a b p q w4.heap.size u v false false) ((apply P2.up; (first | assumption | exact Up.drew (Up.refl _)); assumption)) (first | (go_at_call 27; refine (prev_any u ‹Fl.W u› _).mono ?_; rintro e w' ⟨rfl, rfl⟩) | (go_at_call 28; refine (next_any v ‹Fl.W v› _).mono ?_; rintro e w' ⟨rfl, rfl⟩))
    go_wp2_with (first | (go_at_call_of 9 (Value.float FloatKind.f64 u); refine (Hu.out _).mono ?_; rintro e w6 ⟨rfl, hb6⟩; have s6 : P2 w.heap.size a b p q w4.heap.size u v false false w6 := (by apply P2.up; assumption; first | assumption | (apply P2.up; exact Up.drew (Up.refl _); assumption))) | (go_at_call_of 9 (Value.float FloatKind.f64 v); refine (Hv.out _).mono ?_; rintro e w7 ⟨rfl, hb7⟩; have s7 : P2 w.heap.size a b p q w4.heap.size u v false false w7 := P2.up hb7 (by assumption)) | (go_at_call_of 9 (Value.float FloatKind.f64 (Fl.prevB u)); refine (Hp.out _).mono ?_; rintro e w8 ⟨rfl, hb8⟩; have s8 : P2 w.heap.size a b p q w4.heap.size u v false false w8 := P2.up hb8 (by assumption)) | (go_at_call 29; refine (isInf_pos v ‹Fl.W v› _).mono ?_; rintro e w' ⟨rfl, rfl⟩) | (go_at_call_of 9 (Value.float FloatKind.f64 (Fl.nextB v)); refine (Hn.out _).mono ?_; rintro e w9 ⟨rfl, hb9⟩; skip))
    all_goals go_ret
    all_goals exact ⟨rfl, (by repeat (first | exact Up.refl _ | assumption | refine Up.drew ?_ | refine Up.drewN ?_ _ | refine Up.alloc ?_ _ | refine Up.setCell ?_ ?_ _ | exact Nat.le_refl _ | exact Nat.le_add_right _ _ | (dsimp only; omega) | refine Up.trans ?_ ‹Up _ _›))⟩

  · skip
    go_enter Try.func7, Try.ntmps7
    go_wp2_with (first | (go_at_call 11; refine (alive_any _).mono ?_; rintro e w1 ⟨rfl, hb1⟩; have s1 : SpAt w.heap.size a b p q w1 := SpAt.up hb1 (by simp [SpAt])) | (go_at_call 10; refine (at_any _ _ _).mono ?_; rintro e w2 ⟨rfl, hb2⟩; have s2 : SpAt w.heap.size a b p q w2 := SpAt.up hb2 (by assumption)) | (go_at_call_of 9 (Value.float FloatKind.f64 4607182418800017408); refine (H1.out _).mono ?_; rintro e w3 ⟨rfl, hb3⟩; have s3 : SpAt w.heap.size a b p q w3 := SpAt.up hb3 (by assumption)) | (go_at_call 26; refine (HC.out _).mono ?_; rintro e w4 ⟨rfl, hb4⟩; have s4 : SpAt w.heap.size a b p q w4 := SpAt.up hb4 (by assumption); have z4 : w.heap.size < w4.heap.size := World.block_lt_of_cell? w4 _ s4.1) | (go_at_call 21; refine (HE.out _).mono ?_; rintro e w5 ⟨rfl, hb5⟩; have s5 : P2 w.heap.size a b p q w4.heap.size u v false false w5 := P2.up hb5 ⟨SpAt.up (Up.alloc (Up.refl _) _) (by assumption), (by simp [SpAt])⟩))
    go_region_held3 (P2 w.heap.size a b p q w4.heap.size u v false false) ((apply P2.up; (first | assumption | exact Up.drew (Up.refl _)); assumption)) (first | (go_at_call 27; refine (prev_any u ‹Fl.W u› _).mono ?_; rintro e w' ⟨rfl, rfl⟩) | (go_at_call 28; refine (next_any v ‹Fl.W v› _).mono ?_; rintro e w' ⟨rfl, rfl⟩))
    go_wp2_with (first | (go_at_call_of 9 (Value.float FloatKind.f64 u); refine (Hu.out _).mono ?_; rintro e w6 ⟨rfl, hb6⟩; have s6 : P2 w.heap.size a b p q w4.heap.size u v false false w6 := (by apply P2.up; assumption; first | assumption | (apply P2.up; exact Up.drew (Up.refl _); assumption))) | (go_at_call_of 9 (Value.float FloatKind.f64 v); refine (Hv.out _).mono ?_; rintro e w7 ⟨rfl, hb7⟩; have s7 : P2 w.heap.size a b p q w4.heap.size u v false false w7 := P2.up hb7 (by assumption)) | (go_at_call_of 9 (Value.float FloatKind.f64 (Fl.prevB u)); refine (Hp.out _).mono ?_; rintro e w8 ⟨rfl, hb8⟩; have s8 : P2 w.heap.size a b p q w4.heap.size u v false false w8 := P2.up hb8 (by assumption)) | (go_at_call 29; refine (isInf_pos v ‹Fl.W v› _).mono ?_; rintro e w' ⟨rfl, rfl⟩) | (go_at_call_of 9 (Value.float FloatKind.f64 (Fl.nextB v)); refine (Hn.out _).mono ?_; rintro e w9 ⟨rfl, hb9⟩; skip))
    all_goals go_ret
    all_goals exact ⟨rfl, (by repeat (first | exact Up.refl _ | assumption | refine Up.drew ?_ | refine Up.drewN ?_ _ | refine Up.alloc ?_ _ | refine Up.setCell ?_ ?_ _ | exact Nat.le_refl _ | exact Nat.le_add_right _ _ | (dsimp only; omega) | refine Up.trans ?_ ‹Up _ _›))⟩


theorem walk (a0 b0 : Nat) (p0 q0 : Bool) (w : World) (w0 : Fl.W a0) (x0 : Fl.W b0) :
    Calls Try.prog 7 #[.agg #[.float .f64 a0, .float .f64 b0, .bool p0, .bool q0]] w fun e w' => e = .returned (.bool true) ∧ Up w w' := by
  have F12 : Fl.IsForm 4607182418800017408 4611686018427387904 false := by
    refine ⟨by unfold Fl.W; decide, by unfold Fl.W; decide, fun h => (by cases h), fun _ => by decide +kernel⟩
  have H1 := fun w => has_form _ _ 4607182418800017408 _ F12 (by unfold Fl.W; decide) w
  rw [show Fl.hasF 4607182418800017408 4611686018427387904 false 4607182418800017408 = true by decide +kernel] at H1
  have HC := fun w => canonS_any a0 b0 w0 x0 p0 q0 w
  have HE := fun w => empty_any a0 b0 w0 x0 p0 q0 w
  cases he : Fl.csE a0 b0 p0 q0
  · have fo := Fl.cs_form a0 b0 p0 q0 w0 x0 he
    have hu := Fl.csU_W a0 b0 p0 q0 w0
    have hv := Fl.csV_W a0 b0 p0 q0 x0
    have hp := Fl.prevB_form _ hu
    have hn := Fl.nextB_form _ hv
    have Hu := fun w => has_any a0 b0 (Fl.csU a0 b0 p0 q0) w0 x0 hu p0 q0 w
    have Hv := fun w => has_any a0 b0 (Fl.csV a0 b0 p0 q0) w0 x0 hv p0 q0 w
    have Hp := fun w => has_any a0 b0 (Fl.prevB (Fl.csU a0 b0 p0 q0)) w0 x0 hp.2 p0 q0 w
    have Hn := fun w => has_any a0 b0 (Fl.nextB (Fl.csV a0 b0 p0 q0)) w0 x0 hn.2 p0 q0 w
    rw [he] at HC HE Hu Hv Hp Hn
    generalize Fl.csU a0 b0 p0 q0 = u at *
    generalize Fl.csV a0 b0 p0 q0 = v at *
    have cp := Fl.code_prev u hu
    have lp : Fl.pc (Fl.code u) < Fl.code u := by unfold Fl.pc; (repeat' split) <;> omega
    rw [show Fl.hasF u v false u = true by unfold Fl.hasF; simp [fo.2.1]] at Hu
    rw [show Fl.hasF u v false v = true by unfold Fl.hasF; simp [fo.2.1]] at Hv
    rw [show Fl.hasF u v false (Fl.prevB u) = false by unfold Fl.hasF; rw [cp]; simp; omega] at Hp
    refine core_some a0 b0 u v p0 q0 _ hu hv HC HE H1 Hu Hv Hp Hn ?_ w
    by_cases hi : v = Fl.INF
    · exact .inl (by simpa using hi)
    · refine .inr ⟨by simpa using hi, ?_⟩
      have cn := Fl.code_next v hv hi
      have rv := Fl.code_range v hv
      have ln : Fl.code v < Fl.nc (Fl.code v) := by unfold Fl.nc; (repeat' split) <;> omega
      unfold Fl.hasF; rw [cn]; simp; omega
  · have e := Fl.csE_true a0 b0 p0 q0 he
    rw [he, e.1, e.2] at HC
    rw [he] at HE
    exact core_none a0 b0 0 0 p0 q0 HC HE H1 w

set_option maxRecDepth 100000 in
theorem lifted (os : Os) (started : os.Started) (H : Type) (enc : TypeId × Value → H) :
    ReturnsInHanded {} Try.checked os 7 .any (Rows.spanEndsSpec.pre6 enc Try.prog Try.f7 Rows.spanEndsRow.domain false) (Rows.spanEndsSpec.post enc Try.prog Try.f7 false true false false) := by
  refine returnsInHanded_of_change (C := Try.checked) own started (by kernel_rfl) Try.func7
    (ChangeSpec.witness6 (enc := enc) (C := Try.checked) false ⟨#[], #[.agg #[.float .f64 0, .float .f64 0, .bool false, .bool false]], []⟩ 8 (by kernel_rfl) (by kernel_rfl) (by kernel_rfl) (by kernel_rfl)) ?_
  intro W base args ds gs before hval0 hW hcnd _
  have hval : ∀ (j : Nat) t v, Try.f7.params[j]? = some t → args[j]? = some v → Value.okWide Try.prog W .any base t v := hval0
  have hW' := hW
  obtain ⟨p, q, hA0, hV, rfl, hfz, hnd⟩ := hW
  have hA : DataW.TrodAll enc Try.prog W 0 (fun _ => true) true Try.f7.params.toList args.toList ds p := hA0
  rw [Try.params7] at hA hval
  obtain ⟨v0, vs0, d0, ds0, p0, q0, hargs, rfl, rfl, h0, r0⟩ := trodAll_cons hA
  obtain ⟨rfl, rfl, rfl⟩ := trodAll_nil r0
  obtain rfl : args = #[v0] := by cases args; simp_all
  obtain ⟨rfl, rfl⟩ := trodVars_none hV
  have k0 := h0
  have lt0 : ∀ x ∈ p0, x.block < W.heap.size := by obtain ⟨m, hm⟩ := k0; exact DataW.trod_lt m _ _ _ hm
  obtain ⟨a0, b0, bp0, bq0, rfl, w0, x0⟩ := open_span (hval 0 24 v0 rfl rfl) h0
  clear hA0 hval0
  refine (walk a0 b0 bp0 bq0 W w0 x0).mono fun e W' ⟨he, bel⟩ => ?_
  subst he
  exact ⟨_, rfl, _, _, _, [], _, [], hW', trodAll_mk1 (shut_bool Try.underlying4 _), (trodAll_cons_mk (Below.trod laidOut (by kernel_rfl) (of_decide_eq_true (by kernel_rfl)) k0 bel lt0) trodAll_mk0), rfl, Below.frame bel _, fun h => by cases h⟩

theorem proved : Rows.SpanEndsSaid :=
  OpenClaim.holds_of_wide 7 Try.f7 rfl rfl rfl rfl rfl rfl rfl ⟨rfl, rfl, rfl, rfl, rfl⟩ rfl rfl rfl rfl rfl (by kernel_rfl) Try.func7 (by kernel_rfl)
    (of_decide_eq_true (by kernel_rfl)) (by unfold Func.isWrapper; first | (rw [if_pos (by decide +kernel)]; kernel_rfl) | (rw [if_neg (by decide +kernel)]; exact ⟨rfl, rfl⟩))
    (fun os started H enc _ => lifted os started H enc)
end Go.Proofs.Ytieljldhpinklad.spanEndsDone
namespace Go.Proofs.Ytieljldhpinklad
theorem spanEnds_holds : Rows.SpanEndsSaid := spanEndsDone.proved
#print axioms spanEnds_holds
end Go.Proofs.Ytieljldhpinklad
