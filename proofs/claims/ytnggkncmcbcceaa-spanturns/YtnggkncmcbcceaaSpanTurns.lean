/- Proved: for every three spans the law SpanTurns returns true, without a condition. -/
import Derived.Test.YtnggkncmcbcceaaMz
import Derived.ProofKit
import Derived.OpenShut
import Derived.Lib.SmallJoins
namespace Go.Proofs.Ytnggkncmcbcceaa.spanTurnsDone
open Go.ChangeShapes Go.WideShapes Go.ChangeAt Go.RowKit Go.Joins
set_option linter.unusedVariables false

theorem own : ownKnob Try.prog.godebug = none := by kernel_rfl
theorem laidOut : laidOutB Try.prog = true := by kernel_rfl
theorem wb {a : Nat} (h : (Lit.float .f64 a).wf = true) : Fl.W a := by simp [Lit.wf] at h; exact h
theorem trod_float {H : Type} {enc : TypeId × Value → H} {P : Program} {w : World} {base : Nat} {spare : Nat → Bool} {held : Bool} {fuel : Nat} {t : TypeId} {cs : List Value} {x : DataW H × List MemPlace} (ht : P.underlying t = some (.float .f64)) (h : DataW.trod enc P w base spare held fuel t cs = some x) : ∃ n, cs = [.float .f64 n] ∧ x = (.lit (.float .f64 n), []) ∧ (Lit.float .f64 n).wf = true := by
  cases fuel with
  | zero => simp [DataW.trod] at h
  | succ n =>
    unfold DataW.trod at h
    rw [ht] at h
    split at h <;> simp_all
theorem cellsSpan : Try.prog.cellsOf 31 = 4 := by kernel_rfl
theorem open_span {H : Type} {enc : TypeId × Value → H} {W : World} {base : Nat} {v : Value} {d : DataW H} {ps : List MemPlace} (hv : Value.okWide Try.prog W .any base 31 v) (h : DataW.Trod enc Try.prog W 0 (fun _ => true) true 31 v d ps) :
    ∃ (a b : Nat) (p q : Bool), v = .agg #[.float .f64 a, .float .f64 b, .bool p, .bool q] ∧ Fl.W a ∧ Fl.W b := by
  obtain ⟨v0, v1, v2, v3, y0, y1, y2, y3, m, rfl, _, _, h0, h1, h2, h3⟩ := open_agg4 Try.underlying31 (by kernel_rfl) cellsSpan hv h
  obtain ⟨a, e0, _, wa⟩ := trod_float Try.underlying23 h0
  obtain ⟨b, e1, _, wbb⟩ := trod_float Try.underlying23 h1
  obtain ⟨p, e2, _⟩ := DataW.trod_bool Try.underlying4 h2
  obtain ⟨q, e3, _⟩ := DataW.trod_bool Try.underlying4 h3
  simp at e0 e1 e2 e3; subst e0 e1 e2 e3
  exact ⟨a, b, p, q, rfl, wb wa, wb wbb⟩
theorem ent_meet (args : Array Value) (w : World) : (callFunc 14 args).run Try.prog w = .ok (.enter 14 args) w := by kernel_rfl
theorem ent_apart (args : Array Value) (w : World) : (callFunc 20 args).run Try.prog w = .ok (.enter 20 args) w := by kernel_rfl
theorem ent_within (args : Array Value) (w : World) : (callFunc 22 args).run Try.prog w = .ok (.enter 22 args) w := by kernel_rfl
abbrev C3 (n a b : Nat) (p q : Bool) (m c d : Nat) (r s : Bool) (k e f : Nat) (t v : Bool) (w : World) : Prop := SpAt n a b p q w ∧ SpAt m c d r s w ∧ SpAt k e f t v w
theorem C3.up {n a b : Nat} {p q : Bool} {m c d : Nat} {r s : Bool} {k e f : Nat} {t v : Bool} {W w' : World} (u : Up W w') (h : C3 n a b p q m c d r s k e f t v W) : C3 n a b p q m c d r s k e f t v w' := ⟨SpAt.up u h.1, SpAt.up u h.2.1, SpAt.up u h.2.2⟩
abbrev C4 (n a b : Nat) (p q : Bool) (m c d : Nat) (r s : Bool) (k e f : Nat) (t v : Bool) (z1 U V : Nat) (E : Bool) (w : World) : Prop := SpAt n a b p q w ∧ SpAt m c d r s w ∧ SpAt k e f t v w ∧ SpAt z1 U V E E w
theorem C4.up {n a b : Nat} {p q : Bool} {m c d : Nat} {r s : Bool} {k e f : Nat} {t v : Bool} {z1 U V : Nat} {E : Bool} {W w' : World} (u : Up W w') (h : C4 n a b p q m c d r s k e f t v z1 U V E W) : C4 n a b p q m c d r s k e f t v z1 U V E w' := ⟨SpAt.up u h.1, SpAt.up u h.2.1, SpAt.up u h.2.2.1, SpAt.up u h.2.2.2⟩
abbrev C5 (n a b : Nat) (p q : Bool) (m c d : Nat) (r s : Bool) (k e f : Nat) (t v : Bool) (z1 U V : Nat) (E : Bool) (z2 JU JV : Nat) (JE : Bool) (w : World) : Prop := SpAt n a b p q w ∧ SpAt m c d r s w ∧ SpAt k e f t v w ∧ SpAt z1 U V E E w ∧ SpAt z2 JU JV JE JE w
theorem C5.up {n a b : Nat} {p q : Bool} {m c d : Nat} {r s : Bool} {k e f : Nat} {t v : Bool} {z1 U V : Nat} {E : Bool} {z2 JU JV : Nat} {JE : Bool} {W w' : World} (u : Up W w') (h : C5 n a b p q m c d r s k e f t v z1 U V E z2 JU JV JE W) : C5 n a b p q m c d r s k e f t v z1 U V E z2 JU JV JE w' := ⟨SpAt.up u h.1, SpAt.up u h.2.1, SpAt.up u h.2.2.1, SpAt.up u h.2.2.2.1, SpAt.up u h.2.2.2.2⟩
abbrev C6 (n a b : Nat) (p q : Bool) (m c d : Nat) (r s : Bool) (k e f : Nat) (t v : Bool) (z1 U V : Nat) (E : Bool) (z2 JU JV : Nat) (JE : Bool) (z3 : Nat) (w : World) : Prop := SpAt n a b p q w ∧ SpAt m c d r s w ∧ SpAt k e f t v w ∧ SpAt z1 U V E E w ∧ SpAt z2 JU JV JE JE w ∧ SpAt z3 JU JV JE JE w
theorem C6.up {n a b : Nat} {p q : Bool} {m c d : Nat} {r s : Bool} {k e f : Nat} {t v : Bool} {z1 U V : Nat} {E : Bool} {z2 JU JV : Nat} {JE : Bool} {z3 : Nat} {W w' : World} (u : Up W w') (h : C6 n a b p q m c d r s k e f t v z1 U V E z2 JU JV JE z3 W) : C6 n a b p q m c d r s k e f t v z1 U V E z2 JU JV JE z3 w' := ⟨SpAt.up u h.1, SpAt.up u h.2.1, SpAt.up u h.2.2.1, SpAt.up u h.2.2.2.1, SpAt.up u h.2.2.2.2.1, SpAt.up u h.2.2.2.2.2⟩
attribute [local go_sem] run_bits run_frombits run_store_float eqF
set_option maxHeartbeats 8000000 in
theorem core (a b c d e f U V JU JV XU XV YU YV : Nat) (p q r s t v E JE XE YE K : Bool)
    (HM0 : Hid (∀ w, Calls Try.prog 14 #[.agg #[.float .f64 4607182418800017408, .float .f64 4613937818241073152, .bool false, .bool false], .agg #[.float .f64 4611686018427387904, .float .f64 4617315517961601024, .bool false, .bool false]] w fun o w' => o = .returned (.agg #[.float .f64 4611686018427387904, .float .f64 4613937818241073152, .bool false, .bool false]) ∧ Up w w')) (HMab : Hid (∀ w, Calls Try.prog 14 #[.agg #[.float .f64 a, .float .f64 b, .bool p, .bool q], .agg #[.float .f64 c, .float .f64 d, .bool r, .bool s]] w fun o w' => o = .returned (.agg #[.float .f64 U, .float .f64 V, .bool E, .bool E]) ∧ Up w w')) (HMba : Hid (∀ w, Calls Try.prog 14 #[.agg #[.float .f64 c, .float .f64 d, .bool r, .bool s], .agg #[.float .f64 a, .float .f64 b, .bool p, .bool q]] w fun o w' => o = .returned (.agg #[.float .f64 U, .float .f64 V, .bool E, .bool E]) ∧ Up w w')) (HJab : Hid (∀ w, Calls Try.prog 23 #[.agg #[.float .f64 a, .float .f64 b, .bool p, .bool q], .agg #[.float .f64 c, .float .f64 d, .bool r, .bool s]] w fun o w' => o = .returned (.tuple #[.agg #[.float .f64 JU, .float .f64 JV, .bool JE, .bool JE], .bool K]) ∧ Up w w')) (HJba : Hid (∀ w, Calls Try.prog 23 #[.agg #[.float .f64 c, .float .f64 d, .bool r, .bool s], .agg #[.float .f64 a, .float .f64 b, .bool p, .bool q]] w fun o w' => o = .returned (.tuple #[.agg #[.float .f64 JU, .float .f64 JV, .bool JE, .bool JE], .bool K]) ∧ Up w w')) (HAab : Hid (∀ w, Calls Try.prog 20 #[.agg #[.float .f64 a, .float .f64 b, .bool p, .bool q], .agg #[.float .f64 c, .float .f64 d, .bool r, .bool s]] w fun o w' => o = .returned (.bool E) ∧ Up w w')) (HAba : Hid (∀ w, Calls Try.prog 20 #[.agg #[.float .f64 c, .float .f64 d, .bool r, .bool s], .agg #[.float .f64 a, .float .f64 b, .bool p, .bool q]] w fun o w' => o = .returned (.bool E) ∧ Up w w')) (HWaa : Hid (∀ w, Calls Try.prog 22 #[.agg #[.float .f64 a, .float .f64 b, .bool p, .bool q], .agg #[.float .f64 a, .float .f64 b, .bool p, .bool q]] w fun o w' => o = .returned (.bool true) ∧ Up w w')) (HWma : Hid (∀ w, Calls Try.prog 22 #[.agg #[.float .f64 U, .float .f64 V, .bool E, .bool E], .agg #[.float .f64 a, .float .f64 b, .bool p, .bool q]] w fun o w' => o = .returned (.bool true) ∧ Up w w')) (HWmb : Hid (∀ w, Calls Try.prog 22 #[.agg #[.float .f64 U, .float .f64 V, .bool E, .bool E], .agg #[.float .f64 c, .float .f64 d, .bool r, .bool s]] w fun o w' => o = .returned (.bool true) ∧ Up w w')) (HMmc : Hid (∀ w, Calls Try.prog 14 #[.agg #[.float .f64 U, .float .f64 V, .bool E, .bool E], .agg #[.float .f64 e, .float .f64 f, .bool t, .bool v]] w fun o w' => o = .returned (.agg #[.float .f64 XU, .float .f64 XV, .bool XE, .bool XE]) ∧ Up w w')) (HMbc : Hid (∀ w, Calls Try.prog 14 #[.agg #[.float .f64 c, .float .f64 d, .bool r, .bool s], .agg #[.float .f64 e, .float .f64 f, .bool t, .bool v]] w fun o w' => o = .returned (.agg #[.float .f64 YU, .float .f64 YV, .bool YE, .bool YE]) ∧ Up w w')) (HMay : Hid (∀ w, Calls Try.prog 14 #[.agg #[.float .f64 a, .float .f64 b, .bool p, .bool q], .agg #[.float .f64 YU, .float .f64 YV, .bool YE, .bool YE]] w fun o w' => o = .returned (.agg #[.float .f64 XU, .float .f64 XV, .bool XE, .bool XE]) ∧ Up w w')) (HWaj : Hid (K = true → Hid (∀ w, Calls Try.prog 22 #[.agg #[.float .f64 a, .float .f64 b, .bool p, .bool q], .agg #[.float .f64 JU, .float .f64 JV, .bool JE, .bool JE]] w fun o w' => o = .returned (.bool true) ∧ Up w w'))) (HWbj : Hid (K = true → Hid (∀ w, Calls Try.prog 22 #[.agg #[.float .f64 c, .float .f64 d, .bool r, .bool s], .agg #[.float .f64 JU, .float .f64 JV, .bool JE, .bool JE]] w fun o w' => o = .returned (.bool true) ∧ Up w w')))
    (oU : FloatKind.f64.format.order U U = some .eq) (oV : FloatKind.f64.format.order V V = some .eq) (oJU : FloatKind.f64.format.order JU JU = some .eq) (oJV : FloatKind.f64.format.order JV JV = some .eq) (oXU : FloatKind.f64.format.order XU XU = some .eq) (oXV : FloatKind.f64.format.order XV XV = some .eq) (w : World) :
    Calls Try.prog 8 #[.agg #[.float .f64 a, .float .f64 b, .bool p, .bool q], .agg #[.float .f64 c, .float .f64 d, .bool r, .bool s], .agg #[.float .f64 e, .float .f64 f, .bool t, .bool v]] w fun o w' => o = .returned (.bool true) ∧ Up w w' := by
  have o2 : FloatKind.f64.format.order 4611686018427387904 4611686018427387904 = some .eq := by decide +kernel
  have o3 : FloatKind.f64.format.order 4613937818241073152 4613937818241073152 = some .eq := by decide +kernel
  go_enter Try.func8, Try.ntmps8
  go_upto_region 3 with (first | (go_at_call 15; refine (at_any _ _ _).mono ?_; rintro o w2 ⟨rfl, hb2⟩; have s2 : C3 w.heap.size a b p q (w.heap.size + 1) c d r s (w.heap.size + 2) e f t v w2 := C3.up hb2 (by first | assumption | (simp [C3, SpAt, go_sem]; done))) | (go_at_call 14; refine (HM0.out _).mono ?_; rintro o w3 ⟨rfl, hb3⟩; have s3 : C3 w.heap.size a b p q (w.heap.size + 1) c d r s (w.heap.size + 2) e f t v w3 := C3.up hb3 (by assumption)))
  have U2 : Up w w2 := (by repeat (first | exact Up.refl _ | assumption | refine Up.drew ?_ | refine Up.drewN ?_ _ | refine Up.alloc ?_ _ | refine Up.setCell ?_ ?_ _ | exact Nat.le_refl _ | exact Nat.le_add_right _ _ | (dsimp only; omega) | refine Up.trans ?_ ‹Up _ _›))
  clear s3 hb2 hb3 HM0 o2 o3
  go_upto_region 4 with (go_at_call 14; refine (HMab.out _).mono ?_; rintro o w4 ⟨rfl, hw4⟩)
  obtain ⟨wp, hwp⟩ : ∃ wp, wp = w4.alloc (Obj.cells #[Value.float FloatKind.f64 U, Value.float FloatKind.f64 V, Value.bool E, Value.bool E] 31) := ⟨_, rfl⟩
  have Vwp : Up w2 wp := by rw [hwp]; exact hw4.alloc _
  have swp : SpAt w4.heap.size U V E E wp := by rw [hwp]; simp [SpAt]
  rw [← hwp]
  generalize w4.heap.size = z1 at swp ⊢
  clear hwp hw4
  have s4 : C4 w.heap.size a b p q (w.heap.size + 1) c d r s (w.heap.size + 2) e f t v z1 U V E wp := (by have g := C3.up Vwp s2; exact ⟨g.1, g.2.1, g.2.2, swp⟩)
  have U4 : Up w wp := U2.trans Vwp
  clear s2 swp Vwp U2 HMab
  go_upto_region 5 with (go_at_call 23; refine (HJab.out _).mono ?_; rintro o w5 ⟨rfl, hw5⟩)
  obtain ⟨wq, hwq⟩ : ∃ wq, wq = w5.alloc (Obj.cells #[Value.float FloatKind.f64 JU, Value.float FloatKind.f64 JV, Value.bool JE, Value.bool JE] 31) := ⟨_, rfl⟩
  have Vwq : Up wp wq := by rw [hwq]; exact hw5.alloc _
  have swq : SpAt w5.heap.size JU JV JE JE wq := by rw [hwq]; simp [SpAt]
  rw [← hwq]
  generalize w5.heap.size = z2 at swq ⊢
  clear hwq hw5
  have s5 : C5 w.heap.size a b p q (w.heap.size + 1) c d r s (w.heap.size + 2) e f t v z1 U V E z2 JU JV JE wq := (by have g := C4.up Vwq s4; exact ⟨g.1, g.2.1, g.2.2.1, g.2.2.2, swq⟩)
  have U5 : Up w wq := U4.trans Vwq
  clear s4 swq Vwq U4 HJab
  go_upto_region 6 with (go_at_call 23; refine (HJba.out _).mono ?_; rintro o w6 ⟨rfl, hw6⟩)
  obtain ⟨wb, hwb⟩ : ∃ wb, wb = w6.alloc (Obj.cells #[Value.float FloatKind.f64 JU, Value.float FloatKind.f64 JV, Value.bool JE, Value.bool JE] 31) := ⟨_, rfl⟩
  have Vwb : Up wq wb := by rw [hwb]; exact hw6.alloc _
  have swb : SpAt w6.heap.size JU JV JE JE wb := by rw [hwb]; simp [SpAt]
  rw [← hwb]
  generalize w6.heap.size = z3 at swb ⊢
  clear hwb hw6
  have hS6 : C6 w.heap.size a b p q (w.heap.size + 1) c d r s (w.heap.size + 2) e f t v z1 U V E z2 JU JV JE z3 wb := (by have g := C5.up Vwb s5; exact ⟨g.1, g.2.1, g.2.2.1, g.2.2.2.1, g.2.2.2.2, swb⟩)
  have UB : Up w wb := U5.trans Vwb
  clear s5 swb Vwb U5 HJba
  refine wp_region_noPanic ?_
  refine wp_region_held_drew (S := C6 w.heap.size a b p q (w.heap.size + 1) c d r s (w.heap.size + 2) e f t v z1 U V E z2 JU JV JE z3) (by kernel_rfl) ?_ (fun hHeld => ?_)
  · exact C6.up ((Up.refl _).drew) hS6
  (try simp only [Act.put]); (try simp only [List.setIfInBounds_toArray]); (try simp only [List.set_cons_succ]); (try simp only [List.set_cons_zero])
  clear hHeld
  refine wpAnyH_take (i := 0) (oi := { dst := some 32, op := Op.load 31 (Operand.tmp 7), type := 31, pos := "law.go:153", after := #[], guard := none }) (v := ?vk142) rfl (by kernel_rfl) (by kernel_rfl) (by kernel_rfl) (fun _ _ _ h => h) (Or.inl ⟨by rfl, ?hk142⟩) (C6.up ((Up.refl wb).drew) hS6) ?rk142
  case hk142 => (intro wz hSw; (try dsimp only at hSw); go_simp; try with_reducible rfl)
  (try simp only [Act.put]); (try simp only [List.setIfInBounds_toArray]); (try simp only [List.set_cons_succ]); (try simp only [List.set_cons_zero])
  refine wpAnyH_take (i := 1) (oi := { dst := some 33, op := Op.load 31 (Operand.tmp 4), type := 31, pos := "law.go:153", after := #[], guard := none }) (v := ?vk143) rfl (by kernel_rfl) (by kernel_rfl) (by kernel_rfl) (fun _ _ _ h => h) (Or.inl ⟨by rfl, ?hk143⟩) (C6.up ((Up.refl wb).drew) hS6) ?rk143
  case hk143 => (intro wz hSw; (try dsimp only at hSw); go_simp; try with_reducible rfl)
  (try simp only [Act.put]); (try simp only [List.setIfInBounds_toArray]); (try simp only [List.set_cons_succ]); (try simp only [List.set_cons_zero])
  refine wpAnyH_take (i := 2) (oi := { dst := some 34, op := Op.load 31 (Operand.tmp 3), type := 31, pos := "law.go:153", after := #[], guard := none }) (v := ?vk144) rfl (by kernel_rfl) (by kernel_rfl) (by kernel_rfl) (fun _ _ _ h => h) (Or.inl ⟨by rfl, ?hk144⟩) (C6.up ((Up.refl wb).drew) hS6) ?rk144
  case hk144 => (intro wz hSw; (try dsimp only at hSw); go_simp; try with_reducible rfl)
  (try simp only [Act.put]); (try simp only [List.setIfInBounds_toArray]); (try simp only [List.set_cons_succ]); (try simp only [List.set_cons_zero])
  refine wpAnyH_ready (rs := [3]) (by kernel_rfl) (by simp) ?_
  refine AllReadyH.cons (o := { dst := some 35, op := Op.call { callee := Callee.value (Operand.func 14), args := #[Operand.tmp 33, Operand.tmp 34], argTypes := #[31, 31] }, type := 31, pos := "law.go:153", after := #[{ on := 1, ground := Ground.data }, { on := 2, ground := Ground.data }], guard := none }) rfl (fun K hK => ?_) AllReadyH.nil
  refine wantCall2 ?_ 14 (.tmp 33) (.tmp 34) #[31, 31] ?_ (.agg #[.float .f64 c, .float .f64 d, .bool r, .bool s]) (.agg #[.float .f64 a, .float .f64 b, .bool p, .bool q]) ?_ ?_ ?_ (ent_meet _ _) ?_
  · rfl
  · rfl
  · rfl
  · rfl
  · rfl
  refine (HMba.out _).mono ?_
  rintro o x145 ⟨rfl, b145⟩
  refine ⟨_, rfl, ?_⟩
  have U145 := ((Up.refl wb).drew).trans b145
  refine hK.out _ _ (C6.up U145 hS6) (fun _ => ?_)
  clear hK K
  (try simp only [Act.put]); (try simp only [List.setIfInBounds_toArray]); (try simp only [List.set_cons_succ]); (try simp only [List.set_cons_zero])
  refine wpAnyH_take (i := 4) (oi := { dst := some 36, op := Op.binOp BinOp.neq 31 (Operand.tmp 32) (Operand.tmp 35) 31, type := 4, pos := "law.go:153", after := #[{ on := 0, ground := Ground.data }, { on := 3, ground := Ground.data }], guard := none }) (v := ?vk146) rfl (by kernel_rfl) (by kernel_rfl) (by kernel_rfl) (fun _ _ _ h => h) (Or.inl ⟨by rfl, ?hk146⟩) (C6.up U145 hS6) ?rk146
  case hk146 => (intro wz hSw; (try dsimp only at hSw); go_simp; try with_reducible rfl)
  (try simp only [Act.put]); (try simp only [List.setIfInBounds_toArray]); (try simp only [List.set_cons_succ]); (try simp only [List.set_cons_zero])
  refine wpAnyH_take (i := 5) (oi := { dst := some 37, op := Op.move (Operand.tmp 36), type := 4, pos := "law.go:153", after := #[{ on := 4, ground := Ground.data }, { on := 3, ground := Ground.chain }], guard := none }) (v := ?vk147) rfl (by kernel_rfl) (by kernel_rfl) (by kernel_rfl) (fun _ _ _ h => h) (Or.inl ⟨by rfl, ?hk147⟩) (C6.up U145 hS6) ?rk147
  case hk147 => (intro wz hSw; (try dsimp only at hSw); go_simp; try with_reducible rfl)
  (try simp only [Act.put]); (try simp only [List.setIfInBounds_toArray]); (try simp only [List.set_cons_succ]); (try simp only [List.set_cons_zero])
  refine wpAnyH_take (i := 6) (oi := { dst := some 38, op := Op.load 31 (Operand.tmp 8), type := 31, pos := "law.go:153", after := #[{ on := 5, ground := Ground.guard }], guard := some (5, false) }) (v := ?vk148) rfl (by kernel_rfl) (by kernel_rfl) (by kernel_rfl) (fun _ _ _ h => h) (Or.inl ⟨by rfl, ?hk148⟩) (C6.up U145 hS6) ?rk148
  case hk148 => (intro wz hSw; (try dsimp only at hSw); go_simp; try with_reducible rfl)
  (try simp only [Act.put]); (try simp only [List.setIfInBounds_toArray]); (try simp only [List.set_cons_succ]); (try simp only [List.set_cons_zero])
  refine wpAnyH_take (i := 7) (oi := { dst := some 39, op := Op.load 31 (Operand.tmp 10), type := 31, pos := "law.go:153", after := #[{ on := 5, ground := Ground.guard }], guard := some (5, false) }) (v := ?vk149) rfl (by kernel_rfl) (by kernel_rfl) (by kernel_rfl) (fun _ _ _ h => h) (Or.inl ⟨by rfl, ?hk149⟩) (C6.up U145 hS6) ?rk149
  case hk149 => (intro wz hSw; (try dsimp only at hSw); go_simp; try with_reducible rfl)
  (try simp only [Act.put]); (try simp only [List.setIfInBounds_toArray]); (try simp only [List.set_cons_succ]); (try simp only [List.set_cons_zero])
  refine wpAnyH_take (i := 8) (oi := { dst := some 40, op := Op.binOp BinOp.neq 31 (Operand.tmp 38) (Operand.tmp 39) 31, type := 4, pos := "law.go:153", after := #[{ on := 6, ground := Ground.data }, { on := 7, ground := Ground.data }, { on := 5, ground := Ground.guard }], guard := some (5, false) }) (v := ?vk150) rfl (by kernel_rfl) (by kernel_rfl) (by kernel_rfl) (fun _ _ _ h => h) (Or.inl ⟨by rfl, ?hk150⟩) (C6.up U145 hS6) ?rk150
  case hk150 => (intro wz hSw; (try dsimp only at hSw); go_simp; try with_reducible rfl)
  (try simp only [Act.put]); (try simp only [List.setIfInBounds_toArray]); (try simp only [List.set_cons_succ]); (try simp only [List.set_cons_zero])
  refine wpAnyH_take (i := 9) (oi := { dst := some 41, op := Op.pick (Operand.tmp 37) (Operand.const (Value.bool true)) (Operand.tmp 40), type := 4, pos := "law.go:153", after := #[{ on := 5, ground := Ground.data }, { on := 8, ground := Ground.data }], guard := none }) (v := ?vk151) rfl (by kernel_rfl) (by kernel_rfl) (by kernel_rfl) (fun _ _ _ h => h) (Or.inl ⟨by rfl, ?hk151⟩) (C6.up U145 hS6) ?rk151
  case hk151 => (intro wz hSw; (try dsimp only at hSw); go_simp; try with_reducible rfl)
  (try simp only [Act.put]); (try simp only [List.setIfInBounds_toArray]); (try simp only [List.set_cons_succ]); (try simp only [List.set_cons_zero])
  refine wpAnyH_take (i := 10) (oi := { dst := some 42, op := Op.move (Operand.tmp 41), type := 4, pos := "law.go:153", after := #[{ on := 9, ground := Ground.data }, { on := 5, ground := Ground.chain }], guard := none }) (v := ?vk152) rfl (by kernel_rfl) (by kernel_rfl) (by kernel_rfl) (fun _ _ _ h => h) (Or.inl ⟨by rfl, ?hk152⟩) (C6.up U145 hS6) ?rk152
  case hk152 => (intro wz hSw; (try dsimp only at hSw); go_simp; try with_reducible rfl)
  (try simp only [Act.put]); (try simp only [List.setIfInBounds_toArray]); (try simp only [List.set_cons_succ]); (try simp only [List.set_cons_zero])
  refine wpAnyH_take (i := 11) (oi := { dst := some 43, op := Op.move (Operand.tmp 9), type := 4, pos := "law.go:153", after := #[{ on := 10, ground := Ground.guard }], guard := some (10, false) }) (v := ?vk153) rfl (by kernel_rfl) (by kernel_rfl) (by kernel_rfl) (fun _ _ _ h => h) (Or.inl ⟨by rfl, ?hk153⟩) (C6.up U145 hS6) ?rk153
  case hk153 => (intro wz hSw; (try dsimp only at hSw); go_simp; try with_reducible rfl)
  (try simp only [Act.put]); (try simp only [List.setIfInBounds_toArray]); (try simp only [List.set_cons_succ]); (try simp only [List.set_cons_zero])
  refine wpAnyH_take (i := 12) (oi := { dst := some 44, op := Op.move (Operand.tmp 11), type := 4, pos := "law.go:153", after := #[{ on := 10, ground := Ground.guard }], guard := some (10, false) }) (v := ?vk154) rfl (by kernel_rfl) (by kernel_rfl) (by kernel_rfl) (fun _ _ _ h => h) (Or.inl ⟨by rfl, ?hk154⟩) (C6.up U145 hS6) ?rk154
  case hk154 => (intro wz hSw; (try dsimp only at hSw); go_simp; try with_reducible rfl)
  (try simp only [Act.put]); (try simp only [List.setIfInBounds_toArray]); (try simp only [List.set_cons_succ]); (try simp only [List.set_cons_zero])
  refine wpAnyH_take (i := 13) (oi := { dst := some 45, op := Op.binOp BinOp.neq 4 (Operand.tmp 43) (Operand.tmp 44) 4, type := 4, pos := "law.go:153", after := #[{ on := 11, ground := Ground.data }, { on := 12, ground := Ground.data }, { on := 10, ground := Ground.guard }], guard := some (10, false) }) (v := ?vk155) rfl (by kernel_rfl) (by kernel_rfl) (by kernel_rfl) (fun _ _ _ h => h) (Or.inl ⟨by rfl, ?hk155⟩) (C6.up U145 hS6) ?rk155
  case hk155 => (intro wz hSw; (try dsimp only at hSw); go_simp; try with_reducible rfl)
  (try simp only [Act.put]); (try simp only [List.setIfInBounds_toArray]); (try simp only [List.set_cons_succ]); (try simp only [List.set_cons_zero])
  refine wpAnyH_take (i := 14) (oi := { dst := some 46, op := Op.pick (Operand.tmp 42) (Operand.const (Value.bool true)) (Operand.tmp 45), type := 4, pos := "law.go:153", after := #[{ on := 10, ground := Ground.data }, { on := 13, ground := Ground.data }], guard := none }) (v := ?vk156) rfl (by kernel_rfl) (by kernel_rfl) (by kernel_rfl) (fun _ _ _ h => h) (Or.inl ⟨by rfl, ?hk156⟩) (C6.up U145 hS6) ?rk156
  case hk156 => (intro wz hSw; (try dsimp only at hSw); go_simp; try with_reducible rfl)
  (try simp only [Act.put]); (try simp only [List.setIfInBounds_toArray]); (try simp only [List.set_cons_succ]); (try simp only [List.set_cons_zero])
  refine wpAnyH_take (i := 15) (oi := { dst := some 47, op := Op.move (Operand.tmp 46), type := 4, pos := "law.go:153", after := #[{ on := 14, ground := Ground.data }, { on := 10, ground := Ground.chain }], guard := none }) (v := ?vk157) rfl (by kernel_rfl) (by kernel_rfl) (by kernel_rfl) (fun _ _ _ h => h) (Or.inl ⟨by rfl, ?hk157⟩) (C6.up U145 hS6) ?rk157
  case hk157 => (intro wz hSw; (try dsimp only at hSw); go_simp; try with_reducible rfl)
  (try simp only [Act.put]); (try simp only [List.setIfInBounds_toArray]); (try simp only [List.set_cons_succ]); (try simp only [List.set_cons_zero])
  refine wpAnyH_take (i := 16) (oi := { dst := some 48, op := Op.load 31 (Operand.tmp 3), type := 31, pos := "law.go:153", after := #[{ on := 15, ground := Ground.guard }], guard := some (15, false) }) (v := ?vk158) rfl (by kernel_rfl) (by kernel_rfl) (by kernel_rfl) (fun _ _ _ h => h) (Or.inl ⟨by rfl, ?hk158⟩) (C6.up U145 hS6) ?rk158
  case hk158 => (intro wz hSw; (try dsimp only at hSw); go_simp; try with_reducible rfl)
  (try simp only [Act.put]); (try simp only [List.setIfInBounds_toArray]); (try simp only [List.set_cons_succ]); (try simp only [List.set_cons_zero])
  refine wpAnyH_take (i := 17) (oi := { dst := some 49, op := Op.load 31 (Operand.tmp 4), type := 31, pos := "law.go:153", after := #[{ on := 15, ground := Ground.guard }], guard := some (15, false) }) (v := ?vk159) rfl (by kernel_rfl) (by kernel_rfl) (by kernel_rfl) (fun _ _ _ h => h) (Or.inl ⟨by rfl, ?hk159⟩) (C6.up U145 hS6) ?rk159
  case hk159 => (intro wz hSw; (try dsimp only at hSw); go_simp; try with_reducible rfl)
  (try simp only [Act.put]); (try simp only [List.setIfInBounds_toArray]); (try simp only [List.set_cons_succ]); (try simp only [List.set_cons_zero])
  refine wpAnyH_take (i := 19) (oi := { dst := some 51, op := Op.load 31 (Operand.tmp 4), type := 31, pos := "law.go:153", after := #[{ on := 15, ground := Ground.guard }], guard := some (15, false) }) (v := ?vk160) rfl (by kernel_rfl) (by kernel_rfl) (by kernel_rfl) (fun _ _ _ h => h) (Or.inl ⟨by rfl, ?hk160⟩) (C6.up U145 hS6) ?rk160
  case hk160 => (intro wz hSw; (try dsimp only at hSw); go_simp; try with_reducible rfl)
  (try simp only [Act.put]); (try simp only [List.setIfInBounds_toArray]); (try simp only [List.set_cons_succ]); (try simp only [List.set_cons_zero])
  refine wpAnyH_take (i := 20) (oi := { dst := some 52, op := Op.load 31 (Operand.tmp 3), type := 31, pos := "law.go:153", after := #[{ on := 15, ground := Ground.guard }], guard := some (15, false) }) (v := ?vk161) rfl (by kernel_rfl) (by kernel_rfl) (by kernel_rfl) (fun _ _ _ h => h) (Or.inl ⟨by rfl, ?hk161⟩) (C6.up U145 hS6) ?rk161
  case hk161 => (intro wz hSw; (try dsimp only at hSw); go_simp; try with_reducible rfl)
  (try simp only [Act.put]); (try simp only [List.setIfInBounds_toArray]); (try simp only [List.set_cons_succ]); (try simp only [List.set_cons_zero])
  refine wpAnyH_ready (rs := [18]) (by kernel_rfl) (by simp) ?_
  refine AllReadyH.cons (o := { dst := some 50, op := Op.call { callee := Callee.value (Operand.func 20), args := #[Operand.tmp 48, Operand.tmp 49], argTypes := #[31, 31] }, type := 4, pos := "law.go:153", after := #[{ on := 16, ground := Ground.data }, { on := 17, ground := Ground.data }, { on := 15, ground := Ground.chain }, { on := 15, ground := Ground.guard }], guard := some (15, false) }) rfl (fun K hK => ?_) AllReadyH.nil
  refine wantCall2 ?_ 20 (.tmp 48) (.tmp 49) #[31, 31] ?_ (.agg #[.float .f64 a, .float .f64 b, .bool p, .bool q]) (.agg #[.float .f64 c, .float .f64 d, .bool r, .bool s]) ?_ ?_ ?_ (ent_apart _ _) ?_
  · rfl
  · rfl
  · rfl
  · rfl
  · rfl
  refine (HAab.out _).mono ?_
  rintro o x162 ⟨rfl, b162⟩
  refine ⟨_, rfl, ?_⟩
  have U162 := U145.trans b162
  refine hK.out _ _ (C6.up U162 hS6) (fun _ => ?_)
  clear hK K
  (try simp only [Act.put]); (try simp only [List.setIfInBounds_toArray]); (try simp only [List.set_cons_succ]); (try simp only [List.set_cons_zero])
  refine wpAnyH_ready (rs := [21]) (by kernel_rfl) (by simp) ?_
  refine AllReadyH.cons (o := { dst := some 53, op := Op.call { callee := Callee.value (Operand.func 20), args := #[Operand.tmp 51, Operand.tmp 52], argTypes := #[31, 31] }, type := 4, pos := "law.go:153", after := #[{ on := 19, ground := Ground.data }, { on := 20, ground := Ground.data }, { on := 18, ground := Ground.chain }, { on := 15, ground := Ground.guard }], guard := some (15, false) }) rfl (fun K hK => ?_) AllReadyH.nil
  refine wantCall2 ?_ 20 (.tmp 51) (.tmp 52) #[31, 31] ?_ (.agg #[.float .f64 c, .float .f64 d, .bool r, .bool s]) (.agg #[.float .f64 a, .float .f64 b, .bool p, .bool q]) ?_ ?_ ?_ (ent_apart _ _) ?_
  · rfl
  · rfl
  · rfl
  · rfl
  · rfl
  refine (HAba.out _).mono ?_
  rintro o x163 ⟨rfl, b163⟩
  refine ⟨_, rfl, ?_⟩
  have U163 := U162.trans b163
  refine hK.out _ _ (C6.up U163 hS6) (fun _ => ?_)
  clear hK K
  (try simp only [Act.put]); (try simp only [List.setIfInBounds_toArray]); (try simp only [List.set_cons_succ]); (try simp only [List.set_cons_zero])
  refine wpAnyH_take (i := 22) (oi := { dst := some 54, op := Op.binOp BinOp.neq 4 (Operand.tmp 50) (Operand.tmp 53) 4, type := 4, pos := "law.go:153", after := #[{ on := 18, ground := Ground.data }, { on := 21, ground := Ground.data }, { on := 15, ground := Ground.guard }], guard := some (15, false) }) (v := ?vk164) rfl (by kernel_rfl) (by kernel_rfl) (by kernel_rfl) (fun _ _ _ h => h) (Or.inl ⟨by rfl, ?hk164⟩) (C6.up U163 hS6) ?rk164
  case hk164 => (intro wz hSw; (try dsimp only at hSw); go_simp; try with_reducible rfl)
  (try simp only [Act.put]); (try simp only [List.setIfInBounds_toArray]); (try simp only [List.set_cons_succ]); (try simp only [List.set_cons_zero])
  refine wpAnyH_take (i := 23) (oi := { dst := some 55, op := Op.pick (Operand.tmp 47) (Operand.const (Value.bool true)) (Operand.tmp 54), type := 4, pos := "law.go:153", after := #[{ on := 15, ground := Ground.data }, { on := 22, ground := Ground.data }], guard := none }) (v := ?vk165) rfl (by kernel_rfl) (by kernel_rfl) (by kernel_rfl) (fun _ _ _ h => h) (Or.inl ⟨by rfl, ?hk165⟩) (C6.up U163 hS6) ?rk165
  case hk165 => (intro wz hSw; (try dsimp only at hSw); go_simp; try with_reducible rfl)
  (try simp only [Act.put]); (try simp only [List.setIfInBounds_toArray]); (try simp only [List.set_cons_succ]); (try simp only [List.set_cons_zero])
  refine wpAnyH_take (i := 24) (oi := { dst := some 56, op := Op.move (Operand.tmp 55), type := 4, pos := "law.go:153", after := #[{ on := 23, ground := Ground.data }, { on := 21, ground := Ground.chain }], guard := none }) (v := ?vk166) rfl (by kernel_rfl) (by kernel_rfl) (by kernel_rfl) (fun _ _ _ h => h) (Or.inl ⟨by rfl, ?hk166⟩) (C6.up U163 hS6) ?rk166
  case hk166 => (intro wz hSw; (try dsimp only at hSw); go_simp; try with_reducible rfl)
  (try simp only [Act.put]); (try simp only [List.setIfInBounds_toArray]); (try simp only [List.set_cons_succ]); (try simp only [List.set_cons_zero])
  refine wpAnyH_take (i := 25) (oi := { dst := some 57, op := Op.load 31 (Operand.tmp 3), type := 31, pos := "law.go:153", after := #[{ on := 24, ground := Ground.guard }], guard := some (24, false) }) (v := ?vk167) rfl (by kernel_rfl) (by kernel_rfl) (by kernel_rfl) (fun _ _ _ h => h) (Or.inl ⟨by rfl, ?hk167⟩) (C6.up U163 hS6) ?rk167
  case hk167 => (intro wz hSw; (try dsimp only at hSw); go_simp; try with_reducible rfl)
  (try simp only [Act.put]); (try simp only [List.setIfInBounds_toArray]); (try simp only [List.set_cons_succ]); (try simp only [List.set_cons_zero])
  refine wpAnyH_take (i := 26) (oi := { dst := some 58, op := Op.load 31 (Operand.tmp 3), type := 31, pos := "law.go:153", after := #[{ on := 24, ground := Ground.guard }], guard := some (24, false) }) (v := ?vk168) rfl (by kernel_rfl) (by kernel_rfl) (by kernel_rfl) (fun _ _ _ h => h) (Or.inl ⟨by rfl, ?hk168⟩) (C6.up U163 hS6) ?rk168
  case hk168 => (intro wz hSw; (try dsimp only at hSw); go_simp; try with_reducible rfl)
  (try simp only [Act.put]); (try simp only [List.setIfInBounds_toArray]); (try simp only [List.set_cons_succ]); (try simp only [List.set_cons_zero])
  refine wpAnyH_ready (rs := [27]) (by kernel_rfl) (by simp) ?_
  refine AllReadyH.cons (o := { dst := some 59, op := Op.call { callee := Callee.value (Operand.func 22), args := #[Operand.tmp 57, Operand.tmp 58], argTypes := #[31, 31] }, type := 4, pos := "law.go:153", after := #[{ on := 25, ground := Ground.data }, { on := 26, ground := Ground.data }, { on := 24, ground := Ground.chain }, { on := 24, ground := Ground.guard }], guard := some (24, false) }) rfl (fun K hK => ?_) AllReadyH.nil
  refine wantCall2 ?_ 22 (.tmp 57) (.tmp 58) #[31, 31] ?_ (.agg #[.float .f64 a, .float .f64 b, .bool p, .bool q]) (.agg #[.float .f64 a, .float .f64 b, .bool p, .bool q]) ?_ ?_ ?_ (ent_within _ _) ?_
  · rfl
  · rfl
  · rfl
  · rfl
  · rfl
  refine (HWaa.out _).mono ?_
  rintro o x169 ⟨rfl, b169⟩
  refine ⟨_, rfl, ?_⟩
  have U169 := U163.trans b169
  refine hK.out _ _ (C6.up U169 hS6) (fun _ => ?_)
  clear hK K
  (try simp only [Act.put]); (try simp only [List.setIfInBounds_toArray]); (try simp only [List.set_cons_succ]); (try simp only [List.set_cons_zero])
  refine wpAnyH_take (i := 28) (oi := { dst := some 60, op := Op.unOp UnOp.not 4 (Operand.tmp 59), type := 4, pos := "law.go:153", after := #[{ on := 27, ground := Ground.data }, { on := 24, ground := Ground.guard }], guard := some (24, false) }) (v := ?vk170) rfl (by kernel_rfl) (by kernel_rfl) (by kernel_rfl) (fun _ _ _ h => h) (Or.inl ⟨by rfl, ?hk170⟩) (C6.up U169 hS6) ?rk170
  case hk170 => (intro wz hSw; (try dsimp only at hSw); go_simp; try with_reducible rfl)
  (try simp only [Act.put]); (try simp only [List.setIfInBounds_toArray]); (try simp only [List.set_cons_succ]); (try simp only [List.set_cons_zero])
  refine wpAnyH_take (i := 29) (oi := { dst := some 61, op := Op.pick (Operand.tmp 56) (Operand.const (Value.bool true)) (Operand.tmp 60), type := 4, pos := "law.go:153", after := #[{ on := 24, ground := Ground.data }, { on := 28, ground := Ground.data }], guard := none }) (v := ?vk171) rfl (by kernel_rfl) (by kernel_rfl) (by kernel_rfl) (fun _ _ _ h => h) (Or.inl ⟨by rfl, ?hk171⟩) (C6.up U169 hS6) ?rk171
  case hk171 => (intro wz hSw; (try dsimp only at hSw); go_simp; try with_reducible rfl)
  (try simp only [Act.put]); (try simp only [List.setIfInBounds_toArray]); (try simp only [List.set_cons_succ]); (try simp only [List.set_cons_zero])
  refine wpAnyH_take (i := 30) (oi := { dst := some 62, op := Op.move (Operand.tmp 61), type := 4, pos := "law.go:153", after := #[{ on := 29, ground := Ground.data }, { on := 27, ground := Ground.chain }], guard := none }) (v := ?vk172) rfl (by kernel_rfl) (by kernel_rfl) (by kernel_rfl) (fun _ _ _ h => h) (Or.inl ⟨by rfl, ?hk172⟩) (C6.up U169 hS6) ?rk172
  case hk172 => (intro wz hSw; (try dsimp only at hSw); go_simp; try with_reducible rfl)
  (try simp only [Act.put]); (try simp only [List.setIfInBounds_toArray]); (try simp only [List.set_cons_succ]); (try simp only [List.set_cons_zero])
  refine wpAnyH_take (i := 31) (oi := { dst := some 63, op := Op.load 31 (Operand.tmp 7), type := 31, pos := "law.go:153", after := #[{ on := 30, ground := Ground.guard }], guard := some (30, false) }) (v := ?vk173) rfl (by kernel_rfl) (by kernel_rfl) (by kernel_rfl) (fun _ _ _ h => h) (Or.inl ⟨by rfl, ?hk173⟩) (C6.up U169 hS6) ?rk173
  case hk173 => (intro wz hSw; (try dsimp only at hSw); go_simp; try with_reducible rfl)
  (try simp only [Act.put]); (try simp only [List.setIfInBounds_toArray]); (try simp only [List.set_cons_succ]); (try simp only [List.set_cons_zero])
  refine wpAnyH_take (i := 32) (oi := { dst := some 64, op := Op.load 31 (Operand.tmp 3), type := 31, pos := "law.go:153", after := #[{ on := 30, ground := Ground.guard }], guard := some (30, false) }) (v := ?vk174) rfl (by kernel_rfl) (by kernel_rfl) (by kernel_rfl) (fun _ _ _ h => h) (Or.inl ⟨by rfl, ?hk174⟩) (C6.up U169 hS6) ?rk174
  case hk174 => (intro wz hSw; (try dsimp only at hSw); go_simp; try with_reducible rfl)
  (try simp only [Act.put]); (try simp only [List.setIfInBounds_toArray]); (try simp only [List.set_cons_succ]); (try simp only [List.set_cons_zero])
  refine wpAnyH_ready (rs := [33]) (by kernel_rfl) (by simp) ?_
  refine AllReadyH.cons (o := { dst := some 65, op := Op.call { callee := Callee.value (Operand.func 22), args := #[Operand.tmp 63, Operand.tmp 64], argTypes := #[31, 31] }, type := 4, pos := "law.go:153", after := #[{ on := 31, ground := Ground.data }, { on := 32, ground := Ground.data }, { on := 30, ground := Ground.chain }, { on := 30, ground := Ground.guard }], guard := some (30, false) }) rfl (fun K hK => ?_) AllReadyH.nil
  refine wantCall2 ?_ 22 (.tmp 63) (.tmp 64) #[31, 31] ?_ (.agg #[.float .f64 U, .float .f64 V, .bool E, .bool E]) (.agg #[.float .f64 a, .float .f64 b, .bool p, .bool q]) ?_ ?_ ?_ (ent_within _ _) ?_
  · rfl
  · rfl
  · rfl
  · rfl
  · rfl
  refine (HWma.out _).mono ?_
  rintro o x175 ⟨rfl, b175⟩
  refine ⟨_, rfl, ?_⟩
  have U175 := U169.trans b175
  refine hK.out _ _ (C6.up U175 hS6) (fun _ => ?_)
  clear hK K
  (try simp only [Act.put]); (try simp only [List.setIfInBounds_toArray]); (try simp only [List.set_cons_succ]); (try simp only [List.set_cons_zero])
  refine wpAnyH_take (i := 34) (oi := { dst := some 66, op := Op.unOp UnOp.not 4 (Operand.tmp 65), type := 4, pos := "law.go:153", after := #[{ on := 33, ground := Ground.data }, { on := 30, ground := Ground.guard }], guard := some (30, false) }) (v := ?vk176) rfl (by kernel_rfl) (by kernel_rfl) (by kernel_rfl) (fun _ _ _ h => h) (Or.inl ⟨by rfl, ?hk176⟩) (C6.up U175 hS6) ?rk176
  case hk176 => (intro wz hSw; (try dsimp only at hSw); go_simp; try with_reducible rfl)
  (try simp only [Act.put]); (try simp only [List.setIfInBounds_toArray]); (try simp only [List.set_cons_succ]); (try simp only [List.set_cons_zero])
  refine wpAnyH_take (i := 35) (oi := { dst := some 67, op := Op.pick (Operand.tmp 62) (Operand.const (Value.bool true)) (Operand.tmp 66), type := 4, pos := "law.go:153", after := #[{ on := 30, ground := Ground.data }, { on := 34, ground := Ground.data }], guard := none }) (v := ?vk177) rfl (by kernel_rfl) (by kernel_rfl) (by kernel_rfl) (fun _ _ _ h => h) (Or.inl ⟨by rfl, ?hk177⟩) (C6.up U175 hS6) ?rk177
  case hk177 => (intro wz hSw; (try dsimp only at hSw); go_simp; try with_reducible rfl)
  (try simp only [Act.put]); (try simp only [List.setIfInBounds_toArray]); (try simp only [List.set_cons_succ]); (try simp only [List.set_cons_zero])
  refine wpAnyH_take (i := 36) (oi := { dst := some 68, op := Op.move (Operand.tmp 67), type := 4, pos := "law.go:153", after := #[{ on := 35, ground := Ground.data }, { on := 33, ground := Ground.chain }], guard := none }) (v := ?vk178) rfl (by kernel_rfl) (by kernel_rfl) (by kernel_rfl) (fun _ _ _ h => h) (Or.inl ⟨by rfl, ?hk178⟩) (C6.up U175 hS6) ?rk178
  case hk178 => (intro wz hSw; (try dsimp only at hSw); go_simp; try with_reducible rfl)
  (try simp only [Act.put]); (try simp only [List.setIfInBounds_toArray]); (try simp only [List.set_cons_succ]); (try simp only [List.set_cons_zero])
  refine wpAnyH_take (i := 37) (oi := { dst := some 69, op := Op.load 31 (Operand.tmp 7), type := 31, pos := "law.go:153", after := #[{ on := 36, ground := Ground.guard }], guard := some (36, false) }) (v := ?vk179) rfl (by kernel_rfl) (by kernel_rfl) (by kernel_rfl) (fun _ _ _ h => h) (Or.inl ⟨by rfl, ?hk179⟩) (C6.up U175 hS6) ?rk179
  case hk179 => (intro wz hSw; (try dsimp only at hSw); go_simp; try with_reducible rfl)
  (try simp only [Act.put]); (try simp only [List.setIfInBounds_toArray]); (try simp only [List.set_cons_succ]); (try simp only [List.set_cons_zero])
  refine wpAnyH_take (i := 38) (oi := { dst := some 70, op := Op.load 31 (Operand.tmp 4), type := 31, pos := "law.go:153", after := #[{ on := 36, ground := Ground.guard }], guard := some (36, false) }) (v := ?vk180) rfl (by kernel_rfl) (by kernel_rfl) (by kernel_rfl) (fun _ _ _ h => h) (Or.inl ⟨by rfl, ?hk180⟩) (C6.up U175 hS6) ?rk180
  case hk180 => (intro wz hSw; (try dsimp only at hSw); go_simp; try with_reducible rfl)
  (try simp only [Act.put]); (try simp only [List.setIfInBounds_toArray]); (try simp only [List.set_cons_succ]); (try simp only [List.set_cons_zero])
  refine wpAnyH_ready (rs := [39]) (by kernel_rfl) (by simp) ?_
  refine AllReadyH.cons (o := { dst := some 71, op := Op.call { callee := Callee.value (Operand.func 22), args := #[Operand.tmp 69, Operand.tmp 70], argTypes := #[31, 31] }, type := 4, pos := "law.go:153", after := #[{ on := 37, ground := Ground.data }, { on := 38, ground := Ground.data }, { on := 36, ground := Ground.chain }, { on := 36, ground := Ground.guard }], guard := some (36, false) }) rfl (fun K hK => ?_) AllReadyH.nil
  refine wantCall2 ?_ 22 (.tmp 69) (.tmp 70) #[31, 31] ?_ (.agg #[.float .f64 U, .float .f64 V, .bool E, .bool E]) (.agg #[.float .f64 c, .float .f64 d, .bool r, .bool s]) ?_ ?_ ?_ (ent_within _ _) ?_
  · rfl
  · rfl
  · rfl
  · rfl
  · rfl
  refine (HWmb.out _).mono ?_
  rintro o x181 ⟨rfl, b181⟩
  refine ⟨_, rfl, ?_⟩
  have U181 := U175.trans b181
  refine hK.out _ _ (C6.up U181 hS6) (fun _ => ?_)
  clear hK K
  (try simp only [Act.put]); (try simp only [List.setIfInBounds_toArray]); (try simp only [List.set_cons_succ]); (try simp only [List.set_cons_zero])
  refine wpAnyH_take (i := 40) (oi := { dst := some 72, op := Op.unOp UnOp.not 4 (Operand.tmp 71), type := 4, pos := "law.go:153", after := #[{ on := 39, ground := Ground.data }, { on := 36, ground := Ground.guard }], guard := some (36, false) }) (v := ?vk182) rfl (by kernel_rfl) (by kernel_rfl) (by kernel_rfl) (fun _ _ _ h => h) (Or.inl ⟨by rfl, ?hk182⟩) (C6.up U181 hS6) ?rk182
  case hk182 => (intro wz hSw; (try dsimp only at hSw); go_simp; try with_reducible rfl)
  (try simp only [Act.put]); (try simp only [List.setIfInBounds_toArray]); (try simp only [List.set_cons_succ]); (try simp only [List.set_cons_zero])
  refine wpAnyH_take (i := 41) (oi := { dst := some 73, op := Op.pick (Operand.tmp 68) (Operand.const (Value.bool true)) (Operand.tmp 72), type := 4, pos := "law.go:153", after := #[{ on := 36, ground := Ground.data }, { on := 40, ground := Ground.data }], guard := none }) (v := ?vk183) rfl (by kernel_rfl) (by kernel_rfl) (by kernel_rfl) (fun _ _ _ h => h) (Or.inl ⟨by rfl, ?hk183⟩) (C6.up U181 hS6) ?rk183
  case hk183 => (intro wz hSw; (try dsimp only at hSw); go_simp; try with_reducible rfl)
  (try simp only [Act.put]); (try simp only [List.setIfInBounds_toArray]); (try simp only [List.set_cons_succ]); (try simp only [List.set_cons_zero])
  refine wpAnyH_done (by kernel_rfl) ?_ _
  refine NoPanic.normal ?_
  have UX : Up w x181 := UB.trans U181
  have hX : C6 w.heap.size a b p q (w.heap.size + 1) c d r s (w.heap.size + 2) e f t v z1 U V E z2 JU JV JE z3 x181 := C6.up U181 hS6
  generalize x181 = wx at UX hX ⊢
  go_upto_region 8 with fail
  cases K
  · clear HWaj HWbj
    refine wp_region_noPanic ?_
    refine wp_region_held_drew (S := C6 w.heap.size a b p q (w.heap.size + 1) c d r s (w.heap.size + 2) e f t v z1 U V E z2 JU JV JE z3) (by kernel_rfl) ?_ (fun hHeld => ?_)
    · exact C6.up ((Up.refl _).drew) hX
    (try simp only [Act.put]); (try simp only [List.setIfInBounds_toArray]); (try simp only [List.set_cons_succ]); (try simp only [List.set_cons_zero])
    clear hHeld
    refine wpAnyH_take (i := 0) (oi := { dst := some 74, op := Op.load 31 (Operand.tmp 7), type := 31, pos := "law.go:156", after := #[], guard := none }) (v := ?vk184) rfl (by kernel_rfl) (by kernel_rfl) (by kernel_rfl) (fun _ _ _ h => h) (Or.inl ⟨by rfl, ?hk184⟩) (C6.up ((Up.refl wx).drew) hX) ?rk184
    case hk184 => (intro wz hSw; (try dsimp only at hSw); go_simp; try with_reducible rfl)
    (try simp only [Act.put]); (try simp only [List.setIfInBounds_toArray]); (try simp only [List.set_cons_succ]); (try simp only [List.set_cons_zero])
    refine wpAnyH_take (i := 1) (oi := { dst := some 75, op := Op.load 31 (Operand.tmp 5), type := 31, pos := "law.go:156", after := #[], guard := none }) (v := ?vk185) rfl (by kernel_rfl) (by kernel_rfl) (by kernel_rfl) (fun _ _ _ h => h) (Or.inl ⟨by rfl, ?hk185⟩) (C6.up ((Up.refl wx).drew) hX) ?rk185
    case hk185 => (intro wz hSw; (try dsimp only at hSw); go_simp; try with_reducible rfl)
    (try simp only [Act.put]); (try simp only [List.setIfInBounds_toArray]); (try simp only [List.set_cons_succ]); (try simp only [List.set_cons_zero])
    refine wpAnyH_take (i := 3) (oi := { dst := some 77, op := Op.load 31 (Operand.tmp 3), type := 31, pos := "law.go:156", after := #[], guard := none }) (v := ?vk186) rfl (by kernel_rfl) (by kernel_rfl) (by kernel_rfl) (fun _ _ _ h => h) (Or.inl ⟨by rfl, ?hk186⟩) (C6.up ((Up.refl wx).drew) hX) ?rk186
    case hk186 => (intro wz hSw; (try dsimp only at hSw); go_simp; try with_reducible rfl)
    (try simp only [Act.put]); (try simp only [List.setIfInBounds_toArray]); (try simp only [List.set_cons_succ]); (try simp only [List.set_cons_zero])
    refine wpAnyH_take (i := 4) (oi := { dst := some 78, op := Op.load 31 (Operand.tmp 4), type := 31, pos := "law.go:156", after := #[], guard := none }) (v := ?vk187) rfl (by kernel_rfl) (by kernel_rfl) (by kernel_rfl) (fun _ _ _ h => h) (Or.inl ⟨by rfl, ?hk187⟩) (C6.up ((Up.refl wx).drew) hX) ?rk187
    case hk187 => (intro wz hSw; (try dsimp only at hSw); go_simp; try with_reducible rfl)
    (try simp only [Act.put]); (try simp only [List.setIfInBounds_toArray]); (try simp only [List.set_cons_succ]); (try simp only [List.set_cons_zero])
    refine wpAnyH_take (i := 5) (oi := { dst := some 79, op := Op.load 31 (Operand.tmp 5), type := 31, pos := "law.go:156", after := #[], guard := none }) (v := ?vk188) rfl (by kernel_rfl) (by kernel_rfl) (by kernel_rfl) (fun _ _ _ h => h) (Or.inl ⟨by rfl, ?hk188⟩) (C6.up ((Up.refl wx).drew) hX) ?rk188
    case hk188 => (intro wz hSw; (try dsimp only at hSw); go_simp; try with_reducible rfl)
    (try simp only [Act.put]); (try simp only [List.setIfInBounds_toArray]); (try simp only [List.set_cons_succ]); (try simp only [List.set_cons_zero])
    refine wpAnyH_ready (rs := [2]) (by kernel_rfl) (by simp) ?_
    refine AllReadyH.cons (o := { dst := some 76, op := Op.call { callee := Callee.value (Operand.func 14), args := #[Operand.tmp 74, Operand.tmp 75], argTypes := #[31, 31] }, type := 31, pos := "law.go:156", after := #[{ on := 0, ground := Ground.data }, { on := 1, ground := Ground.data }], guard := none }) rfl (fun K hK => ?_) AllReadyH.nil
    refine wantCall2 ?_ 14 (.tmp 74) (.tmp 75) #[31, 31] ?_ (.agg #[.float .f64 U, .float .f64 V, .bool E, .bool E]) (.agg #[.float .f64 e, .float .f64 f, .bool t, .bool v]) ?_ ?_ ?_ (ent_meet _ _) ?_
    · rfl
    · rfl
    · rfl
    · rfl
    · rfl
    refine (HMmc.out _).mono ?_
    rintro o x189 ⟨rfl, b189⟩
    refine ⟨_, rfl, ?_⟩
    have U189 := ((Up.refl wx).drew).trans b189
    refine hK.out _ _ (C6.up U189 hX) (fun _ => ?_)
    clear hK K
    (try simp only [Act.put]); (try simp only [List.setIfInBounds_toArray]); (try simp only [List.set_cons_succ]); (try simp only [List.set_cons_zero])
    refine wpAnyH_ready (rs := [6]) (by kernel_rfl) (by simp) ?_
    refine AllReadyH.cons (o := { dst := some 80, op := Op.call { callee := Callee.value (Operand.func 14), args := #[Operand.tmp 78, Operand.tmp 79], argTypes := #[31, 31] }, type := 31, pos := "law.go:156", after := #[{ on := 4, ground := Ground.data }, { on := 5, ground := Ground.data }, { on := 2, ground := Ground.chain }], guard := none }) rfl (fun K hK => ?_) AllReadyH.nil
    refine wantCall2 ?_ 14 (.tmp 78) (.tmp 79) #[31, 31] ?_ (.agg #[.float .f64 c, .float .f64 d, .bool r, .bool s]) (.agg #[.float .f64 e, .float .f64 f, .bool t, .bool v]) ?_ ?_ ?_ (ent_meet _ _) ?_
    · rfl
    · rfl
    · rfl
    · rfl
    · rfl
    refine (HMbc.out _).mono ?_
    rintro o x190 ⟨rfl, b190⟩
    refine ⟨_, rfl, ?_⟩
    have U190 := U189.trans b190
    refine hK.out _ _ (C6.up U190 hX) (fun _ => ?_)
    clear hK K
    (try simp only [Act.put]); (try simp only [List.setIfInBounds_toArray]); (try simp only [List.set_cons_succ]); (try simp only [List.set_cons_zero])
    refine wpAnyH_ready (rs := [7]) (by kernel_rfl) (by simp) ?_
    refine AllReadyH.cons (o := { dst := some 81, op := Op.call { callee := Callee.value (Operand.func 14), args := #[Operand.tmp 77, Operand.tmp 80], argTypes := #[31, 31] }, type := 31, pos := "law.go:156", after := #[{ on := 3, ground := Ground.data }, { on := 6, ground := Ground.data }, { on := 6, ground := Ground.chain }], guard := none }) rfl (fun K hK => ?_) AllReadyH.nil
    refine wantCall2 ?_ 14 (.tmp 77) (.tmp 80) #[31, 31] ?_ (.agg #[.float .f64 a, .float .f64 b, .bool p, .bool q]) (.agg #[.float .f64 YU, .float .f64 YV, .bool YE, .bool YE]) ?_ ?_ ?_ (ent_meet _ _) ?_
    · rfl
    · rfl
    · rfl
    · rfl
    · rfl
    refine (HMay.out _).mono ?_
    rintro o x191 ⟨rfl, b191⟩
    refine ⟨_, rfl, ?_⟩
    have U191 := U190.trans b191
    refine hK.out _ _ (C6.up U191 hX) (fun _ => ?_)
    clear hK K
    (try simp only [Act.put]); (try simp only [List.setIfInBounds_toArray]); (try simp only [List.set_cons_succ]); (try simp only [List.set_cons_zero])
    refine wpAnyH_take (i := 8) (oi := { dst := some 82, op := Op.binOp BinOp.eql 31 (Operand.tmp 76) (Operand.tmp 81) 31, type := 4, pos := "law.go:156", after := #[{ on := 2, ground := Ground.data }, { on := 7, ground := Ground.data }], guard := none }) (v := ?vk192) rfl (by kernel_rfl) (by kernel_rfl) (by kernel_rfl) (fun _ _ _ h => h) (Or.inl ⟨by rfl, ?hk192⟩) (C6.up U191 hX) ?rk192
    case hk192 => (intro wz hSw; (try dsimp only at hSw); go_simp; try with_reducible rfl)
    (try simp only [Act.put]); (try simp only [List.setIfInBounds_toArray]); (try simp only [List.set_cons_succ]); (try simp only [List.set_cons_zero])
    refine wpAnyH_take (i := 9) (oi := { dst := some 83, op := Op.move (Operand.tmp 82), type := 4, pos := "law.go:156", after := #[{ on := 8, ground := Ground.data }, { on := 7, ground := Ground.chain }], guard := none }) (v := ?vk193) rfl (by kernel_rfl) (by kernel_rfl) (by kernel_rfl) (fun _ _ _ h => h) (Or.inl ⟨by rfl, ?hk193⟩) (C6.up U191 hX) ?rk193
    case hk193 => (intro wz hSw; (try dsimp only at hSw); go_simp; try with_reducible rfl)
    (try simp only [Act.put]); (try simp only [List.setIfInBounds_toArray]); (try simp only [List.set_cons_succ]); (try simp only [List.set_cons_zero])
    refine wpAnyH_take (i := 10) (oi := { dst := some 84, op := Op.move (Operand.tmp 9), type := 4, pos := "law.go:156", after := #[{ on := 9, ground := Ground.guard }], guard := some (9, true) }) (v := ?vk194) rfl (by kernel_rfl) (by kernel_rfl) (by kernel_rfl) (fun _ _ _ h => h) (Or.inl ⟨by rfl, ?hk194⟩) (C6.up U191 hX) ?rk194
    case hk194 => (intro wz hSw; (try dsimp only at hSw); go_simp; try with_reducible rfl)
    (try simp only [Act.put]); (try simp only [List.setIfInBounds_toArray]); (try simp only [List.set_cons_succ]); (try simp only [List.set_cons_zero])
    refine wpAnyH_take (i := 11) (oi := { dst := some 85, op := Op.unOp UnOp.not 4 (Operand.tmp 84), type := 4, pos := "law.go:156", after := #[{ on := 10, ground := Ground.data }, { on := 9, ground := Ground.guard }], guard := some (9, true) }) (v := ?vk195) rfl (by kernel_rfl) (by kernel_rfl) (by kernel_rfl) (fun _ _ _ h => h) (Or.inl ⟨by rfl, ?hk195⟩) (C6.up U191 hX) ?rk195
    case hk195 => (intro wz hSw; (try dsimp only at hSw); go_simp; try with_reducible rfl)
    (try simp only [Act.put]); (try simp only [List.setIfInBounds_toArray]); (try simp only [List.set_cons_succ]); (try simp only [List.set_cons_zero])
    refine wpAnyH_take (i := 12) (oi := { dst := some 86, op := Op.move (Operand.tmp 85), type := 4, pos := "law.go:156", after := #[{ on := 11, ground := Ground.data }, { on := 9, ground := Ground.chain }, { on := 9, ground := Ground.guard }], guard := some (9, true) }) (v := ?vk196) rfl (by kernel_rfl) (by kernel_rfl) (by kernel_rfl) (fun _ _ _ h => h) (Or.inl ⟨by rfl, ?hk196⟩) (C6.up U191 hX) ?rk196
    case hk196 => (intro wz hSw; (try dsimp only at hSw); go_simp; try with_reducible rfl)
    (try simp only [Act.put]); (try simp only [List.setIfInBounds_toArray]); (try simp only [List.set_cons_succ]); (try simp only [List.set_cons_zero])
    refine wpAnyH_take (i := 13) (oi := { dst := some 87, op := Op.load 31 (Operand.tmp 3), type := 31, pos := "law.go:156", after := #[{ on := 12, ground := Ground.guard }], guard := some (12, false) }) (v := undef) rfl (by kernel_rfl) (by kernel_rfl) (by kernel_rfl) (fun _ _ _ h => h) (Or.inr ⟨by rfl, rfl⟩) (C6.up U191 hX) ?_
    (try simp only [Act.put]); (try simp only [List.setIfInBounds_toArray]); (try simp only [List.set_cons_succ]); (try simp only [List.set_cons_zero])
    refine wpAnyH_take (i := 14) (oi := { dst := some 88, op := Op.load 31 (Operand.tmp 8), type := 31, pos := "law.go:156", after := #[{ on := 12, ground := Ground.guard }], guard := some (12, false) }) (v := undef) rfl (by kernel_rfl) (by kernel_rfl) (by kernel_rfl) (fun _ _ _ h => h) (Or.inr ⟨by rfl, rfl⟩) (C6.up U191 hX) ?_
    (try simp only [Act.put]); (try simp only [List.setIfInBounds_toArray]); (try simp only [List.set_cons_succ]); (try simp only [List.set_cons_zero])
    refine wpAnyH_take (i := 15) (oi := { dst := some 89, op := Op.call { callee := Callee.value (Operand.func 22), args := #[Operand.tmp 87, Operand.tmp 88], argTypes := #[31, 31] }, type := 4, pos := "law.go:156", after := #[{ on := 13, ground := Ground.data }, { on := 14, ground := Ground.data }, { on := 12, ground := Ground.chain }, { on := 12, ground := Ground.guard }], guard := some (12, false) }) (v := undef) rfl (by kernel_rfl) (by kernel_rfl) (by kernel_rfl) (fun _ _ _ h => h) (Or.inr ⟨by rfl, rfl⟩) (C6.up U191 hX) ?_
    (try simp only [Act.put]); (try simp only [List.setIfInBounds_toArray]); (try simp only [List.set_cons_succ]); (try simp only [List.set_cons_zero])
    refine wpAnyH_take (i := 16) (oi := { dst := some 90, op := Op.move (Operand.tmp 89), type := 4, pos := "law.go:156", after := #[{ on := 15, ground := Ground.data }, { on := 15, ground := Ground.chain }, { on := 12, ground := Ground.guard }], guard := some (12, false) }) (v := undef) rfl (by kernel_rfl) (by kernel_rfl) (by kernel_rfl) (fun _ _ _ h => h) (Or.inr ⟨by rfl, rfl⟩) (C6.up U191 hX) ?_
    (try simp only [Act.put]); (try simp only [List.setIfInBounds_toArray]); (try simp only [List.set_cons_succ]); (try simp only [List.set_cons_zero])
    refine wpAnyH_take (i := 17) (oi := { dst := some 91, op := Op.load 31 (Operand.tmp 4), type := 31, pos := "law.go:156", after := #[{ on := 16, ground := Ground.guard }], guard := some (16, true) }) (v := undef) rfl (by kernel_rfl) (by kernel_rfl) (by kernel_rfl) (fun _ _ _ h => h) (Or.inr ⟨by rfl, rfl⟩) (C6.up U191 hX) ?_
    (try simp only [Act.put]); (try simp only [List.setIfInBounds_toArray]); (try simp only [List.set_cons_succ]); (try simp only [List.set_cons_zero])
    refine wpAnyH_take (i := 18) (oi := { dst := some 92, op := Op.load 31 (Operand.tmp 8), type := 31, pos := "law.go:156", after := #[{ on := 16, ground := Ground.guard }], guard := some (16, true) }) (v := undef) rfl (by kernel_rfl) (by kernel_rfl) (by kernel_rfl) (fun _ _ _ h => h) (Or.inr ⟨by rfl, rfl⟩) (C6.up U191 hX) ?_
    (try simp only [Act.put]); (try simp only [List.setIfInBounds_toArray]); (try simp only [List.set_cons_succ]); (try simp only [List.set_cons_zero])
    refine wpAnyH_take (i := 19) (oi := { dst := some 93, op := Op.call { callee := Callee.value (Operand.func 22), args := #[Operand.tmp 91, Operand.tmp 92], argTypes := #[31, 31] }, type := 4, pos := "law.go:156", after := #[{ on := 17, ground := Ground.data }, { on := 18, ground := Ground.data }, { on := 16, ground := Ground.chain }, { on := 16, ground := Ground.guard }], guard := some (16, true) }) (v := undef) rfl (by kernel_rfl) (by kernel_rfl) (by kernel_rfl) (fun _ _ _ h => h) (Or.inr ⟨by rfl, rfl⟩) (C6.up U191 hX) ?_
    (try simp only [Act.put]); (try simp only [List.setIfInBounds_toArray]); (try simp only [List.set_cons_succ]); (try simp only [List.set_cons_zero])
    refine wpAnyH_take (i := 20) (oi := { dst := some 94, op := Op.pick (Operand.tmp 90) (Operand.tmp 93) (Operand.const (Value.bool false)), type := 4, pos := "law.go:156", after := #[{ on := 16, ground := Ground.data }, { on := 19, ground := Ground.data }, { on := 12, ground := Ground.guard }], guard := some (12, false) }) (v := undef) rfl (by kernel_rfl) (by kernel_rfl) (by kernel_rfl) (fun _ _ _ h => h) (Or.inr ⟨by rfl, rfl⟩) (C6.up U191 hX) ?_
    (try simp only [Act.put]); (try simp only [List.setIfInBounds_toArray]); (try simp only [List.set_cons_succ]); (try simp only [List.set_cons_zero])
    refine wpAnyH_take (i := 21) (oi := { dst := some 95, op := Op.pick (Operand.tmp 86) (Operand.const (Value.bool true)) (Operand.tmp 94), type := 4, pos := "law.go:156", after := #[{ on := 12, ground := Ground.data }, { on := 20, ground := Ground.data }, { on := 9, ground := Ground.guard }], guard := some (9, true) }) (v := ?vk197) rfl (by kernel_rfl) (by kernel_rfl) (by kernel_rfl) (fun _ _ _ h => h) (Or.inl ⟨by rfl, ?hk197⟩) (C6.up U191 hX) ?rk197
    case hk197 => (intro wz hSw; (try dsimp only at hSw); go_simp; try with_reducible rfl)
    (try simp only [Act.put]); (try simp only [List.setIfInBounds_toArray]); (try simp only [List.set_cons_succ]); (try simp only [List.set_cons_zero])
    refine wpAnyH_take (i := 22) (oi := { dst := some 96, op := Op.pick (Operand.tmp 83) (Operand.tmp 95) (Operand.const (Value.bool false)), type := 4, pos := "law.go:156", after := #[{ on := 9, ground := Ground.data }, { on := 21, ground := Ground.data }], guard := none }) (v := ?vk198) rfl (by kernel_rfl) (by kernel_rfl) (by kernel_rfl) (fun _ _ _ h => h) (Or.inl ⟨by rfl, ?hk198⟩) (C6.up U191 hX) ?rk198
    case hk198 => (intro wz hSw; (try dsimp only at hSw); go_simp; try with_reducible rfl)
    (try simp only [Act.put]); (try simp only [List.setIfInBounds_toArray]); (try simp only [List.set_cons_succ]); (try simp only [List.set_cons_zero])
    refine wpAnyH_ready (rs := [23]) (by kernel_rfl) (by simp) ?_
    refine AllReadyH.cons (o := { dst := some 6, op := Op.assign (Operand.tmp 96), type := 4, pos := "law.go:156", after := #[{ on := 22, ground := Ground.data }, { on := 19, ground := Ground.chain }, { on := 0, ground := Ground.phase }, { on := 1, ground := Ground.phase }, { on := 2, ground := Ground.phase }, { on := 3, ground := Ground.phase }, { on := 4, ground := Ground.phase }, { on := 5, ground := Ground.phase }, { on := 6, ground := Ground.phase }, { on := 7, ground := Ground.phase }, { on := 8, ground := Ground.phase }, { on := 9, ground := Ground.phase }, { on := 10, ground := Ground.phase }, { on := 11, ground := Ground.phase }, { on := 12, ground := Ground.phase }, { on := 13, ground := Ground.phase }, { on := 14, ground := Ground.phase }, { on := 15, ground := Ground.phase }, { on := 16, ground := Ground.phase }, { on := 17, ground := Ground.phase }, { on := 18, ground := Ground.phase }, { on := 19, ground := Ground.phase }, { on := 20, ground := Ground.phase }, { on := 21, ground := Ground.phase }, { on := 22, ground := Ground.phase }], guard := none }) rfl (fun K hK => ?_) AllReadyH.nil
    go_simp
    refine hK.out _ _ (C6.up U191 hX) (fun _ => ?_)
    clear hK K
    (try simp only [Act.put]); (try simp only [List.setIfInBounds_toArray]); (try simp only [List.set_cons_succ]); (try simp only [List.set_cons_zero])
    refine wpAnyH_done (by kernel_rfl) ?_ _
    refine NoPanic.normal ?_
    go_wp2
    go_ret
    exact ⟨rfl, UX.trans U191⟩
  · have HWaj := HWaj.out rfl
    have HWbj := HWbj.out rfl
    refine wp_region_noPanic ?_
    refine wp_region_held_drew (S := C6 w.heap.size a b p q (w.heap.size + 1) c d r s (w.heap.size + 2) e f t v z1 U V E z2 JU JV JE z3) (by kernel_rfl) ?_ (fun hHeld => ?_)
    · exact C6.up ((Up.refl _).drew) hX
    (try simp only [Act.put]); (try simp only [List.setIfInBounds_toArray]); (try simp only [List.set_cons_succ]); (try simp only [List.set_cons_zero])
    clear hHeld
    refine wpAnyH_take (i := 0) (oi := { dst := some 74, op := Op.load 31 (Operand.tmp 7), type := 31, pos := "law.go:156", after := #[], guard := none }) (v := ?vk199) rfl (by kernel_rfl) (by kernel_rfl) (by kernel_rfl) (fun _ _ _ h => h) (Or.inl ⟨by rfl, ?hk199⟩) (C6.up ((Up.refl wx).drew) hX) ?rk199
    case hk199 => (intro wz hSw; (try dsimp only at hSw); go_simp; try with_reducible rfl)
    (try simp only [Act.put]); (try simp only [List.setIfInBounds_toArray]); (try simp only [List.set_cons_succ]); (try simp only [List.set_cons_zero])
    refine wpAnyH_take (i := 1) (oi := { dst := some 75, op := Op.load 31 (Operand.tmp 5), type := 31, pos := "law.go:156", after := #[], guard := none }) (v := ?vk200) rfl (by kernel_rfl) (by kernel_rfl) (by kernel_rfl) (fun _ _ _ h => h) (Or.inl ⟨by rfl, ?hk200⟩) (C6.up ((Up.refl wx).drew) hX) ?rk200
    case hk200 => (intro wz hSw; (try dsimp only at hSw); go_simp; try with_reducible rfl)
    (try simp only [Act.put]); (try simp only [List.setIfInBounds_toArray]); (try simp only [List.set_cons_succ]); (try simp only [List.set_cons_zero])
    refine wpAnyH_take (i := 3) (oi := { dst := some 77, op := Op.load 31 (Operand.tmp 3), type := 31, pos := "law.go:156", after := #[], guard := none }) (v := ?vk201) rfl (by kernel_rfl) (by kernel_rfl) (by kernel_rfl) (fun _ _ _ h => h) (Or.inl ⟨by rfl, ?hk201⟩) (C6.up ((Up.refl wx).drew) hX) ?rk201
    case hk201 => (intro wz hSw; (try dsimp only at hSw); go_simp; try with_reducible rfl)
    (try simp only [Act.put]); (try simp only [List.setIfInBounds_toArray]); (try simp only [List.set_cons_succ]); (try simp only [List.set_cons_zero])
    refine wpAnyH_take (i := 4) (oi := { dst := some 78, op := Op.load 31 (Operand.tmp 4), type := 31, pos := "law.go:156", after := #[], guard := none }) (v := ?vk202) rfl (by kernel_rfl) (by kernel_rfl) (by kernel_rfl) (fun _ _ _ h => h) (Or.inl ⟨by rfl, ?hk202⟩) (C6.up ((Up.refl wx).drew) hX) ?rk202
    case hk202 => (intro wz hSw; (try dsimp only at hSw); go_simp; try with_reducible rfl)
    (try simp only [Act.put]); (try simp only [List.setIfInBounds_toArray]); (try simp only [List.set_cons_succ]); (try simp only [List.set_cons_zero])
    refine wpAnyH_take (i := 5) (oi := { dst := some 79, op := Op.load 31 (Operand.tmp 5), type := 31, pos := "law.go:156", after := #[], guard := none }) (v := ?vk203) rfl (by kernel_rfl) (by kernel_rfl) (by kernel_rfl) (fun _ _ _ h => h) (Or.inl ⟨by rfl, ?hk203⟩) (C6.up ((Up.refl wx).drew) hX) ?rk203
    case hk203 => (intro wz hSw; (try dsimp only at hSw); go_simp; try with_reducible rfl)
    (try simp only [Act.put]); (try simp only [List.setIfInBounds_toArray]); (try simp only [List.set_cons_succ]); (try simp only [List.set_cons_zero])
    refine wpAnyH_ready (rs := [2]) (by kernel_rfl) (by simp) ?_
    refine AllReadyH.cons (o := { dst := some 76, op := Op.call { callee := Callee.value (Operand.func 14), args := #[Operand.tmp 74, Operand.tmp 75], argTypes := #[31, 31] }, type := 31, pos := "law.go:156", after := #[{ on := 0, ground := Ground.data }, { on := 1, ground := Ground.data }], guard := none }) rfl (fun K hK => ?_) AllReadyH.nil
    refine wantCall2 ?_ 14 (.tmp 74) (.tmp 75) #[31, 31] ?_ (.agg #[.float .f64 U, .float .f64 V, .bool E, .bool E]) (.agg #[.float .f64 e, .float .f64 f, .bool t, .bool v]) ?_ ?_ ?_ (ent_meet _ _) ?_
    · rfl
    · rfl
    · rfl
    · rfl
    · rfl
    refine (HMmc.out _).mono ?_
    rintro o x204 ⟨rfl, b204⟩
    refine ⟨_, rfl, ?_⟩
    have U204 := ((Up.refl wx).drew).trans b204
    refine hK.out _ _ (C6.up U204 hX) (fun _ => ?_)
    clear hK K
    (try simp only [Act.put]); (try simp only [List.setIfInBounds_toArray]); (try simp only [List.set_cons_succ]); (try simp only [List.set_cons_zero])
    refine wpAnyH_ready (rs := [6]) (by kernel_rfl) (by simp) ?_
    refine AllReadyH.cons (o := { dst := some 80, op := Op.call { callee := Callee.value (Operand.func 14), args := #[Operand.tmp 78, Operand.tmp 79], argTypes := #[31, 31] }, type := 31, pos := "law.go:156", after := #[{ on := 4, ground := Ground.data }, { on := 5, ground := Ground.data }, { on := 2, ground := Ground.chain }], guard := none }) rfl (fun K hK => ?_) AllReadyH.nil
    refine wantCall2 ?_ 14 (.tmp 78) (.tmp 79) #[31, 31] ?_ (.agg #[.float .f64 c, .float .f64 d, .bool r, .bool s]) (.agg #[.float .f64 e, .float .f64 f, .bool t, .bool v]) ?_ ?_ ?_ (ent_meet _ _) ?_
    · rfl
    · rfl
    · rfl
    · rfl
    · rfl
    refine (HMbc.out _).mono ?_
    rintro o x205 ⟨rfl, b205⟩
    refine ⟨_, rfl, ?_⟩
    have U205 := U204.trans b205
    refine hK.out _ _ (C6.up U205 hX) (fun _ => ?_)
    clear hK K
    (try simp only [Act.put]); (try simp only [List.setIfInBounds_toArray]); (try simp only [List.set_cons_succ]); (try simp only [List.set_cons_zero])
    refine wpAnyH_ready (rs := [7]) (by kernel_rfl) (by simp) ?_
    refine AllReadyH.cons (o := { dst := some 81, op := Op.call { callee := Callee.value (Operand.func 14), args := #[Operand.tmp 77, Operand.tmp 80], argTypes := #[31, 31] }, type := 31, pos := "law.go:156", after := #[{ on := 3, ground := Ground.data }, { on := 6, ground := Ground.data }, { on := 6, ground := Ground.chain }], guard := none }) rfl (fun K hK => ?_) AllReadyH.nil
    refine wantCall2 ?_ 14 (.tmp 77) (.tmp 80) #[31, 31] ?_ (.agg #[.float .f64 a, .float .f64 b, .bool p, .bool q]) (.agg #[.float .f64 YU, .float .f64 YV, .bool YE, .bool YE]) ?_ ?_ ?_ (ent_meet _ _) ?_
    · rfl
    · rfl
    · rfl
    · rfl
    · rfl
    refine (HMay.out _).mono ?_
    rintro o x206 ⟨rfl, b206⟩
    refine ⟨_, rfl, ?_⟩
    have U206 := U205.trans b206
    refine hK.out _ _ (C6.up U206 hX) (fun _ => ?_)
    clear hK K
    (try simp only [Act.put]); (try simp only [List.setIfInBounds_toArray]); (try simp only [List.set_cons_succ]); (try simp only [List.set_cons_zero])
    refine wpAnyH_take (i := 8) (oi := { dst := some 82, op := Op.binOp BinOp.eql 31 (Operand.tmp 76) (Operand.tmp 81) 31, type := 4, pos := "law.go:156", after := #[{ on := 2, ground := Ground.data }, { on := 7, ground := Ground.data }], guard := none }) (v := ?vk207) rfl (by kernel_rfl) (by kernel_rfl) (by kernel_rfl) (fun _ _ _ h => h) (Or.inl ⟨by rfl, ?hk207⟩) (C6.up U206 hX) ?rk207
    case hk207 => (intro wz hSw; (try dsimp only at hSw); go_simp; try with_reducible rfl)
    (try simp only [Act.put]); (try simp only [List.setIfInBounds_toArray]); (try simp only [List.set_cons_succ]); (try simp only [List.set_cons_zero])
    refine wpAnyH_take (i := 9) (oi := { dst := some 83, op := Op.move (Operand.tmp 82), type := 4, pos := "law.go:156", after := #[{ on := 8, ground := Ground.data }, { on := 7, ground := Ground.chain }], guard := none }) (v := ?vk208) rfl (by kernel_rfl) (by kernel_rfl) (by kernel_rfl) (fun _ _ _ h => h) (Or.inl ⟨by rfl, ?hk208⟩) (C6.up U206 hX) ?rk208
    case hk208 => (intro wz hSw; (try dsimp only at hSw); go_simp; try with_reducible rfl)
    (try simp only [Act.put]); (try simp only [List.setIfInBounds_toArray]); (try simp only [List.set_cons_succ]); (try simp only [List.set_cons_zero])
    refine wpAnyH_take (i := 10) (oi := { dst := some 84, op := Op.move (Operand.tmp 9), type := 4, pos := "law.go:156", after := #[{ on := 9, ground := Ground.guard }], guard := some (9, true) }) (v := ?vk209) rfl (by kernel_rfl) (by kernel_rfl) (by kernel_rfl) (fun _ _ _ h => h) (Or.inl ⟨by rfl, ?hk209⟩) (C6.up U206 hX) ?rk209
    case hk209 => (intro wz hSw; (try dsimp only at hSw); go_simp; try with_reducible rfl)
    (try simp only [Act.put]); (try simp only [List.setIfInBounds_toArray]); (try simp only [List.set_cons_succ]); (try simp only [List.set_cons_zero])
    refine wpAnyH_take (i := 11) (oi := { dst := some 85, op := Op.unOp UnOp.not 4 (Operand.tmp 84), type := 4, pos := "law.go:156", after := #[{ on := 10, ground := Ground.data }, { on := 9, ground := Ground.guard }], guard := some (9, true) }) (v := ?vk210) rfl (by kernel_rfl) (by kernel_rfl) (by kernel_rfl) (fun _ _ _ h => h) (Or.inl ⟨by rfl, ?hk210⟩) (C6.up U206 hX) ?rk210
    case hk210 => (intro wz hSw; (try dsimp only at hSw); go_simp; try with_reducible rfl)
    (try simp only [Act.put]); (try simp only [List.setIfInBounds_toArray]); (try simp only [List.set_cons_succ]); (try simp only [List.set_cons_zero])
    refine wpAnyH_take (i := 12) (oi := { dst := some 86, op := Op.move (Operand.tmp 85), type := 4, pos := "law.go:156", after := #[{ on := 11, ground := Ground.data }, { on := 9, ground := Ground.chain }, { on := 9, ground := Ground.guard }], guard := some (9, true) }) (v := ?vk211) rfl (by kernel_rfl) (by kernel_rfl) (by kernel_rfl) (fun _ _ _ h => h) (Or.inl ⟨by rfl, ?hk211⟩) (C6.up U206 hX) ?rk211
    case hk211 => (intro wz hSw; (try dsimp only at hSw); go_simp; try with_reducible rfl)
    (try simp only [Act.put]); (try simp only [List.setIfInBounds_toArray]); (try simp only [List.set_cons_succ]); (try simp only [List.set_cons_zero])
    refine wpAnyH_take (i := 13) (oi := { dst := some 87, op := Op.load 31 (Operand.tmp 3), type := 31, pos := "law.go:156", after := #[{ on := 12, ground := Ground.guard }], guard := some (12, false) }) (v := ?vk212) rfl (by kernel_rfl) (by kernel_rfl) (by kernel_rfl) (fun _ _ _ h => h) (Or.inl ⟨by rfl, ?hk212⟩) (C6.up U206 hX) ?rk212
    case hk212 => (intro wz hSw; (try dsimp only at hSw); go_simp; try with_reducible rfl)
    (try simp only [Act.put]); (try simp only [List.setIfInBounds_toArray]); (try simp only [List.set_cons_succ]); (try simp only [List.set_cons_zero])
    refine wpAnyH_take (i := 14) (oi := { dst := some 88, op := Op.load 31 (Operand.tmp 8), type := 31, pos := "law.go:156", after := #[{ on := 12, ground := Ground.guard }], guard := some (12, false) }) (v := ?vk213) rfl (by kernel_rfl) (by kernel_rfl) (by kernel_rfl) (fun _ _ _ h => h) (Or.inl ⟨by rfl, ?hk213⟩) (C6.up U206 hX) ?rk213
    case hk213 => (intro wz hSw; (try dsimp only at hSw); go_simp; try with_reducible rfl)
    (try simp only [Act.put]); (try simp only [List.setIfInBounds_toArray]); (try simp only [List.set_cons_succ]); (try simp only [List.set_cons_zero])
    refine wpAnyH_ready (rs := [15]) (by kernel_rfl) (by simp) ?_
    refine AllReadyH.cons (o := { dst := some 89, op := Op.call { callee := Callee.value (Operand.func 22), args := #[Operand.tmp 87, Operand.tmp 88], argTypes := #[31, 31] }, type := 4, pos := "law.go:156", after := #[{ on := 13, ground := Ground.data }, { on := 14, ground := Ground.data }, { on := 12, ground := Ground.chain }, { on := 12, ground := Ground.guard }], guard := some (12, false) }) rfl (fun K hK => ?_) AllReadyH.nil
    refine wantCall2 ?_ 22 (.tmp 87) (.tmp 88) #[31, 31] ?_ (.agg #[.float .f64 a, .float .f64 b, .bool p, .bool q]) (.agg #[.float .f64 JU, .float .f64 JV, .bool JE, .bool JE]) ?_ ?_ ?_ (ent_within _ _) ?_
    · rfl
    · rfl
    · rfl
    · rfl
    · rfl
    refine (HWaj.out _).mono ?_
    rintro o x214 ⟨rfl, b214⟩
    refine ⟨_, rfl, ?_⟩
    have U214 := U206.trans b214
    refine hK.out _ _ (C6.up U214 hX) (fun _ => ?_)
    clear hK K
    (try simp only [Act.put]); (try simp only [List.setIfInBounds_toArray]); (try simp only [List.set_cons_succ]); (try simp only [List.set_cons_zero])
    refine wpAnyH_take (i := 16) (oi := { dst := some 90, op := Op.move (Operand.tmp 89), type := 4, pos := "law.go:156", after := #[{ on := 15, ground := Ground.data }, { on := 15, ground := Ground.chain }, { on := 12, ground := Ground.guard }], guard := some (12, false) }) (v := ?vk215) rfl (by kernel_rfl) (by kernel_rfl) (by kernel_rfl) (fun _ _ _ h => h) (Or.inl ⟨by rfl, ?hk215⟩) (C6.up U214 hX) ?rk215
    case hk215 => (intro wz hSw; (try dsimp only at hSw); go_simp; try with_reducible rfl)
    (try simp only [Act.put]); (try simp only [List.setIfInBounds_toArray]); (try simp only [List.set_cons_succ]); (try simp only [List.set_cons_zero])
    refine wpAnyH_take (i := 17) (oi := { dst := some 91, op := Op.load 31 (Operand.tmp 4), type := 31, pos := "law.go:156", after := #[{ on := 16, ground := Ground.guard }], guard := some (16, true) }) (v := ?vk216) rfl (by kernel_rfl) (by kernel_rfl) (by kernel_rfl) (fun _ _ _ h => h) (Or.inl ⟨by rfl, ?hk216⟩) (C6.up U214 hX) ?rk216
    case hk216 => (intro wz hSw; (try dsimp only at hSw); go_simp; try with_reducible rfl)
    (try simp only [Act.put]); (try simp only [List.setIfInBounds_toArray]); (try simp only [List.set_cons_succ]); (try simp only [List.set_cons_zero])
    refine wpAnyH_take (i := 18) (oi := { dst := some 92, op := Op.load 31 (Operand.tmp 8), type := 31, pos := "law.go:156", after := #[{ on := 16, ground := Ground.guard }], guard := some (16, true) }) (v := ?vk217) rfl (by kernel_rfl) (by kernel_rfl) (by kernel_rfl) (fun _ _ _ h => h) (Or.inl ⟨by rfl, ?hk217⟩) (C6.up U214 hX) ?rk217
    case hk217 => (intro wz hSw; (try dsimp only at hSw); go_simp; try with_reducible rfl)
    (try simp only [Act.put]); (try simp only [List.setIfInBounds_toArray]); (try simp only [List.set_cons_succ]); (try simp only [List.set_cons_zero])
    refine wpAnyH_ready (rs := [19]) (by kernel_rfl) (by simp) ?_
    refine AllReadyH.cons (o := { dst := some 93, op := Op.call { callee := Callee.value (Operand.func 22), args := #[Operand.tmp 91, Operand.tmp 92], argTypes := #[31, 31] }, type := 4, pos := "law.go:156", after := #[{ on := 17, ground := Ground.data }, { on := 18, ground := Ground.data }, { on := 16, ground := Ground.chain }, { on := 16, ground := Ground.guard }], guard := some (16, true) }) rfl (fun K hK => ?_) AllReadyH.nil
    refine wantCall2 ?_ 22 (.tmp 91) (.tmp 92) #[31, 31] ?_ (.agg #[.float .f64 c, .float .f64 d, .bool r, .bool s]) (.agg #[.float .f64 JU, .float .f64 JV, .bool JE, .bool JE]) ?_ ?_ ?_ (ent_within _ _) ?_
    · rfl
    · rfl
    · rfl
    · rfl
    · rfl
    refine (HWbj.out _).mono ?_
    rintro o x218 ⟨rfl, b218⟩
    refine ⟨_, rfl, ?_⟩
    have U218 := U214.trans b218
    refine hK.out _ _ (C6.up U218 hX) (fun _ => ?_)
    clear hK K
    (try simp only [Act.put]); (try simp only [List.setIfInBounds_toArray]); (try simp only [List.set_cons_succ]); (try simp only [List.set_cons_zero])
    refine wpAnyH_take (i := 20) (oi := { dst := some 94, op := Op.pick (Operand.tmp 90) (Operand.tmp 93) (Operand.const (Value.bool false)), type := 4, pos := "law.go:156", after := #[{ on := 16, ground := Ground.data }, { on := 19, ground := Ground.data }, { on := 12, ground := Ground.guard }], guard := some (12, false) }) (v := ?vk219) rfl (by kernel_rfl) (by kernel_rfl) (by kernel_rfl) (fun _ _ _ h => h) (Or.inl ⟨by rfl, ?hk219⟩) (C6.up U218 hX) ?rk219
    case hk219 => (intro wz hSw; (try dsimp only at hSw); go_simp; try with_reducible rfl)
    (try simp only [Act.put]); (try simp only [List.setIfInBounds_toArray]); (try simp only [List.set_cons_succ]); (try simp only [List.set_cons_zero])
    refine wpAnyH_take (i := 21) (oi := { dst := some 95, op := Op.pick (Operand.tmp 86) (Operand.const (Value.bool true)) (Operand.tmp 94), type := 4, pos := "law.go:156", after := #[{ on := 12, ground := Ground.data }, { on := 20, ground := Ground.data }, { on := 9, ground := Ground.guard }], guard := some (9, true) }) (v := ?vk220) rfl (by kernel_rfl) (by kernel_rfl) (by kernel_rfl) (fun _ _ _ h => h) (Or.inl ⟨by rfl, ?hk220⟩) (C6.up U218 hX) ?rk220
    case hk220 => (intro wz hSw; (try dsimp only at hSw); go_simp; try with_reducible rfl)
    (try simp only [Act.put]); (try simp only [List.setIfInBounds_toArray]); (try simp only [List.set_cons_succ]); (try simp only [List.set_cons_zero])
    refine wpAnyH_take (i := 22) (oi := { dst := some 96, op := Op.pick (Operand.tmp 83) (Operand.tmp 95) (Operand.const (Value.bool false)), type := 4, pos := "law.go:156", after := #[{ on := 9, ground := Ground.data }, { on := 21, ground := Ground.data }], guard := none }) (v := ?vk221) rfl (by kernel_rfl) (by kernel_rfl) (by kernel_rfl) (fun _ _ _ h => h) (Or.inl ⟨by rfl, ?hk221⟩) (C6.up U218 hX) ?rk221
    case hk221 => (intro wz hSw; (try dsimp only at hSw); go_simp; try with_reducible rfl)
    (try simp only [Act.put]); (try simp only [List.setIfInBounds_toArray]); (try simp only [List.set_cons_succ]); (try simp only [List.set_cons_zero])
    refine wpAnyH_ready (rs := [23]) (by kernel_rfl) (by simp) ?_
    refine AllReadyH.cons (o := { dst := some 6, op := Op.assign (Operand.tmp 96), type := 4, pos := "law.go:156", after := #[{ on := 22, ground := Ground.data }, { on := 19, ground := Ground.chain }, { on := 0, ground := Ground.phase }, { on := 1, ground := Ground.phase }, { on := 2, ground := Ground.phase }, { on := 3, ground := Ground.phase }, { on := 4, ground := Ground.phase }, { on := 5, ground := Ground.phase }, { on := 6, ground := Ground.phase }, { on := 7, ground := Ground.phase }, { on := 8, ground := Ground.phase }, { on := 9, ground := Ground.phase }, { on := 10, ground := Ground.phase }, { on := 11, ground := Ground.phase }, { on := 12, ground := Ground.phase }, { on := 13, ground := Ground.phase }, { on := 14, ground := Ground.phase }, { on := 15, ground := Ground.phase }, { on := 16, ground := Ground.phase }, { on := 17, ground := Ground.phase }, { on := 18, ground := Ground.phase }, { on := 19, ground := Ground.phase }, { on := 20, ground := Ground.phase }, { on := 21, ground := Ground.phase }, { on := 22, ground := Ground.phase }], guard := none }) rfl (fun K hK => ?_) AllReadyH.nil
    go_simp
    refine hK.out _ _ (C6.up U218 hX) (fun _ => ?_)
    clear hK K
    (try simp only [Act.put]); (try simp only [List.setIfInBounds_toArray]); (try simp only [List.set_cons_succ]); (try simp only [List.set_cons_zero])
    refine wpAnyH_done (by kernel_rfl) ?_ _
    refine NoPanic.normal ?_
    go_wp2
    go_ret
    exact ⟨rfl, UX.trans U218⟩



theorem walk (a0 b0 : Nat) (p0 q0 : Bool) (a1 b1 : Nat) (p1 q1 : Bool) (a2 b2 : Nat) (p2 q2 : Bool) (w : World) (w0 : Fl.W a0) (x0 : Fl.W b0) (w1 : Fl.W a1) (x1 : Fl.W b1) (w2 : Fl.W a2) (x2 : Fl.W b2) :
    Calls Try.prog 8 #[.agg #[.float .f64 a0, .float .f64 b0, .bool p0, .bool q0], .agg #[.float .f64 a1, .float .f64 b1, .bool p1, .bool q1], .agg #[.float .f64 a2, .float .f64 b2, .bool p2, .bool q2]] w fun e w' => e = .returned (.bool true) ∧ Up w w' := by
  have F13 : Fl.IsForm 4607182418800017408 4613937818241073152 false := ⟨by unfold Fl.W; decide, by unfold Fl.W; decide, fun h => (by cases h), fun _ => by decide +kernel⟩
  have F25 : Fl.IsForm 4611686018427387904 4617315517961601024 false := ⟨by unfold Fl.W; decide, by unfold Fl.W; decide, fun h => (by cases h), fun _ => by decide +kernel⟩
  have HM0 := fun w => meet_at F13 F25 4607182418800017408 4613937818241073152 4611686018427387904 4617315517961601024 false false false false (fun w => canon_form _ _ _ F13 w) (fun w => canon_form _ _ _ F25 w) w
  rw [show Fl.mU 4607182418800017408 4613937818241073152 false 4611686018427387904 4617315517961601024 false = 4611686018427387904 by decide +kernel, show Fl.mV 4607182418800017408 4613937818241073152 false 4611686018427387904 4617315517961601024 false = 4613937818241073152 by decide +kernel, show Fl.mE 4607182418800017408 4613937818241073152 false 4611686018427387904 4617315517961601024 false = false by decide +kernel] at HM0
  have f1 := Fl.cs_isForm a0 b0 p0 q0 w0 x0
  have f2 := Fl.cs_isForm a1 b1 p1 q1 w1 x1
  have f3 := Fl.cs_isForm a2 b2 p2 q2 w2 x2
  have HA := fun w => canonS_any a0 b0 w0 x0 p0 q0 w
  have HB := fun w => canonS_any a1 b1 w1 x1 p1 q1 w
  have HC := fun w => canonS_any a2 b2 w2 x2 p2 q2 w
  generalize Fl.csU a0 b0 p0 q0 = u1 at *
  generalize Fl.csV a0 b0 p0 q0 = v1 at *
  generalize Fl.csE a0 b0 p0 q0 = e1 at *
  generalize Fl.csU a1 b1 p1 q1 = u2 at *
  generalize Fl.csV a1 b1 p1 q1 = v2 at *
  generalize Fl.csE a1 b1 p1 q1 = e2 at *
  generalize Fl.csU a2 b2 p2 q2 = u3 at *
  generalize Fl.csV a2 b2 p2 q2 = v3 at *
  generalize Fl.csE a2 b2 p2 q2 = e3 at *
  have fm := Fl.meet_form f1 f2
  have fj := Fl.join_form f1 f2
  have fy := Fl.meet_form f2 f3
  have fx := Fl.meet_form fm f3
  have km := Fl.meet_comm f1 f2
  have kj := Fl.join_comm f1 f2
  have ka := Fl.meet_assoc f1 f2 f3
  have ia := Fl.in_self f1
  have im := Fl.in_first f1 f2
  have in2 := Fl.in_second f1 f2
  have ij := Fl.in_join f1 f2
  have ik := Fl.in_join f2 f1
  rw [kj.1, kj.2.1, kj.2.2.1, kj.2.2.2] at ik
  have HMab := fun w => meet_at f1 f2 a0 b0 a1 b1 p0 q0 p1 q1 HA HB w
  have HMba := fun w => meet_at f2 f1 a1 b1 a0 b0 p1 q1 p0 q0 HB HA w
  rw [km.1, km.2.1, km.2.2] at HMba
  have HJab := fun w => join_at f1 f2 a0 b0 a1 b1 p0 q0 p1 q1 HA HB w
  have HJba := fun w => join_at f2 f1 a1 b1 a0 b0 p1 q1 p0 q0 HB HA w
  rw [kj.1, kj.2.1, kj.2.2.1, kj.2.2.2] at HJba
  have HMaa := fun w => meet_at f1 f1 a0 b0 a0 b0 p0 q0 p0 q0 HA HA w
  have HWaa := fun w => within_core a0 b0 a0 b0 _ _ _ _ p0 q0 p0 q0 _ _ _ _ rfl rfl HMaa HA w
  rw [Fl.fq_floats (Fl.meet_form f1 f1) f1, ia] at HWaa
  have HMMa := fun w => meet_at fm f1 _ _ a0 b0 _ _ p0 q0 (fun w => canon_form _ _ _ fm w) HA w
  have HWma := fun w => within_core _ _ a0 b0 _ _ _ _ _ _ p0 q0 _ _ _ _ rfl rfl HMMa (fun w => canon_form _ _ _ fm w) w
  rw [Fl.fq_floats (Fl.meet_form fm f1) fm, im] at HWma
  have HMMb := fun w => meet_at fm f2 _ _ a1 b1 _ _ p1 q1 (fun w => canon_form _ _ _ fm w) HB w
  have HWmb := fun w => within_core _ _ a1 b1 _ _ _ _ _ _ p1 q1 _ _ _ _ rfl rfl HMMb (fun w => canon_form _ _ _ fm w) w
  rw [Fl.fq_floats (Fl.meet_form fm f2) fm, in2] at HWmb
  have HMmc := fun w => meet_at fm f3 _ _ a2 b2 _ _ p2 q2 (fun w => canon_form _ _ _ fm w) HC w
  have HMbc := fun w => meet_at f2 f3 a1 b1 a2 b2 p1 q1 p2 q2 HB HC w
  have HMay := fun w => meet_at f1 fy a0 b0 _ _ p0 q0 _ _ HA (fun w => canon_form _ _ _ fy w) w
  rw [ka.1, ka.2.1, ka.2.2] at HMay
  have HMaj := fun w => meet_at f1 fj a0 b0 _ _ p0 q0 _ _ HA (fun w => canon_form _ _ _ fj w) w
  have HWaj := fun w => within_core a0 b0 _ _ _ _ _ _ p0 q0 _ _ _ _ _ _ rfl rfl HMaj HA w
  rw [Fl.fq_floats (Fl.meet_form f1 fj) f1] at HWaj
  have HMbj := fun w => meet_at f2 fj a1 b1 _ _ p1 q1 _ _ HB (fun w => canon_form _ _ _ fj w) w
  have HWbj := fun w => within_core a1 b1 _ _ _ _ _ _ p1 q1 _ _ _ _ _ _ rfl rfl HMbj HB w
  rw [Fl.fq_floats (Fl.meet_form f2 fj) f2] at HWbj
  have nm := Fl.form_nan fm
  have nj := Fl.form_nan fj
  have nx := Fl.form_nan fx
  exact core a0 b0 a1 b1 a2 b2 _ _ _ _ _ _ _ _ p0 q0 p1 q1 p2 q2 _ _ _ _ _ HM0 HMab HMba HJab HJba (fun w => apart_core a0 b0 a1 b1 _ _ p0 q0 p1 q1 _ fm.2.2.1 HMab w) (fun w => apart_core a1 b1 a0 b0 _ _ p1 q1 p0 q0 _ fm.2.2.1 HMba w) HWaa HWma HWmb HMmc HMbc HMay (fun h => by rw [ij h] at HWaj; exact HWaj) (fun h => by rw [ik h] at HWbj; exact HWbj) (Fl.ord_self _ fm.1 nm.1) (Fl.ord_self _ fm.2.1 nm.2.1) (Fl.ord_self _ fj.1 nj.1) (Fl.ord_self _ fj.2.1 nj.2.1) (Fl.ord_self _ fx.1 nx.1) (Fl.ord_self _ fx.2.1 nx.2.1) w

set_option maxRecDepth 100000 in
theorem lifted (os : Os) (started : os.Started) (H : Type) (enc : TypeId × Value → H) :
    ReturnsInHanded {} Try.checked os 8 .any (Rows.spanTurnsSpec.pre6 enc Try.prog Try.f8 Rows.spanTurnsRow.domain false) (Rows.spanTurnsSpec.post enc Try.prog Try.f8 false true false false) := by
  refine returnsInHanded_of_change (C := Try.checked) own started (by kernel_rfl) Try.func8
    (ChangeSpec.witness6 (enc := enc) (C := Try.checked) false ⟨#[], #[.agg #[.float .f64 0, .float .f64 0, .bool false, .bool false], .agg #[.float .f64 0, .float .f64 0, .bool false, .bool false], .agg #[.float .f64 0, .float .f64 0, .bool false, .bool false]], []⟩ 8 (by kernel_rfl) (by kernel_rfl) (by kernel_rfl) (by kernel_rfl)) ?_
  intro W base args ds gs before hval0 hW hcnd _
  have hval : ∀ (j : Nat) t v, Try.f8.params[j]? = some t → args[j]? = some v → Value.okWide Try.prog W .any base t v := hval0
  have hW' := hW
  obtain ⟨p, q, hA0, hV, rfl, hfz, hnd⟩ := hW
  have hA : DataW.TrodAll enc Try.prog W 0 (fun _ => true) true Try.f8.params.toList args.toList ds p := hA0
  rw [Try.params8] at hA hval
  obtain ⟨v0, vs0, d0, ds0, p0, q0, hargs, rfl, rfl, h0, r0⟩ := trodAll_cons hA
  obtain ⟨v1, vs1, d1, ds1, p1, q1, rfl, rfl, rfl, h1, r1⟩ := trodAll_cons r0
  obtain ⟨v2, vs2, d2, ds2, p2, q2, rfl, rfl, rfl, h2, r2⟩ := trodAll_cons r1
  obtain ⟨rfl, rfl, rfl⟩ := trodAll_nil r2
  obtain rfl : args = #[v0, v1, v2] := by cases args; simp_all
  obtain ⟨rfl, rfl⟩ := trodVars_none hV
  have k0 := h0
  have lt0 : ∀ x ∈ p0, x.block < W.heap.size := by obtain ⟨m, hm⟩ := k0; exact DataW.trod_lt m _ _ _ hm
  obtain ⟨a0, b0, bp0, bq0, rfl, w0, x0⟩ := open_span (hval 0 31 v0 rfl rfl) h0
  have k1 := h1
  have lt1 : ∀ x ∈ p1, x.block < W.heap.size := by obtain ⟨m, hm⟩ := k1; exact DataW.trod_lt m _ _ _ hm
  obtain ⟨a1, b1, bp1, bq1, rfl, w1, x1⟩ := open_span (hval 1 31 v1 rfl rfl) h1
  have k2 := h2
  have lt2 : ∀ x ∈ p2, x.block < W.heap.size := by obtain ⟨m, hm⟩ := k2; exact DataW.trod_lt m _ _ _ hm
  obtain ⟨a2, b2, bp2, bq2, rfl, w2, x2⟩ := open_span (hval 2 31 v2 rfl rfl) h2
  clear hA0 hval0
  refine (walk a0 b0 bp0 bq0 a1 b1 bp1 bq1 a2 b2 bp2 bq2 W w0 x0 w1 x1 w2 x2).mono fun e W' ⟨he, bel⟩ => ?_
  subst he
  exact ⟨_, rfl, _, _, _, [], _, [], hW', trodAll_mk1 (shut_bool Try.underlying4 _), (trodAll_cons_mk (Below.trod laidOut (by kernel_rfl) (of_decide_eq_true (by kernel_rfl)) k0 bel lt0) (trodAll_cons_mk (Below.trod laidOut (by kernel_rfl) (of_decide_eq_true (by kernel_rfl)) k1 bel lt1) (trodAll_cons_mk (Below.trod laidOut (by kernel_rfl) (of_decide_eq_true (by kernel_rfl)) k2 bel lt2) trodAll_mk0))), rfl, Below.frame bel _, fun h => by cases h⟩

theorem proved : Rows.SpanTurnsSaid :=
  OpenClaim.holds_of_wide 8 Try.f8 rfl rfl rfl rfl rfl rfl rfl ⟨rfl, rfl, rfl, rfl, rfl⟩ rfl rfl rfl rfl rfl (by kernel_rfl) Try.func8 (by kernel_rfl)
    (of_decide_eq_true (by kernel_rfl)) (by unfold Func.isWrapper; first | (rw [if_pos (by decide +kernel)]; kernel_rfl) | (rw [if_neg (by decide +kernel)]; exact ⟨rfl, rfl⟩))
    (fun os started H enc _ => lifted os started H enc)
end Go.Proofs.Ytnggkncmcbcceaa.spanTurnsDone
namespace Go.Proofs.Ytnggkncmcbcceaa
theorem spanTurns_holds : Rows.SpanTurnsSaid := spanTurnsDone.proved
#print axioms spanTurns_holds
end Go.Proofs.Ytnggkncmcbcceaa
