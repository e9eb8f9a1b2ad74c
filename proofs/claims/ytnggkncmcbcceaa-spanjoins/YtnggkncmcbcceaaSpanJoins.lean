/- Proved: for every two spans the law SpanJoins returns true, without a condition. -/
import Derived.Test.YtnggkncmcbcceaaJr
import Derived.ProofKit
import Derived.OpenShut
import Derived.Lib.SmallJoins
namespace Go.Proofs.Ytnggkncmcbcceaa.spanJoinsDone
open Go.ChangeShapes Go.WideShapes Go.ChangeAt Go.RowKit Go.Joins
set_option linter.unusedVariables false

theorem own : ownKnob Try.prog.godebug = none := by kernel_rfl
theorem laidOut : laidOutB Try.prog = true := by kernel_rfl
theorem wb {a : Nat} (h : (Lit.float .f64 a).wf = true) : Fl.W a := by simp [Lit.wf] at h; exact h
theorem trod_float {H : Type} {enc : TypeId × Value → H} {P : Program} {w : World} {base : Nat} {spare : Nat → Bool} {held : Bool} {fuel : Nat} {t : TypeId} {cs : List Value} {x : DataW H × List MemPlace} (ht : P.underlying t = some (.float .f64)) (h : DataW.trod enc P w base spare held fuel t cs = some x) : ∃ n, cs = [.float .f64 n] ∧ x = (.lit (.float .f64 n), []) ∧ (Lit.float .f64 n).wf = true := by
  cases fuel with
  | zero => simp [DataW.trod] at h
  | succ n =>
    unfold DataW.trod at h
    rw [ht] at h
    split at h <;> simp_all
theorem cellsSpan : Try.prog.cellsOf 31 = 4 := by kernel_rfl
theorem open_span {H : Type} {enc : TypeId × Value → H} {W : World} {base : Nat} {v : Value} {d : DataW H} {ps : List MemPlace} (hv : Value.okWide Try.prog W .any base 31 v) (h : DataW.Trod enc Try.prog W 0 (fun _ => true) true 31 v d ps) :
    ∃ (a b : Nat) (p q : Bool), v = .agg #[.float .f64 a, .float .f64 b, .bool p, .bool q] ∧ Fl.W a ∧ Fl.W b := by
  obtain ⟨v0, v1, v2, v3, y0, y1, y2, y3, m, rfl, _, _, h0, h1, h2, h3⟩ := open_agg4 Try.underlying31 (by kernel_rfl) cellsSpan hv h
  obtain ⟨a, e0, _, wa⟩ := trod_float Try.underlying23 h0
  obtain ⟨b, e1, _, wbb⟩ := trod_float Try.underlying23 h1
  obtain ⟨p, e2, _⟩ := DataW.trod_bool Try.underlying4 h2
  obtain ⟨q, e3, _⟩ := DataW.trod_bool Try.underlying4 h3
  simp at e0 e1 e2 e3; subst e0 e1 e2 e3
  exact ⟨a, b, p, q, rfl, wb wa, wb wbb⟩
theorem ent_of (args : Array Value) (w : World) : (callFunc 16 args).run Try.prog w = .ok (.enter 16 args) w := by kernel_rfl
theorem ent_at (args : Array Value) (w : World) : (callFunc 15 args).run Try.prog w = .ok (.enter 15 args) w := by kernel_rfl
theorem ent_rjoin (args : Array Value) (w : World) : (callFunc 24 args).run Try.prog w = .ok (.enter 24 args) w := by kernel_rfl
theorem ent_span (args : Array Value) (w : World) : (callFunc 19 args).run Try.prog w = .ok (.enter 19 args) w := by kernel_rfl
theorem ent_same (args : Array Value) (w : World) : (callFunc 18 args).run Try.prog w = .ok (.enter 18 args) w := by kernel_rfl
abbrev B3k (n a b : Nat) (p q : Bool) (m c d : Nat) (r s : Bool) (z u v : Nat) (e : Bool) (w : World) : Prop := (SpAt n a b p q w ∧ SpAt m c d r s w) ∧ SpAt z u v e e w
theorem B3k.up {n a b : Nat} {p q : Bool} {m c d : Nat} {r s : Bool} {z u v : Nat} {e : Bool} {W w' : World} (h : Up W w') (k : B3k n a b p q m c d r s z u v e W) : B3k n a b p q m c d r s z u v e w' := ⟨⟨SpAt.up h k.1.1, SpAt.up h k.1.2⟩, SpAt.up h k.2⟩
abbrev B4k (n a b : Nat) (p q : Bool) (m c d : Nat) (r s : Bool) (z u v : Nat) (e : Bool) (x l h : Nat) (w : World) : Prop := B3k n a b p q m c d r s z u v e w ∧ RgAt x l h w
theorem B4k.up {n a b : Nat} {p q : Bool} {m c d : Nat} {r s : Bool} {z u v : Nat} {e : Bool} {x l h : Nat} {W w' : World} (g : Up W w') (k : B4k n a b p q m c d r s z u v e x l h W) : B4k n a b p q m c d r s z u v e x l h w' := ⟨B3k.up g k.1, RgAt.up g k.2⟩
attribute [local go_sem] run_bits run_frombits run_store_float eqF
set_option maxHeartbeats 4000000 in
theorem core (a b c d L1 H1 L2 H2 L3 H3 JU JV : Nat) (p q r s JE K : Bool)
    (HJ0 : Hid (∀ w, Calls Try.prog 23 #[.agg #[.float .f64 4607182418800017408, .float .f64 4611686018427387904, .bool false, .bool true], .agg #[.float .f64 4611686018427387904, .float .f64 4613937818241073152, .bool false, .bool false]] w fun o w' => o = .returned (.tuple #[.agg #[.float .f64 4607182418800017408, .float .f64 4613937818241073152, .bool false, .bool false], .bool true]) ∧ Up w w')) (HAt : Hid (∀ w, Calls Try.prog 15 #[.float .f64 4607182418800017408, .float .f64 4613937818241073152] w fun o w' => o = .returned (.agg #[.float .f64 4607182418800017408, .float .f64 4613937818241073152, .bool false, .bool false]) ∧ Up w w'))
    (HJab : Hid (∀ w, Calls Try.prog 23 #[.agg #[.float .f64 a, .float .f64 b, .bool p, .bool q], .agg #[.float .f64 c, .float .f64 d, .bool r, .bool s]] w fun o w' => o = .returned (.tuple #[.agg #[.float .f64 JU, .float .f64 JV, .bool JE, .bool JE], .bool K]) ∧ Up w w')) (HOa : Hid (∀ w, Calls Try.prog 16 #[.agg #[.float .f64 a, .float .f64 b, .bool p, .bool q]] w fun o w' => o = .returned (.agg #[.int .u64 (L1 : Nat), .int .u64 (H1 : Nat)]) ∧ Up w w')) (HOb : Hid (∀ w, Calls Try.prog 16 #[.agg #[.float .f64 c, .float .f64 d, .bool r, .bool s]] w fun o w' => o = .returned (.agg #[.int .u64 (L2 : Nat), .int .u64 (H2 : Nat)]) ∧ Up w w')) (HRJ : Hid (∀ w, Calls Try.prog 24 #[.agg #[.int .u64 (L1 : Nat), .int .u64 (H1 : Nat)], .agg #[.int .u64 (L2 : Nat), .int .u64 (H2 : Nat)]] w fun o w' => o = .returned (.tuple #[.agg #[.int .u64 (L3 : Nat), .int .u64 (H3 : Nat)], .bool K]) ∧ Up w w')) (HSp : Hid (∀ w, Calls Try.prog 19 #[.agg #[.int .u64 (L3 : Nat), .int .u64 (H3 : Nat)]] w fun o w' => o = .returned (.agg #[.float .f64 JU, .float .f64 JV, .bool JE, .bool JE]) ∧ Up w w')) (HSS : Hid (∀ w, Calls Try.prog 18 #[.agg #[.float .f64 JU, .float .f64 JV, .bool JE, .bool JE], .agg #[.float .f64 JU, .float .f64 JV, .bool JE, .bool JE]] w fun o w' => o = .returned (.bool true) ∧ Up w w')) (w : World) :
    Calls Try.prog 5 #[.agg #[.float .f64 a, .float .f64 b, .bool p, .bool q], .agg #[.float .f64 c, .float .f64 d, .bool r, .bool s]] w fun o w' => o = .returned (.bool true) ∧ Up w w' := by
  have o1 : FloatKind.f64.format.order 4607182418800017408 4607182418800017408 = some .eq := by decide +kernel
  have o3 : FloatKind.f64.format.order 4613937818241073152 4613937818241073152 = some .eq := by decide +kernel
  go_enter Try.func5, Try.ntmps5
  go_upto_region 2 with (first | (go_at_call 15; refine (at_any _ _ _).mono ?_; rintro o w2 ⟨rfl, hb2⟩; have s2 : B2 w.heap.size a b p q (w.heap.size + 1) c d r s w2 := B2.up hb2 (by first | assumption | (simp [B2, SpAt]; done))) | (go_at_call 23; refine (HJ0.out _).mono ?_; rintro o w3 ⟨rfl, hw3⟩))
  have Uw2 : Up w w2 := (by repeat (first | exact Up.refl _ | assumption | refine Up.drew ?_ | refine Up.drewN ?_ _ | refine Up.alloc ?_ _ | refine Up.setCell ?_ ?_ _ | exact Nat.le_refl _ | exact Nat.le_add_right _ _ | (dsimp only; omega) | refine Up.trans ?_ ‹Up _ _›))
  obtain ⟨wp, hwp⟩ : ∃ wp, wp = w3.alloc (Obj.cells #[Value.float FloatKind.f64 4607182418800017408, Value.float FloatKind.f64 4613937818241073152, Value.bool false, Value.bool false] 31) := ⟨_, rfl⟩
  have Vwp : Up w2 wp := by rw [hwp]; exact hw3.alloc _
  have swp : SpAt w3.heap.size 4607182418800017408 4613937818241073152 false false wp := by rw [hwp]; simp [SpAt]
  rw [← hwp]
  generalize w3.heap.size = z0 at swp ⊢
  clear hwp hw3
  have s1 : B3k w.heap.size a b p q (w.heap.size + 1) c d r s z0 4607182418800017408 4613937818241073152 false wp := ⟨B2.up Vwp s2, swp⟩
  have Up1 : Up w wp := Uw2.trans Vwp
  clear s2 swp Vwp Uw2 hb2
  refine wp_region_noPanic ?_
  refine wp_region_held_drew (S := B3k w.heap.size a b p q (w.heap.size + 1) c d r s z0 4607182418800017408 4613937818241073152 false) (by kernel_rfl) ?_ (fun hHeld => ?_)
  · exact B3k.up ((Up.refl _).drew) s1
  (try simp only [Act.put]); (try simp only [List.setIfInBounds_toArray]); (try simp only [List.set_cons_succ]); (try simp only [List.set_cons_zero])
  clear hHeld
  refine wpAnyH_take (i := 0) (oi := { dst := some 17, op := Op.move (Operand.tmp 6), type := 4, pos := "law.go:54", after := #[], guard := none }) (v := ?vk142) rfl (by kernel_rfl) (by kernel_rfl) (by kernel_rfl) (fun _ _ _ h => h) (Or.inl ⟨by rfl, ?hk142⟩) (B3k.up ((Up.refl wp).drew) s1) ?rk142
  case hk142 => (intro wz hSw; (try dsimp only at hSw); go_simp; try with_reducible rfl)
  (try simp only [Act.put]); (try simp only [List.setIfInBounds_toArray]); (try simp only [List.set_cons_succ]); (try simp only [List.set_cons_zero])
  refine wpAnyH_take (i := 1) (oi := { dst := some 18, op := Op.unOp UnOp.not 4 (Operand.tmp 17), type := 4, pos := "law.go:54", after := #[{ on := 0, ground := Ground.data }], guard := none }) (v := ?vk143) rfl (by kernel_rfl) (by kernel_rfl) (by kernel_rfl) (fun _ _ _ h => h) (Or.inl ⟨by rfl, ?hk143⟩) (B3k.up ((Up.refl wp).drew) s1) ?rk143
  case hk143 => (intro wz hSw; (try dsimp only at hSw); go_simp; try with_reducible rfl)
  (try simp only [Act.put]); (try simp only [List.setIfInBounds_toArray]); (try simp only [List.set_cons_succ]); (try simp only [List.set_cons_zero])
  refine wpAnyH_take (i := 2) (oi := { dst := some 19, op := Op.move (Operand.tmp 18), type := 4, pos := "law.go:54", after := #[{ on := 1, ground := Ground.data }], guard := none }) (v := ?vk144) rfl (by kernel_rfl) (by kernel_rfl) (by kernel_rfl) (fun _ _ _ h => h) (Or.inl ⟨by rfl, ?hk144⟩) (B3k.up ((Up.refl wp).drew) s1) ?rk144
  case hk144 => (intro wz hSw; (try dsimp only at hSw); go_simp; try with_reducible rfl)
  (try simp only [Act.put]); (try simp only [List.setIfInBounds_toArray]); (try simp only [List.set_cons_succ]); (try simp only [List.set_cons_zero])
  refine wpAnyH_take (i := 3) (oi := { dst := some 20, op := Op.load 31 (Operand.tmp 5), type := 31, pos := "law.go:54", after := #[{ on := 2, ground := Ground.guard }], guard := some (2, false) }) (v := ?vk145) rfl (by kernel_rfl) (by kernel_rfl) (by kernel_rfl) (fun _ _ _ h => h) (Or.inl ⟨by rfl, ?hk145⟩) (B3k.up ((Up.refl wp).drew) s1) ?rk145
  case hk145 => (intro wz hSw; (try dsimp only at hSw); go_simp; try with_reducible rfl)
  (try simp only [Act.put]); (try simp only [List.setIfInBounds_toArray]); (try simp only [List.set_cons_succ]); (try simp only [List.set_cons_zero])
  refine wpAnyH_ready (rs := [4]) (by kernel_rfl) (by simp) ?_
  refine AllReadyH.cons (o := { dst := some 21, op := Op.call { callee := Callee.value (Operand.func 15), args := #[Operand.const (Value.float FloatKind.f64 4607182418800017408), Operand.const (Value.float FloatKind.f64 4613937818241073152)], argTypes := #[23, 23] }, type := 31, pos := "law.go:54", after := #[{ on := 2, ground := Ground.chain }, { on := 2, ground := Ground.guard }], guard := some (2, false) }) rfl (fun K hK => ?_) AllReadyH.nil
  refine wantCall2 ?_ 15 (.const (.float .f64 4607182418800017408)) (.const (.float .f64 4613937818241073152)) #[23, 23] ?_ (.float .f64 4607182418800017408) (.float .f64 4613937818241073152) ?_ ?_ ?_ (ent_at _ _) ?_
  · rfl
  · rfl
  · rfl
  · rfl
  · rfl
  refine (HAt.out _).mono ?_
  rintro o x146 ⟨rfl, b146⟩
  refine ⟨_, rfl, ?_⟩
  have U146 := ((Up.refl wp).drew).trans b146
  refine hK.out _ _ (B3k.up U146 s1) (fun _ => ?_)
  clear hK K
  (try simp only [Act.put]); (try simp only [List.setIfInBounds_toArray]); (try simp only [List.set_cons_succ]); (try simp only [List.set_cons_zero])
  refine wpAnyH_take (i := 5) (oi := { dst := some 22, op := Op.binOp BinOp.neq 31 (Operand.tmp 20) (Operand.tmp 21) 31, type := 4, pos := "law.go:54", after := #[{ on := 3, ground := Ground.data }, { on := 4, ground := Ground.data }, { on := 2, ground := Ground.guard }], guard := some (2, false) }) (v := ?vk147) rfl (by kernel_rfl) (by kernel_rfl) (by kernel_rfl) (fun _ _ _ h => h) (Or.inl ⟨by rfl, ?hk147⟩) (B3k.up U146 s1) ?rk147
  case hk147 => (intro wz hSw; (try dsimp only at hSw); go_simp; try with_reducible rfl)
  (try simp only [Act.put]); (try simp only [List.setIfInBounds_toArray]); (try simp only [List.set_cons_succ]); (try simp only [List.set_cons_zero])
  refine wpAnyH_take (i := 6) (oi := { dst := some 23, op := Op.pick (Operand.tmp 19) (Operand.const (Value.bool true)) (Operand.tmp 22), type := 4, pos := "law.go:54", after := #[{ on := 2, ground := Ground.data }, { on := 5, ground := Ground.data }], guard := none }) (v := ?vk148) rfl (by kernel_rfl) (by kernel_rfl) (by kernel_rfl) (fun _ _ _ h => h) (Or.inl ⟨by rfl, ?hk148⟩) (B3k.up U146 s1) ?rk148
  case hk148 => (intro wz hSw; (try dsimp only at hSw); go_simp; try with_reducible rfl)
  (try simp only [Act.put]); (try simp only [List.setIfInBounds_toArray]); (try simp only [List.set_cons_succ]); (try simp only [List.set_cons_zero])
  refine wpAnyH_done (by kernel_rfl) ?_ _
  refine NoPanic.normal ?_
  have UX : Up w x146 := Up1.trans U146
  have hX : B3k w.heap.size a b p q (w.heap.size + 1) c d r s z0 4607182418800017408 4613937818241073152 false x146 := B3k.up U146 s1
  generalize x146 = wx at UX hX ⊢
  go_upto_region 5 with (go_at_call 23; refine (HJab.out _).mono ?_; rintro o w5 ⟨rfl, hw5⟩)
  obtain ⟨wq, hwq⟩ : ∃ wq, wq = w5.alloc (Obj.cells #[Value.float FloatKind.f64 JU, Value.float FloatKind.f64 JV, Value.bool JE, Value.bool JE] 31) := ⟨_, rfl⟩
  have Vwq : Up wx wq := by rw [hwq]; exact hw5.alloc _
  have swq : SpAt w5.heap.size JU JV JE JE wq := by rw [hwq]; simp [SpAt]
  rw [← hwq]
  generalize w5.heap.size = z1 at swq ⊢
  clear hwq hw5
  have s2 : B3k w.heap.size a b p q (w.heap.size + 1) c d r s z1 JU JV JE wq := ⟨(B3k.up Vwq hX).1, swq⟩
  have U2 : Up w wq := UX.trans Vwq
  have HS2 := hid s2
  clear s2 swq Vwq UX hX HJab HJ0 HAt o1 o3
  go_cut [9, 10] (fun f g wx => ∃ m : Nat, f = .pointer (some ⟨m, 0, none⟩) ∧ g = .bool K ∧ RgAt m L3 H3 wx ∧ Up wq wx)
  case first =>
    refine wp_region_noPanic ?_
    refine wp_region_held_drew (S := B3k w.heap.size a b p q (w.heap.size + 1) c d r s z1 JU JV JE) (by kernel_rfl) ?_ (fun hHeld => ?_)
    · exact B3k.up ((Up.refl _).drew) HS2.out
    (try simp only [Act.put]); (try simp only [List.setIfInBounds_toArray]); (try simp only [List.set_cons_succ]); (try simp only [List.set_cons_zero])
    clear hHeld
    refine wpAnyH_take (i := 0) (oi := { dst := some 31, op := Op.load 31 (Operand.tmp 2), type := 31, pos := "law.go:58", after := #[], guard := none }) (v := ?vk149) rfl (by kernel_rfl) (by kernel_rfl) (by kernel_rfl) (fun _ _ _ h => h) (Or.inl ⟨by rfl, ?hk149⟩) (B3k.up (J2r.start wq).1 HS2.out) ?rk149
    case hk149 => (intro wz hSw; (try dsimp only at hSw); go_simp; try with_reducible rfl)
    (try simp only [Act.put]); (try simp only [List.setIfInBounds_toArray]); (try simp only [List.set_cons_succ]); (try simp only [List.set_cons_zero])
    refine wpAnyH_take (i := 2) (oi := { dst := some 33, op := Op.load 31 (Operand.tmp 3), type := 31, pos := "law.go:58", after := #[], guard := none }) (v := ?vk150) rfl (by kernel_rfl) (by kernel_rfl) (by kernel_rfl) (fun _ _ _ h => h) (Or.inl ⟨by rfl, ?hk150⟩) (B3k.up (J2r.start wq).1 HS2.out) ?rk150
    case hk150 => (intro wz hSw; (try dsimp only at hSw); go_simp; try with_reducible rfl)
    (try simp only [Act.put]); (try simp only [List.setIfInBounds_toArray]); (try simp only [List.set_cons_succ]); (try simp only [List.set_cons_zero])
    refine wpAnyH_ready (rs := [1, 8]) (by kernel_rfl) (by simp) ?_
    refine AllReadyH.cons (o := { dst := some 32, op := Op.call { callee := Callee.value (Operand.func 16), args := #[Operand.tmp 31], argTypes := #[31] }, type := 35, pos := "law.go:58", after := #[{ on := 0, ground := Ground.data }], guard := none }) rfl (fun K hK => ?_) (AllReadyH.cons (o := { dst := some 9, op := Op.alloc 35, type := 0, pos := "law.go:58", after := #[], guard := none }) rfl (fun K hK => ?_) AllReadyH.nil)
    · skip
      refine wantCall1 ?_ 16 (.tmp 31) #[31] ?_ (.agg #[.float .f64 a, .float .f64 b, .bool p, .bool q]) ?_ ?_ (ent_of _ _) ?_
      · rfl
      · rfl
      · rfl
      · rfl
      refine (HOa.out _).mono ?_
      rintro o x151 ⟨rfl, b151⟩
      refine ⟨_, rfl, ?_⟩
      have j151 := (J2r.start wq).up b151
      refine hK.out _ _ (B3k.up j151.1 HS2.out) (fun _ => ?_)
      clear hK K
      (try simp only [Act.put]); (try simp only [List.setIfInBounds_toArray]); (try simp only [List.set_cons_succ]); (try simp only [List.set_cons_zero])
      refine wpAnyH_ready (rs := [3, 8]) (by kernel_rfl) (by simp) ?_
      refine AllReadyH.cons (o := { dst := some 34, op := Op.call { callee := Callee.value (Operand.func 16), args := #[Operand.tmp 33], argTypes := #[31] }, type := 35, pos := "law.go:58", after := #[{ on := 2, ground := Ground.data }, { on := 1, ground := Ground.chain }], guard := none }) rfl (fun K hK => ?_) (AllReadyH.cons (o := { dst := some 9, op := Op.alloc 35, type := 0, pos := "law.go:58", after := #[], guard := none }) rfl (fun K hK => ?_) AllReadyH.nil)
      · skip
        refine wantCall1 ?_ 16 (.tmp 33) #[31] ?_ (.agg #[.float .f64 c, .float .f64 d, .bool r, .bool s]) ?_ ?_ (ent_of _ _) ?_
        · rfl
        · rfl
        · rfl
        · rfl
        refine (HOb.out _).mono ?_
        rintro o x152 ⟨rfl, b152⟩
        refine ⟨_, rfl, ?_⟩
        have j152 := j151.up b152
        refine hK.out _ _ (B3k.up j152.1 HS2.out) (fun _ => ?_)
        clear hK K
        (try simp only [Act.put]); (try simp only [List.setIfInBounds_toArray]); (try simp only [List.set_cons_succ]); (try simp only [List.set_cons_zero])
        refine wpAnyH_ready (rs := [4, 8]) (by kernel_rfl) (by simp) ?_
        refine AllReadyH.cons (o := { dst := some 35, op := Op.call { callee := Callee.value (Operand.func 24), args := #[Operand.tmp 32, Operand.tmp 34], argTypes := #[35, 35] }, type := 43, pos := "law.go:58", after := #[{ on := 1, ground := Ground.data }, { on := 3, ground := Ground.data }, { on := 3, ground := Ground.chain }], guard := none }) rfl (fun K hK => ?_) (AllReadyH.cons (o := { dst := some 9, op := Op.alloc 35, type := 0, pos := "law.go:58", after := #[], guard := none }) rfl (fun K hK => ?_) AllReadyH.nil)
        · skip
          refine wantCall2 ?_ 24 (.tmp 32) (.tmp 34) #[35, 35] ?_ (.agg #[.int .u64 (L1 : Nat), .int .u64 (H1 : Nat)]) (.agg #[.int .u64 (L2 : Nat), .int .u64 (H2 : Nat)]) ?_ ?_ ?_ (ent_rjoin _ _) ?_
          · rfl
          · rfl
          · rfl
          · rfl
          · rfl
          refine (HRJ.out _).mono ?_
          rintro o x153 ⟨rfl, b153⟩
          refine ⟨_, rfl, ?_⟩
          have j153 := j152.up b153
          refine hK.out _ _ (B3k.up j153.1 HS2.out) (fun _ => ?_)
          clear hK K
          (try simp only [Act.put]); (try simp only [List.setIfInBounds_toArray]); (try simp only [List.set_cons_succ]); (try simp only [List.set_cons_zero])
          refine wpAnyH_take (i := 5) (oi := { dst := some 30, op := Op.move (Operand.tmp 35), type := 43, pos := "law.go:58", after := #[{ on := 4, ground := Ground.data }], guard := none }) (v := ?vk154) rfl (by kernel_rfl) (by kernel_rfl) (by kernel_rfl) (fun _ _ _ h => h) (Or.inl ⟨by rfl, ?hk154⟩) (B3k.up j153.1 HS2.out) ?rk154
          case hk154 => (intro wz hSw; (try dsimp only at hSw); go_simp; try with_reducible rfl)
          (try simp only [Act.put]); (try simp only [List.setIfInBounds_toArray]); (try simp only [List.set_cons_succ]); (try simp only [List.set_cons_zero])
          refine wpAnyH_take (i := 6) (oi := { dst := some 36, op := Op.extract (Operand.tmp 30) 0, type := 35, pos := "law.go:58", after := #[{ on := 5, ground := Ground.data }], guard := none }) (v := ?vk155) rfl (by kernel_rfl) (by kernel_rfl) (by kernel_rfl) (fun _ _ _ h => h) (Or.inl ⟨by rfl, ?hk155⟩) (B3k.up j153.1 HS2.out) ?rk155
          case hk155 => (intro wz hSw; (try dsimp only at hSw); go_simp; try with_reducible rfl)
          (try simp only [Act.put]); (try simp only [List.setIfInBounds_toArray]); (try simp only [List.set_cons_succ]); (try simp only [List.set_cons_zero])
          refine wpAnyH_take (i := 7) (oi := { dst := some 37, op := Op.extract (Operand.tmp 30) 1, type := 4, pos := "law.go:58", after := #[{ on := 5, ground := Ground.data }, { on := 9, ground := Ground.gcOnly Departure.lateStores }], guard := none }) (v := ?vk156) rfl (by kernel_rfl) (by kernel_rfl) (by kernel_rfl) (fun _ _ _ h => h) (Or.inl ⟨by rfl, ?hk156⟩) (B3k.up j153.1 HS2.out) ?rk156
          case hk156 => (intro wz hSw; (try dsimp only at hSw); go_simp; try with_reducible rfl)
          (try simp only [Act.put]); (try simp only [List.setIfInBounds_toArray]); (try simp only [List.set_cons_succ]); (try simp only [List.set_cons_zero])
          refine wpAnyH_ready (rs := [8]) (by kernel_rfl) (by simp) ?_
          refine AllReadyH.cons (o := { dst := some 9, op := Op.alloc 35, type := 0, pos := "law.go:58", after := #[], guard := none }) rfl (fun K hK => ?_) AllReadyH.nil
          · skip
            refine stepAllocR ?_ ?_ ?_
            · rfl
            · rfl
            intro m157 x157 hm157 hx157
            have j157 := j153.nF hm157 hx157
            clear hm157 hx157
            refine hK.out _ _ (B3k.up j157.1 HS2.out) (fun _ => ?_)
            clear hK K
            (try simp only [Act.put]); (try simp only [List.setIfInBounds_toArray]); (try simp only [List.set_cons_succ]); (try simp only [List.set_cons_zero])
            refine wpAnyH_ready (rs := [9]) (by kernel_rfl) (by simp) ?_
            refine AllReadyH.cons (o := { dst := none, op := Op.store 35 (Operand.tmp 9) (Operand.tmp 36), type := 0, pos := "law.go:58", after := #[{ on := 8, ground := Ground.data }, { on := 6, ground := Ground.data }, { on := 4, ground := Ground.chain }, { on := 0, ground := Ground.phase }, { on := 1, ground := Ground.phase }, { on := 2, ground := Ground.phase }, { on := 3, ground := Ground.phase }, { on := 4, ground := Ground.phase }, { on := 5, ground := Ground.phase }, { on := 6, ground := Ground.phase }, { on := 7, ground := Ground.textOnly Departure.lateStores }, { on := 8, ground := Ground.phase }], guard := none }) rfl (fun K hK => ?_) AllReadyH.nil
            · skip
              refine stepStoreR ?_ (.tmp 9) (.tmp 36) ?_ m157 L3 H3 ?_ ?_ j157.thereF ?_
              · rfl
              · rfl
              · rfl
              · rfl
              refine hK.out _ _ (B3k.up (j157.upF _) HS2.out) (fun _ => ?_)
              clear hK K
              (try simp only [Act.put]); (try simp only [List.setIfInBounds_toArray]); (try simp only [List.set_cons_succ]); (try simp only [List.set_cons_zero])
              refine wpAnyH_ready (rs := [10]) (by kernel_rfl) (by simp) ?_
              refine AllReadyH.cons (o := { dst := some 10, op := Op.assign (Operand.tmp 37), type := 4, pos := "law.go:58", after := #[{ on := 7, ground := Ground.data }, { on := 9, ground := Ground.chain }, { on := 0, ground := Ground.phase }, { on := 1, ground := Ground.phase }, { on := 2, ground := Ground.phase }, { on := 3, ground := Ground.phase }, { on := 4, ground := Ground.phase }, { on := 5, ground := Ground.phase }, { on := 6, ground := Ground.phase }, { on := 7, ground := Ground.phase }, { on := 8, ground := Ground.phase }, { on := 9, ground := Ground.phase }], guard := none }) rfl (fun K hK => ?_) AllReadyH.nil
              · skip
                go_simp
                refine hK.out _ _ (B3k.up (j157.upF _) HS2.out) (fun _ => ?_)
                clear hK K
                (try simp only [Act.put]); (try simp only [List.setIfInBounds_toArray]); (try simp only [List.set_cons_succ]); (try simp only [List.set_cons_zero])
                refine wpAnyH_done (by kernel_rfl) ?_ _
                refine NoPanic.normal ?_
                go_wp2_with fail
                go_meet
                case rel => exact ⟨m157, rfl, rfl, (j157.2.1 _ rfl).2.stored L3 H3, j157.upF _⟩
        · skip
          refine stepAllocR ?_ ?_ ?_
          · rfl
          · rfl
          intro m158 x158 hm158 hx158
          have j158 := j152.nF hm158 hx158
          clear hm158 hx158
          refine hK.out _ _ (B3k.up j158.1 HS2.out) (fun _ => ?_)
          clear hK K
          (try simp only [Act.put]); (try simp only [List.setIfInBounds_toArray]); (try simp only [List.set_cons_succ]); (try simp only [List.set_cons_zero])
          refine wpAnyH_ready (rs := [4]) (by kernel_rfl) (by simp) ?_
          refine AllReadyH.cons (o := { dst := some 35, op := Op.call { callee := Callee.value (Operand.func 24), args := #[Operand.tmp 32, Operand.tmp 34], argTypes := #[35, 35] }, type := 43, pos := "law.go:58", after := #[{ on := 1, ground := Ground.data }, { on := 3, ground := Ground.data }, { on := 3, ground := Ground.chain }], guard := none }) rfl (fun K hK => ?_) AllReadyH.nil
          · skip
            refine wantCall2 ?_ 24 (.tmp 32) (.tmp 34) #[35, 35] ?_ (.agg #[.int .u64 (L1 : Nat), .int .u64 (H1 : Nat)]) (.agg #[.int .u64 (L2 : Nat), .int .u64 (H2 : Nat)]) ?_ ?_ ?_ (ent_rjoin _ _) ?_
            · rfl
            · rfl
            · rfl
            · rfl
            · rfl
            refine (HRJ.out _).mono ?_
            rintro o x159 ⟨rfl, b159⟩
            refine ⟨_, rfl, ?_⟩
            have j159 := j158.up b159
            refine hK.out _ _ (B3k.up j159.1 HS2.out) (fun _ => ?_)
            clear hK K
            (try simp only [Act.put]); (try simp only [List.setIfInBounds_toArray]); (try simp only [List.set_cons_succ]); (try simp only [List.set_cons_zero])
            refine wpAnyH_take (i := 5) (oi := { dst := some 30, op := Op.move (Operand.tmp 35), type := 43, pos := "law.go:58", after := #[{ on := 4, ground := Ground.data }], guard := none }) (v := ?vk160) rfl (by kernel_rfl) (by kernel_rfl) (by kernel_rfl) (fun _ _ _ h => h) (Or.inl ⟨by rfl, ?hk160⟩) (B3k.up j159.1 HS2.out) ?rk160
            case hk160 => (intro wz hSw; (try dsimp only at hSw); go_simp; try with_reducible rfl)
            (try simp only [Act.put]); (try simp only [List.setIfInBounds_toArray]); (try simp only [List.set_cons_succ]); (try simp only [List.set_cons_zero])
            refine wpAnyH_take (i := 6) (oi := { dst := some 36, op := Op.extract (Operand.tmp 30) 0, type := 35, pos := "law.go:58", after := #[{ on := 5, ground := Ground.data }], guard := none }) (v := ?vk161) rfl (by kernel_rfl) (by kernel_rfl) (by kernel_rfl) (fun _ _ _ h => h) (Or.inl ⟨by rfl, ?hk161⟩) (B3k.up j159.1 HS2.out) ?rk161
            case hk161 => (intro wz hSw; (try dsimp only at hSw); go_simp; try with_reducible rfl)
            (try simp only [Act.put]); (try simp only [List.setIfInBounds_toArray]); (try simp only [List.set_cons_succ]); (try simp only [List.set_cons_zero])
            refine wpAnyH_take (i := 7) (oi := { dst := some 37, op := Op.extract (Operand.tmp 30) 1, type := 4, pos := "law.go:58", after := #[{ on := 5, ground := Ground.data }, { on := 9, ground := Ground.gcOnly Departure.lateStores }], guard := none }) (v := ?vk162) rfl (by kernel_rfl) (by kernel_rfl) (by kernel_rfl) (fun _ _ _ h => h) (Or.inl ⟨by rfl, ?hk162⟩) (B3k.up j159.1 HS2.out) ?rk162
            case hk162 => (intro wz hSw; (try dsimp only at hSw); go_simp; try with_reducible rfl)
            (try simp only [Act.put]); (try simp only [List.setIfInBounds_toArray]); (try simp only [List.set_cons_succ]); (try simp only [List.set_cons_zero])
            refine wpAnyH_ready (rs := [9]) (by kernel_rfl) (by simp) ?_
            refine AllReadyH.cons (o := { dst := none, op := Op.store 35 (Operand.tmp 9) (Operand.tmp 36), type := 0, pos := "law.go:58", after := #[{ on := 8, ground := Ground.data }, { on := 6, ground := Ground.data }, { on := 4, ground := Ground.chain }, { on := 0, ground := Ground.phase }, { on := 1, ground := Ground.phase }, { on := 2, ground := Ground.phase }, { on := 3, ground := Ground.phase }, { on := 4, ground := Ground.phase }, { on := 5, ground := Ground.phase }, { on := 6, ground := Ground.phase }, { on := 7, ground := Ground.textOnly Departure.lateStores }, { on := 8, ground := Ground.phase }], guard := none }) rfl (fun K hK => ?_) AllReadyH.nil
            · skip
              refine stepStoreR ?_ (.tmp 9) (.tmp 36) ?_ m158 L3 H3 ?_ ?_ j159.thereF ?_
              · rfl
              · rfl
              · rfl
              · rfl
              refine hK.out _ _ (B3k.up (j159.upF _) HS2.out) (fun _ => ?_)
              clear hK K
              (try simp only [Act.put]); (try simp only [List.setIfInBounds_toArray]); (try simp only [List.set_cons_succ]); (try simp only [List.set_cons_zero])
              refine wpAnyH_ready (rs := [10]) (by kernel_rfl) (by simp) ?_
              refine AllReadyH.cons (o := { dst := some 10, op := Op.assign (Operand.tmp 37), type := 4, pos := "law.go:58", after := #[{ on := 7, ground := Ground.data }, { on := 9, ground := Ground.chain }, { on := 0, ground := Ground.phase }, { on := 1, ground := Ground.phase }, { on := 2, ground := Ground.phase }, { on := 3, ground := Ground.phase }, { on := 4, ground := Ground.phase }, { on := 5, ground := Ground.phase }, { on := 6, ground := Ground.phase }, { on := 7, ground := Ground.phase }, { on := 8, ground := Ground.phase }, { on := 9, ground := Ground.phase }], guard := none }) rfl (fun K hK => ?_) AllReadyH.nil
              · skip
                go_simp
                refine hK.out _ _ (B3k.up (j159.upF _) HS2.out) (fun _ => ?_)
                clear hK K
                (try simp only [Act.put]); (try simp only [List.setIfInBounds_toArray]); (try simp only [List.set_cons_succ]); (try simp only [List.set_cons_zero])
                refine wpAnyH_done (by kernel_rfl) ?_ _
                refine NoPanic.normal ?_
                go_wp2_with fail
                go_meet
                case rel => exact ⟨m158, rfl, rfl, (j159.2.1 _ rfl).2.stored L3 H3, j159.upF _⟩
      · skip
        refine stepAllocR ?_ ?_ ?_
        · rfl
        · rfl
        intro m163 x163 hm163 hx163
        have j163 := j151.nF hm163 hx163
        clear hm163 hx163
        refine hK.out _ _ (B3k.up j163.1 HS2.out) (fun _ => ?_)
        clear hK K
        (try simp only [Act.put]); (try simp only [List.setIfInBounds_toArray]); (try simp only [List.set_cons_succ]); (try simp only [List.set_cons_zero])
        refine wpAnyH_ready (rs := [3]) (by kernel_rfl) (by simp) ?_
        refine AllReadyH.cons (o := { dst := some 34, op := Op.call { callee := Callee.value (Operand.func 16), args := #[Operand.tmp 33], argTypes := #[31] }, type := 35, pos := "law.go:58", after := #[{ on := 2, ground := Ground.data }, { on := 1, ground := Ground.chain }], guard := none }) rfl (fun K hK => ?_) AllReadyH.nil
        · skip
          refine wantCall1 ?_ 16 (.tmp 33) #[31] ?_ (.agg #[.float .f64 c, .float .f64 d, .bool r, .bool s]) ?_ ?_ (ent_of _ _) ?_
          · rfl
          · rfl
          · rfl
          · rfl
          refine (HOb.out _).mono ?_
          rintro o x164 ⟨rfl, b164⟩
          refine ⟨_, rfl, ?_⟩
          have j164 := j163.up b164
          refine hK.out _ _ (B3k.up j164.1 HS2.out) (fun _ => ?_)
          clear hK K
          (try simp only [Act.put]); (try simp only [List.setIfInBounds_toArray]); (try simp only [List.set_cons_succ]); (try simp only [List.set_cons_zero])
          refine wpAnyH_ready (rs := [4]) (by kernel_rfl) (by simp) ?_
          refine AllReadyH.cons (o := { dst := some 35, op := Op.call { callee := Callee.value (Operand.func 24), args := #[Operand.tmp 32, Operand.tmp 34], argTypes := #[35, 35] }, type := 43, pos := "law.go:58", after := #[{ on := 1, ground := Ground.data }, { on := 3, ground := Ground.data }, { on := 3, ground := Ground.chain }], guard := none }) rfl (fun K hK => ?_) AllReadyH.nil
          · skip
            refine wantCall2 ?_ 24 (.tmp 32) (.tmp 34) #[35, 35] ?_ (.agg #[.int .u64 (L1 : Nat), .int .u64 (H1 : Nat)]) (.agg #[.int .u64 (L2 : Nat), .int .u64 (H2 : Nat)]) ?_ ?_ ?_ (ent_rjoin _ _) ?_
            · rfl
            · rfl
            · rfl
            · rfl
            · rfl
            refine (HRJ.out _).mono ?_
            rintro o x165 ⟨rfl, b165⟩
            refine ⟨_, rfl, ?_⟩
            have j165 := j164.up b165
            refine hK.out _ _ (B3k.up j165.1 HS2.out) (fun _ => ?_)
            clear hK K
            (try simp only [Act.put]); (try simp only [List.setIfInBounds_toArray]); (try simp only [List.set_cons_succ]); (try simp only [List.set_cons_zero])
            refine wpAnyH_take (i := 5) (oi := { dst := some 30, op := Op.move (Operand.tmp 35), type := 43, pos := "law.go:58", after := #[{ on := 4, ground := Ground.data }], guard := none }) (v := ?vk166) rfl (by kernel_rfl) (by kernel_rfl) (by kernel_rfl) (fun _ _ _ h => h) (Or.inl ⟨by rfl, ?hk166⟩) (B3k.up j165.1 HS2.out) ?rk166
            case hk166 => (intro wz hSw; (try dsimp only at hSw); go_simp; try with_reducible rfl)
            (try simp only [Act.put]); (try simp only [List.setIfInBounds_toArray]); (try simp only [List.set_cons_succ]); (try simp only [List.set_cons_zero])
            refine wpAnyH_take (i := 6) (oi := { dst := some 36, op := Op.extract (Operand.tmp 30) 0, type := 35, pos := "law.go:58", after := #[{ on := 5, ground := Ground.data }], guard := none }) (v := ?vk167) rfl (by kernel_rfl) (by kernel_rfl) (by kernel_rfl) (fun _ _ _ h => h) (Or.inl ⟨by rfl, ?hk167⟩) (B3k.up j165.1 HS2.out) ?rk167
            case hk167 => (intro wz hSw; (try dsimp only at hSw); go_simp; try with_reducible rfl)
            (try simp only [Act.put]); (try simp only [List.setIfInBounds_toArray]); (try simp only [List.set_cons_succ]); (try simp only [List.set_cons_zero])
            refine wpAnyH_take (i := 7) (oi := { dst := some 37, op := Op.extract (Operand.tmp 30) 1, type := 4, pos := "law.go:58", after := #[{ on := 5, ground := Ground.data }, { on := 9, ground := Ground.gcOnly Departure.lateStores }], guard := none }) (v := ?vk168) rfl (by kernel_rfl) (by kernel_rfl) (by kernel_rfl) (fun _ _ _ h => h) (Or.inl ⟨by rfl, ?hk168⟩) (B3k.up j165.1 HS2.out) ?rk168
            case hk168 => (intro wz hSw; (try dsimp only at hSw); go_simp; try with_reducible rfl)
            (try simp only [Act.put]); (try simp only [List.setIfInBounds_toArray]); (try simp only [List.set_cons_succ]); (try simp only [List.set_cons_zero])
            refine wpAnyH_ready (rs := [9]) (by kernel_rfl) (by simp) ?_
            refine AllReadyH.cons (o := { dst := none, op := Op.store 35 (Operand.tmp 9) (Operand.tmp 36), type := 0, pos := "law.go:58", after := #[{ on := 8, ground := Ground.data }, { on := 6, ground := Ground.data }, { on := 4, ground := Ground.chain }, { on := 0, ground := Ground.phase }, { on := 1, ground := Ground.phase }, { on := 2, ground := Ground.phase }, { on := 3, ground := Ground.phase }, { on := 4, ground := Ground.phase }, { on := 5, ground := Ground.phase }, { on := 6, ground := Ground.phase }, { on := 7, ground := Ground.textOnly Departure.lateStores }, { on := 8, ground := Ground.phase }], guard := none }) rfl (fun K hK => ?_) AllReadyH.nil
            · skip
              refine stepStoreR ?_ (.tmp 9) (.tmp 36) ?_ m163 L3 H3 ?_ ?_ j165.thereF ?_
              · rfl
              · rfl
              · rfl
              · rfl
              refine hK.out _ _ (B3k.up (j165.upF _) HS2.out) (fun _ => ?_)
              clear hK K
              (try simp only [Act.put]); (try simp only [List.setIfInBounds_toArray]); (try simp only [List.set_cons_succ]); (try simp only [List.set_cons_zero])
              refine wpAnyH_ready (rs := [10]) (by kernel_rfl) (by simp) ?_
              refine AllReadyH.cons (o := { dst := some 10, op := Op.assign (Operand.tmp 37), type := 4, pos := "law.go:58", after := #[{ on := 7, ground := Ground.data }, { on := 9, ground := Ground.chain }, { on := 0, ground := Ground.phase }, { on := 1, ground := Ground.phase }, { on := 2, ground := Ground.phase }, { on := 3, ground := Ground.phase }, { on := 4, ground := Ground.phase }, { on := 5, ground := Ground.phase }, { on := 6, ground := Ground.phase }, { on := 7, ground := Ground.phase }, { on := 8, ground := Ground.phase }, { on := 9, ground := Ground.phase }], guard := none }) rfl (fun K hK => ?_) AllReadyH.nil
              · skip
                go_simp
                refine hK.out _ _ (B3k.up (j165.upF _) HS2.out) (fun _ => ?_)
                clear hK K
                (try simp only [Act.put]); (try simp only [List.setIfInBounds_toArray]); (try simp only [List.set_cons_succ]); (try simp only [List.set_cons_zero])
                refine wpAnyH_done (by kernel_rfl) ?_ _
                refine NoPanic.normal ?_
                go_wp2_with fail
                go_meet
                case rel => exact ⟨m163, rfl, rfl, (j165.2.1 _ rfl).2.stored L3 H3, j165.upF _⟩
    · skip
      refine stepAllocR ?_ ?_ ?_
      · rfl
      · rfl
      intro m169 x169 hm169 hx169
      have j169 := (J2r.start wq).nF hm169 hx169
      clear hm169 hx169
      refine hK.out _ _ (B3k.up j169.1 HS2.out) (fun _ => ?_)
      clear hK K
      (try simp only [Act.put]); (try simp only [List.setIfInBounds_toArray]); (try simp only [List.set_cons_succ]); (try simp only [List.set_cons_zero])
      refine wpAnyH_ready (rs := [1]) (by kernel_rfl) (by simp) ?_
      refine AllReadyH.cons (o := { dst := some 32, op := Op.call { callee := Callee.value (Operand.func 16), args := #[Operand.tmp 31], argTypes := #[31] }, type := 35, pos := "law.go:58", after := #[{ on := 0, ground := Ground.data }], guard := none }) rfl (fun K hK => ?_) AllReadyH.nil
      · skip
        refine wantCall1 ?_ 16 (.tmp 31) #[31] ?_ (.agg #[.float .f64 a, .float .f64 b, .bool p, .bool q]) ?_ ?_ (ent_of _ _) ?_
        · rfl
        · rfl
        · rfl
        · rfl
        refine (HOa.out _).mono ?_
        rintro o x170 ⟨rfl, b170⟩
        refine ⟨_, rfl, ?_⟩
        have j170 := j169.up b170
        refine hK.out _ _ (B3k.up j170.1 HS2.out) (fun _ => ?_)
        clear hK K
        (try simp only [Act.put]); (try simp only [List.setIfInBounds_toArray]); (try simp only [List.set_cons_succ]); (try simp only [List.set_cons_zero])
        refine wpAnyH_ready (rs := [3]) (by kernel_rfl) (by simp) ?_
        refine AllReadyH.cons (o := { dst := some 34, op := Op.call { callee := Callee.value (Operand.func 16), args := #[Operand.tmp 33], argTypes := #[31] }, type := 35, pos := "law.go:58", after := #[{ on := 2, ground := Ground.data }, { on := 1, ground := Ground.chain }], guard := none }) rfl (fun K hK => ?_) AllReadyH.nil
        · skip
          refine wantCall1 ?_ 16 (.tmp 33) #[31] ?_ (.agg #[.float .f64 c, .float .f64 d, .bool r, .bool s]) ?_ ?_ (ent_of _ _) ?_
          · rfl
          · rfl
          · rfl
          · rfl
          refine (HOb.out _).mono ?_
          rintro o x171 ⟨rfl, b171⟩
          refine ⟨_, rfl, ?_⟩
          have j171 := j170.up b171
          refine hK.out _ _ (B3k.up j171.1 HS2.out) (fun _ => ?_)
          clear hK K
          (try simp only [Act.put]); (try simp only [List.setIfInBounds_toArray]); (try simp only [List.set_cons_succ]); (try simp only [List.set_cons_zero])
          refine wpAnyH_ready (rs := [4]) (by kernel_rfl) (by simp) ?_
          refine AllReadyH.cons (o := { dst := some 35, op := Op.call { callee := Callee.value (Operand.func 24), args := #[Operand.tmp 32, Operand.tmp 34], argTypes := #[35, 35] }, type := 43, pos := "law.go:58", after := #[{ on := 1, ground := Ground.data }, { on := 3, ground := Ground.data }, { on := 3, ground := Ground.chain }], guard := none }) rfl (fun K hK => ?_) AllReadyH.nil
          · skip
            refine wantCall2 ?_ 24 (.tmp 32) (.tmp 34) #[35, 35] ?_ (.agg #[.int .u64 (L1 : Nat), .int .u64 (H1 : Nat)]) (.agg #[.int .u64 (L2 : Nat), .int .u64 (H2 : Nat)]) ?_ ?_ ?_ (ent_rjoin _ _) ?_
            · rfl
            · rfl
            · rfl
            · rfl
            · rfl
            refine (HRJ.out _).mono ?_
            rintro o x172 ⟨rfl, b172⟩
            refine ⟨_, rfl, ?_⟩
            have j172 := j171.up b172
            refine hK.out _ _ (B3k.up j172.1 HS2.out) (fun _ => ?_)
            clear hK K
            (try simp only [Act.put]); (try simp only [List.setIfInBounds_toArray]); (try simp only [List.set_cons_succ]); (try simp only [List.set_cons_zero])
            refine wpAnyH_take (i := 5) (oi := { dst := some 30, op := Op.move (Operand.tmp 35), type := 43, pos := "law.go:58", after := #[{ on := 4, ground := Ground.data }], guard := none }) (v := ?vk173) rfl (by kernel_rfl) (by kernel_rfl) (by kernel_rfl) (fun _ _ _ h => h) (Or.inl ⟨by rfl, ?hk173⟩) (B3k.up j172.1 HS2.out) ?rk173
            case hk173 => (intro wz hSw; (try dsimp only at hSw); go_simp; try with_reducible rfl)
            (try simp only [Act.put]); (try simp only [List.setIfInBounds_toArray]); (try simp only [List.set_cons_succ]); (try simp only [List.set_cons_zero])
            refine wpAnyH_take (i := 6) (oi := { dst := some 36, op := Op.extract (Operand.tmp 30) 0, type := 35, pos := "law.go:58", after := #[{ on := 5, ground := Ground.data }], guard := none }) (v := ?vk174) rfl (by kernel_rfl) (by kernel_rfl) (by kernel_rfl) (fun _ _ _ h => h) (Or.inl ⟨by rfl, ?hk174⟩) (B3k.up j172.1 HS2.out) ?rk174
            case hk174 => (intro wz hSw; (try dsimp only at hSw); go_simp; try with_reducible rfl)
            (try simp only [Act.put]); (try simp only [List.setIfInBounds_toArray]); (try simp only [List.set_cons_succ]); (try simp only [List.set_cons_zero])
            refine wpAnyH_take (i := 7) (oi := { dst := some 37, op := Op.extract (Operand.tmp 30) 1, type := 4, pos := "law.go:58", after := #[{ on := 5, ground := Ground.data }, { on := 9, ground := Ground.gcOnly Departure.lateStores }], guard := none }) (v := ?vk175) rfl (by kernel_rfl) (by kernel_rfl) (by kernel_rfl) (fun _ _ _ h => h) (Or.inl ⟨by rfl, ?hk175⟩) (B3k.up j172.1 HS2.out) ?rk175
            case hk175 => (intro wz hSw; (try dsimp only at hSw); go_simp; try with_reducible rfl)
            (try simp only [Act.put]); (try simp only [List.setIfInBounds_toArray]); (try simp only [List.set_cons_succ]); (try simp only [List.set_cons_zero])
            refine wpAnyH_ready (rs := [9]) (by kernel_rfl) (by simp) ?_
            refine AllReadyH.cons (o := { dst := none, op := Op.store 35 (Operand.tmp 9) (Operand.tmp 36), type := 0, pos := "law.go:58", after := #[{ on := 8, ground := Ground.data }, { on := 6, ground := Ground.data }, { on := 4, ground := Ground.chain }, { on := 0, ground := Ground.phase }, { on := 1, ground := Ground.phase }, { on := 2, ground := Ground.phase }, { on := 3, ground := Ground.phase }, { on := 4, ground := Ground.phase }, { on := 5, ground := Ground.phase }, { on := 6, ground := Ground.phase }, { on := 7, ground := Ground.textOnly Departure.lateStores }, { on := 8, ground := Ground.phase }], guard := none }) rfl (fun K hK => ?_) AllReadyH.nil
            · skip
              refine stepStoreR ?_ (.tmp 9) (.tmp 36) ?_ m169 L3 H3 ?_ ?_ j172.thereF ?_
              · rfl
              · rfl
              · rfl
              · rfl
              refine hK.out _ _ (B3k.up (j172.upF _) HS2.out) (fun _ => ?_)
              clear hK K
              (try simp only [Act.put]); (try simp only [List.setIfInBounds_toArray]); (try simp only [List.set_cons_succ]); (try simp only [List.set_cons_zero])
              refine wpAnyH_ready (rs := [10]) (by kernel_rfl) (by simp) ?_
              refine AllReadyH.cons (o := { dst := some 10, op := Op.assign (Operand.tmp 37), type := 4, pos := "law.go:58", after := #[{ on := 7, ground := Ground.data }, { on := 9, ground := Ground.chain }, { on := 0, ground := Ground.phase }, { on := 1, ground := Ground.phase }, { on := 2, ground := Ground.phase }, { on := 3, ground := Ground.phase }, { on := 4, ground := Ground.phase }, { on := 5, ground := Ground.phase }, { on := 6, ground := Ground.phase }, { on := 7, ground := Ground.phase }, { on := 8, ground := Ground.phase }, { on := 9, ground := Ground.phase }], guard := none }) rfl (fun K hK => ?_) AllReadyH.nil
              · skip
                go_simp
                refine hK.out _ _ (B3k.up (j172.upF _) HS2.out) (fun _ => ?_)
                clear hK K
                (try simp only [Act.put]); (try simp only [List.setIfInBounds_toArray]); (try simp only [List.set_cons_succ]); (try simp only [List.set_cons_zero])
                refine wpAnyH_done (by kernel_rfl) ?_ _
                refine NoPanic.normal ?_
                go_wp2_with fail
                go_meet
                case rel => exact ⟨m169, rfl, rfl, (j172.2.1 _ rfl).2.stored L3 H3, j172.upF _⟩
  case rest =>
    obtain ⟨m, rfl, rfl, sm, U3⟩ := hcut
    have UC : Up w wc := U2.trans U3
    have hB4 : B4k w.heap.size a b p q (w.heap.size + 1) c d r s z1 JU JV JE m L3 H3 wc := ⟨B3k.up U3 HS2.out, sm⟩
    clear HS2 sm U3 U2 HOa HOb HRJ
    cases K
    · go_wp2_with fail
      refine wp_region_noPanic ?_
      refine wp_region_held_drew (S := B4k w.heap.size a b p q (w.heap.size + 1) c d r s z1 JU JV JE m L3 H3) (by kernel_rfl) ?_ (fun hHeld => ?_)
      · exact B4k.up ((Up.refl _).drew) hB4
      (try simp only [Act.put]); (try simp only [List.setIfInBounds_toArray]); (try simp only [List.set_cons_succ]); (try simp only [List.set_cons_zero])
      clear hHeld
      refine wpAnyH_take (i := 0) (oi := { dst := some 38, op := Op.move (Operand.tmp 8), type := 4, pos := "law.go:59", after := #[], guard := none }) (v := ?vk176) rfl (by kernel_rfl) (by kernel_rfl) (by kernel_rfl) (fun _ _ _ h => h) (Or.inl ⟨by rfl, ?hk176⟩) (B4k.up ((Up.refl wc).drew) hB4) ?rk176
      case hk176 => (intro wz hSw; (try dsimp only at hSw); go_simp; try with_reducible rfl)
      (try simp only [Act.put]); (try simp only [List.setIfInBounds_toArray]); (try simp only [List.set_cons_succ]); (try simp only [List.set_cons_zero])
      refine wpAnyH_take (i := 1) (oi := { dst := some 39, op := Op.move (Operand.tmp 10), type := 4, pos := "law.go:59", after := #[], guard := none }) (v := ?vk177) rfl (by kernel_rfl) (by kernel_rfl) (by kernel_rfl) (fun _ _ _ h => h) (Or.inl ⟨by rfl, ?hk177⟩) (B4k.up ((Up.refl wc).drew) hB4) ?rk177
      case hk177 => (intro wz hSw; (try dsimp only at hSw); go_simp; try with_reducible rfl)
      (try simp only [Act.put]); (try simp only [List.setIfInBounds_toArray]); (try simp only [List.set_cons_succ]); (try simp only [List.set_cons_zero])
      refine wpAnyH_take (i := 2) (oi := { dst := some 40, op := Op.binOp BinOp.eql 4 (Operand.tmp 38) (Operand.tmp 39) 4, type := 4, pos := "law.go:59", after := #[{ on := 0, ground := Ground.data }, { on := 1, ground := Ground.data }], guard := none }) (v := ?vk178) rfl (by kernel_rfl) (by kernel_rfl) (by kernel_rfl) (fun _ _ _ h => h) (Or.inl ⟨by rfl, ?hk178⟩) (B4k.up ((Up.refl wc).drew) hB4) ?rk178
      case hk178 => (intro wz hSw; (try dsimp only at hSw); go_simp; try with_reducible rfl)
      (try simp only [Act.put]); (try simp only [List.setIfInBounds_toArray]); (try simp only [List.set_cons_succ]); (try simp only [List.set_cons_zero])
      refine wpAnyH_take (i := 3) (oi := { dst := some 41, op := Op.move (Operand.tmp 40), type := 4, pos := "law.go:59", after := #[{ on := 2, ground := Ground.data }], guard := none }) (v := ?vk179) rfl (by kernel_rfl) (by kernel_rfl) (by kernel_rfl) (fun _ _ _ h => h) (Or.inl ⟨by rfl, ?hk179⟩) (B4k.up ((Up.refl wc).drew) hB4) ?rk179
      case hk179 => (intro wz hSw; (try dsimp only at hSw); go_simp; try with_reducible rfl)
      (try simp only [Act.put]); (try simp only [List.setIfInBounds_toArray]); (try simp only [List.set_cons_succ]); (try simp only [List.set_cons_zero])
      refine wpAnyH_take (i := 4) (oi := { dst := some 42, op := Op.load 31 (Operand.tmp 7), type := 31, pos := "law.go:59", after := #[{ on := 3, ground := Ground.guard }], guard := some (3, true) }) (v := ?vk180) rfl (by kernel_rfl) (by kernel_rfl) (by kernel_rfl) (fun _ _ _ h => h) (Or.inl ⟨by rfl, ?hk180⟩) (B4k.up ((Up.refl wc).drew) hB4) ?rk180
      case hk180 => (intro wz hSw; (try dsimp only at hSw); go_simp; try with_reducible rfl)
      (try simp only [Act.put]); (try simp only [List.setIfInBounds_toArray]); (try simp only [List.set_cons_succ]); (try simp only [List.set_cons_zero])
      refine wpAnyH_take (i := 5) (oi := { dst := some 43, op := Op.load 35 (Operand.tmp 9), type := 35, pos := "law.go:59", after := #[{ on := 3, ground := Ground.guard }], guard := some (3, true) }) (v := ?vk181) rfl (by kernel_rfl) (by kernel_rfl) (by kernel_rfl) (fun _ _ _ h => h) (Or.inl ⟨by rfl, ?hk181⟩) (B4k.up ((Up.refl wc).drew) hB4) ?rk181
      case hk181 => (intro wz hSw; (try dsimp only at hSw); go_simp; try with_reducible rfl)
      (try simp only [Act.put]); (try simp only [List.setIfInBounds_toArray]); (try simp only [List.set_cons_succ]); (try simp only [List.set_cons_zero])
      refine wpAnyH_ready (rs := [6]) (by kernel_rfl) (by simp) ?_
      refine AllReadyH.cons (o := { dst := some 44, op := Op.call { callee := Callee.value (Operand.func 19), args := #[Operand.tmp 43], argTypes := #[35] }, type := 31, pos := "law.go:59", after := #[{ on := 5, ground := Ground.data }, { on := 3, ground := Ground.chain }, { on := 3, ground := Ground.guard }], guard := some (3, true) }) rfl (fun K hK => ?_) AllReadyH.nil
      refine wantCall1 ?_ 19 (.tmp 43) #[35] ?_ (.agg #[.int .u64 (L3 : Nat), .int .u64 (H3 : Nat)]) ?_ ?_ (ent_span _ _) ?_
      · rfl
      · rfl
      · rfl
      · rfl
      refine (HSp.out _).mono ?_
      rintro o x182 ⟨rfl, b182⟩
      refine ⟨_, rfl, ?_⟩
      have U182 := ((Up.refl wc).drew).trans b182
      refine hK.out _ _ (B4k.up U182 hB4) (fun _ => ?_)
      clear hK K
      (try simp only [Act.put]); (try simp only [List.setIfInBounds_toArray]); (try simp only [List.set_cons_succ]); (try simp only [List.set_cons_zero])
      refine wpAnyH_ready (rs := [7]) (by kernel_rfl) (by simp) ?_
      refine AllReadyH.cons (o := { dst := some 45, op := Op.call { callee := Callee.value (Operand.func 18), args := #[Operand.tmp 42, Operand.tmp 44], argTypes := #[31, 31] }, type := 4, pos := "law.go:59", after := #[{ on := 4, ground := Ground.data }, { on := 6, ground := Ground.data }, { on := 6, ground := Ground.chain }, { on := 3, ground := Ground.guard }], guard := some (3, true) }) rfl (fun K hK => ?_) AllReadyH.nil
      refine wantCall2 ?_ 18 (.tmp 42) (.tmp 44) #[31, 31] ?_ (.agg #[.float .f64 JU, .float .f64 JV, .bool JE, .bool JE]) (.agg #[.float .f64 JU, .float .f64 JV, .bool JE, .bool JE]) ?_ ?_ ?_ (ent_same _ _) ?_
      · rfl
      · rfl
      · rfl
      · rfl
      · rfl
      refine (HSS.out _).mono ?_
      rintro o x183 ⟨rfl, b183⟩
      refine ⟨_, rfl, ?_⟩
      have U183 := U182.trans b183
      refine hK.out _ _ (B4k.up U183 hB4) (fun _ => ?_)
      clear hK K
      (try simp only [Act.put]); (try simp only [List.setIfInBounds_toArray]); (try simp only [List.set_cons_succ]); (try simp only [List.set_cons_zero])
      refine wpAnyH_take (i := 8) (oi := { dst := some 46, op := Op.pick (Operand.tmp 41) (Operand.tmp 45) (Operand.const (Value.bool false)), type := 4, pos := "law.go:59", after := #[{ on := 3, ground := Ground.data }, { on := 7, ground := Ground.data }], guard := none }) (v := ?vk184) rfl (by kernel_rfl) (by kernel_rfl) (by kernel_rfl) (fun _ _ _ h => h) (Or.inl ⟨by rfl, ?hk184⟩) (B4k.up U183 hB4) ?rk184
      case hk184 => (intro wz hSw; (try dsimp only at hSw); go_simp; try with_reducible rfl)
      (try simp only [Act.put]); (try simp only [List.setIfInBounds_toArray]); (try simp only [List.set_cons_succ]); (try simp only [List.set_cons_zero])
      refine wpAnyH_ready (rs := [9]) (by kernel_rfl) (by simp) ?_
      refine AllReadyH.cons (o := { dst := some 4, op := Op.assign (Operand.tmp 46), type := 4, pos := "law.go:59", after := #[{ on := 8, ground := Ground.data }, { on := 7, ground := Ground.chain }, { on := 0, ground := Ground.phase }, { on := 1, ground := Ground.phase }, { on := 2, ground := Ground.phase }, { on := 3, ground := Ground.phase }, { on := 4, ground := Ground.phase }, { on := 5, ground := Ground.phase }, { on := 6, ground := Ground.phase }, { on := 7, ground := Ground.phase }, { on := 8, ground := Ground.phase }], guard := none }) rfl (fun K hK => ?_) AllReadyH.nil
      go_simp
      refine hK.out _ _ (B4k.up U183 hB4) (fun _ => ?_)
      clear hK K
      (try simp only [Act.put]); (try simp only [List.setIfInBounds_toArray]); (try simp only [List.set_cons_succ]); (try simp only [List.set_cons_zero])
      refine wpAnyH_done (by kernel_rfl) ?_ _
      refine NoPanic.normal ?_
      go_wp2
      go_ret
      exact ⟨rfl, UC.trans U183⟩
    · go_wp2_with fail
      refine wp_region_noPanic ?_
      refine wp_region_held_drew (S := B4k w.heap.size a b p q (w.heap.size + 1) c d r s z1 JU JV JE m L3 H3) (by kernel_rfl) ?_ (fun hHeld => ?_)
      · exact B4k.up ((Up.refl _).drew) hB4
      (try simp only [Act.put]); (try simp only [List.setIfInBounds_toArray]); (try simp only [List.set_cons_succ]); (try simp only [List.set_cons_zero])
      clear hHeld
      refine wpAnyH_take (i := 0) (oi := { dst := some 38, op := Op.move (Operand.tmp 8), type := 4, pos := "law.go:59", after := #[], guard := none }) (v := ?vk185) rfl (by kernel_rfl) (by kernel_rfl) (by kernel_rfl) (fun _ _ _ h => h) (Or.inl ⟨by rfl, ?hk185⟩) (B4k.up ((Up.refl wc).drew) hB4) ?rk185
      case hk185 => (intro wz hSw; (try dsimp only at hSw); go_simp; try with_reducible rfl)
      (try simp only [Act.put]); (try simp only [List.setIfInBounds_toArray]); (try simp only [List.set_cons_succ]); (try simp only [List.set_cons_zero])
      refine wpAnyH_take (i := 1) (oi := { dst := some 39, op := Op.move (Operand.tmp 10), type := 4, pos := "law.go:59", after := #[], guard := none }) (v := ?vk186) rfl (by kernel_rfl) (by kernel_rfl) (by kernel_rfl) (fun _ _ _ h => h) (Or.inl ⟨by rfl, ?hk186⟩) (B4k.up ((Up.refl wc).drew) hB4) ?rk186
      case hk186 => (intro wz hSw; (try dsimp only at hSw); go_simp; try with_reducible rfl)
      (try simp only [Act.put]); (try simp only [List.setIfInBounds_toArray]); (try simp only [List.set_cons_succ]); (try simp only [List.set_cons_zero])
      refine wpAnyH_take (i := 2) (oi := { dst := some 40, op := Op.binOp BinOp.eql 4 (Operand.tmp 38) (Operand.tmp 39) 4, type := 4, pos := "law.go:59", after := #[{ on := 0, ground := Ground.data }, { on := 1, ground := Ground.data }], guard := none }) (v := ?vk187) rfl (by kernel_rfl) (by kernel_rfl) (by kernel_rfl) (fun _ _ _ h => h) (Or.inl ⟨by rfl, ?hk187⟩) (B4k.up ((Up.refl wc).drew) hB4) ?rk187
      case hk187 => (intro wz hSw; (try dsimp only at hSw); go_simp; try with_reducible rfl)
      (try simp only [Act.put]); (try simp only [List.setIfInBounds_toArray]); (try simp only [List.set_cons_succ]); (try simp only [List.set_cons_zero])
      refine wpAnyH_take (i := 3) (oi := { dst := some 41, op := Op.move (Operand.tmp 40), type := 4, pos := "law.go:59", after := #[{ on := 2, ground := Ground.data }], guard := none }) (v := ?vk188) rfl (by kernel_rfl) (by kernel_rfl) (by kernel_rfl) (fun _ _ _ h => h) (Or.inl ⟨by rfl, ?hk188⟩) (B4k.up ((Up.refl wc).drew) hB4) ?rk188
      case hk188 => (intro wz hSw; (try dsimp only at hSw); go_simp; try with_reducible rfl)
      (try simp only [Act.put]); (try simp only [List.setIfInBounds_toArray]); (try simp only [List.set_cons_succ]); (try simp only [List.set_cons_zero])
      refine wpAnyH_take (i := 4) (oi := { dst := some 42, op := Op.load 31 (Operand.tmp 7), type := 31, pos := "law.go:59", after := #[{ on := 3, ground := Ground.guard }], guard := some (3, true) }) (v := ?vk189) rfl (by kernel_rfl) (by kernel_rfl) (by kernel_rfl) (fun _ _ _ h => h) (Or.inl ⟨by rfl, ?hk189⟩) (B4k.up ((Up.refl wc).drew) hB4) ?rk189
      case hk189 => (intro wz hSw; (try dsimp only at hSw); go_simp; try with_reducible rfl)
      (try simp only [Act.put]); (try simp only [List.setIfInBounds_toArray]); (try simp only [List.set_cons_succ]); (try simp only [List.set_cons_zero])
      refine wpAnyH_take (i := 5) (oi := { dst := some 43, op := Op.load 35 (Operand.tmp 9), type := 35, pos := "law.go:59", after := #[{ on := 3, ground := Ground.guard }], guard := some (3, true) }) (v := ?vk190) rfl (by kernel_rfl) (by kernel_rfl) (by kernel_rfl) (fun _ _ _ h => h) (Or.inl ⟨by rfl, ?hk190⟩) (B4k.up ((Up.refl wc).drew) hB4) ?rk190
      case hk190 => (intro wz hSw; (try dsimp only at hSw); go_simp; try with_reducible rfl)
      (try simp only [Act.put]); (try simp only [List.setIfInBounds_toArray]); (try simp only [List.set_cons_succ]); (try simp only [List.set_cons_zero])
      refine wpAnyH_ready (rs := [6]) (by kernel_rfl) (by simp) ?_
      refine AllReadyH.cons (o := { dst := some 44, op := Op.call { callee := Callee.value (Operand.func 19), args := #[Operand.tmp 43], argTypes := #[35] }, type := 31, pos := "law.go:59", after := #[{ on := 5, ground := Ground.data }, { on := 3, ground := Ground.chain }, { on := 3, ground := Ground.guard }], guard := some (3, true) }) rfl (fun K hK => ?_) AllReadyH.nil
      refine wantCall1 ?_ 19 (.tmp 43) #[35] ?_ (.agg #[.int .u64 (L3 : Nat), .int .u64 (H3 : Nat)]) ?_ ?_ (ent_span _ _) ?_
      · rfl
      · rfl
      · rfl
      · rfl
      refine (HSp.out _).mono ?_
      rintro o x191 ⟨rfl, b191⟩
      refine ⟨_, rfl, ?_⟩
      have U191 := ((Up.refl wc).drew).trans b191
      refine hK.out _ _ (B4k.up U191 hB4) (fun _ => ?_)
      clear hK K
      (try simp only [Act.put]); (try simp only [List.setIfInBounds_toArray]); (try simp only [List.set_cons_succ]); (try simp only [List.set_cons_zero])
      refine wpAnyH_ready (rs := [7]) (by kernel_rfl) (by simp) ?_
      refine AllReadyH.cons (o := { dst := some 45, op := Op.call { callee := Callee.value (Operand.func 18), args := #[Operand.tmp 42, Operand.tmp 44], argTypes := #[31, 31] }, type := 4, pos := "law.go:59", after := #[{ on := 4, ground := Ground.data }, { on := 6, ground := Ground.data }, { on := 6, ground := Ground.chain }, { on := 3, ground := Ground.guard }], guard := some (3, true) }) rfl (fun K hK => ?_) AllReadyH.nil
      refine wantCall2 ?_ 18 (.tmp 42) (.tmp 44) #[31, 31] ?_ (.agg #[.float .f64 JU, .float .f64 JV, .bool JE, .bool JE]) (.agg #[.float .f64 JU, .float .f64 JV, .bool JE, .bool JE]) ?_ ?_ ?_ (ent_same _ _) ?_
      · rfl
      · rfl
      · rfl
      · rfl
      · rfl
      refine (HSS.out _).mono ?_
      rintro o x192 ⟨rfl, b192⟩
      refine ⟨_, rfl, ?_⟩
      have U192 := U191.trans b192
      refine hK.out _ _ (B4k.up U192 hB4) (fun _ => ?_)
      clear hK K
      (try simp only [Act.put]); (try simp only [List.setIfInBounds_toArray]); (try simp only [List.set_cons_succ]); (try simp only [List.set_cons_zero])
      refine wpAnyH_take (i := 8) (oi := { dst := some 46, op := Op.pick (Operand.tmp 41) (Operand.tmp 45) (Operand.const (Value.bool false)), type := 4, pos := "law.go:59", after := #[{ on := 3, ground := Ground.data }, { on := 7, ground := Ground.data }], guard := none }) (v := ?vk193) rfl (by kernel_rfl) (by kernel_rfl) (by kernel_rfl) (fun _ _ _ h => h) (Or.inl ⟨by rfl, ?hk193⟩) (B4k.up U192 hB4) ?rk193
      case hk193 => (intro wz hSw; (try dsimp only at hSw); go_simp; try with_reducible rfl)
      (try simp only [Act.put]); (try simp only [List.setIfInBounds_toArray]); (try simp only [List.set_cons_succ]); (try simp only [List.set_cons_zero])
      refine wpAnyH_ready (rs := [9]) (by kernel_rfl) (by simp) ?_
      refine AllReadyH.cons (o := { dst := some 4, op := Op.assign (Operand.tmp 46), type := 4, pos := "law.go:59", after := #[{ on := 8, ground := Ground.data }, { on := 7, ground := Ground.chain }, { on := 0, ground := Ground.phase }, { on := 1, ground := Ground.phase }, { on := 2, ground := Ground.phase }, { on := 3, ground := Ground.phase }, { on := 4, ground := Ground.phase }, { on := 5, ground := Ground.phase }, { on := 6, ground := Ground.phase }, { on := 7, ground := Ground.phase }, { on := 8, ground := Ground.phase }], guard := none }) rfl (fun K hK => ?_) AllReadyH.nil
      go_simp
      refine hK.out _ _ (B4k.up U192 hB4) (fun _ => ?_)
      clear hK K
      (try simp only [Act.put]); (try simp only [List.setIfInBounds_toArray]); (try simp only [List.set_cons_succ]); (try simp only [List.set_cons_zero])
      refine wpAnyH_done (by kernel_rfl) ?_ _
      refine NoPanic.normal ?_
      go_wp2
      go_ret
      exact ⟨rfl, UC.trans U192⟩



theorem walk (a0 b0 : Nat) (p0 q0 : Bool) (a1 b1 : Nat) (p1 q1 : Bool) (w : World) (w0 : Fl.W a0) (x0 : Fl.W b0) (w1 : Fl.W a1) (x1 : Fl.W b1) :
    Calls Try.prog 5 #[.agg #[.float .f64 a0, .float .f64 b0, .bool p0, .bool q0], .agg #[.float .f64 a1, .float .f64 b1, .bool p1, .bool q1]] w fun e w' => e = .returned (.bool true) ∧ Up w w' := by
  have F23 : Fl.IsForm 4611686018427387904 4613937818241073152 false := ⟨by unfold Fl.W; decide, by unfold Fl.W; decide, fun h => (by cases h), fun _ => by decide +kernel⟩
  have W1 : Fl.W 4607182418800017408 := by unfold Fl.W; decide
  have W2 : Fl.W 4611686018427387904 := by unfold Fl.W; decide
  have f0 := Fl.cs_isForm 4607182418800017408 4611686018427387904 false true W1 W2
  have HJ0 := fun w => join_at f0 F23 4607182418800017408 4611686018427387904 4611686018427387904 4613937818241073152 false true false false (fun w => canonS_any 4607182418800017408 4611686018427387904 W1 W2 false true w) (fun w => canon_form _ _ _ F23 w) w
  rw [show Fl.jU (Fl.csU 4607182418800017408 4611686018427387904 false true) (Fl.csV 4607182418800017408 4611686018427387904 false true) (Fl.csE 4607182418800017408 4611686018427387904 false true) 4611686018427387904 4613937818241073152 false = 4607182418800017408 by decide +kernel, show Fl.jV (Fl.csU 4607182418800017408 4611686018427387904 false true) (Fl.csV 4607182418800017408 4611686018427387904 false true) (Fl.csE 4607182418800017408 4611686018427387904 false true) 4611686018427387904 4613937818241073152 false = 4613937818241073152 by decide +kernel, show Fl.jE (Fl.csU 4607182418800017408 4611686018427387904 false true) (Fl.csV 4607182418800017408 4611686018427387904 false true) (Fl.csE 4607182418800017408 4611686018427387904 false true) 4611686018427387904 4613937818241073152 false = false by decide +kernel, show Fl.jK (Fl.csU 4607182418800017408 4611686018427387904 false true) (Fl.csV 4607182418800017408 4611686018427387904 false true) (Fl.csE 4607182418800017408 4611686018427387904 false true) 4611686018427387904 4613937818241073152 false = true by decide +kernel] at HJ0
  have f1 := Fl.cs_isForm a0 b0 p0 q0 w0 x0
  have f2 := Fl.cs_isForm a1 b1 p1 q1 w1 x1
  have f3 := Fl.join_form f1 f2
  have HOa := fun w => rOf_any a0 b0 w0 x0 p0 q0 w
  have HOb := fun w => rOf_any a1 b1 w1 x1 p1 q1 w
  have HA := fun w => canonS_any a0 b0 w0 x0 p0 q0 w
  have HB := fun w => canonS_any a1 b1 w1 x1 p1 q1 w
  have HSS := fun w => sameSpan_any (Fl.jU (Fl.csU a0 b0 p0 q0) (Fl.csV a0 b0 p0 q0) (Fl.csE a0 b0 p0 q0) (Fl.csU a1 b1 p1 q1) (Fl.csV a1 b1 p1 q1) (Fl.csE a1 b1 p1 q1)) (Fl.jV (Fl.csU a0 b0 p0 q0) (Fl.csV a0 b0 p0 q0) (Fl.csE a0 b0 p0 q0) (Fl.csU a1 b1 p1 q1) (Fl.csV a1 b1 p1 q1) (Fl.csE a1 b1 p1 q1)) (Fl.jU (Fl.csU a0 b0 p0 q0) (Fl.csV a0 b0 p0 q0) (Fl.csE a0 b0 p0 q0) (Fl.csU a1 b1 p1 q1) (Fl.csV a1 b1 p1 q1) (Fl.csE a1 b1 p1 q1)) (Fl.jV (Fl.csU a0 b0 p0 q0) (Fl.csV a0 b0 p0 q0) (Fl.csE a0 b0 p0 q0) (Fl.csU a1 b1 p1 q1) (Fl.csV a1 b1 p1 q1) (Fl.csE a1 b1 p1 q1)) (Fl.jE (Fl.csU a0 b0 p0 q0) (Fl.csV a0 b0 p0 q0) (Fl.csE a0 b0 p0 q0) (Fl.csU a1 b1 p1 q1) (Fl.csV a1 b1 p1 q1) (Fl.csE a1 b1 p1 q1)) (Fl.jE (Fl.csU a0 b0 p0 q0) (Fl.csV a0 b0 p0 q0) (Fl.csE a0 b0 p0 q0) (Fl.csU a1 b1 p1 q1) (Fl.csV a1 b1 p1 q1) (Fl.csE a1 b1 p1 q1)) (Fl.jE (Fl.csU a0 b0 p0 q0) (Fl.csV a0 b0 p0 q0) (Fl.csE a0 b0 p0 q0) (Fl.csU a1 b1 p1 q1) (Fl.csV a1 b1 p1 q1) (Fl.csE a1 b1 p1 q1)) (Fl.jE (Fl.csU a0 b0 p0 q0) (Fl.csV a0 b0 p0 q0) (Fl.csE a0 b0 p0 q0) (Fl.csU a1 b1 p1 q1) (Fl.csV a1 b1 p1 q1) (Fl.csE a1 b1 p1 q1)) w
  have tt : ∀ (E : Bool) (U V : Nat), ((E == E) && (E == E) && (decide (U = U) && decide (V = V))) = true := fun E U V => by simp
  rw [tt] at HSS
  exact core a0 b0 a1 b1 _ _ _ _ _ _ _ _ p0 q0 p1 q1 _ _ HJ0 (fun w => at_any _ _ w) (fun w => join_at f1 f2 a0 b0 a1 b1 p0 q0 p1 q1 HA HB w) HOa HOb (fun w => rJoin_form f1 f2 w) (fun w => rSpan_isForm f3 w) HSS w

set_option maxRecDepth 100000 in
theorem lifted (os : Os) (started : os.Started) (H : Type) (enc : TypeId × Value → H) :
    ReturnsInHanded {} Try.checked os 5 .any (Rows.spanJoinsSpec.pre6 enc Try.prog Try.f5 Rows.spanJoinsRow.domain false) (Rows.spanJoinsSpec.post enc Try.prog Try.f5 false true false false) := by
  refine returnsInHanded_of_change (C := Try.checked) own started (by kernel_rfl) Try.func5
    (ChangeSpec.witness6 (enc := enc) (C := Try.checked) false ⟨#[], #[.agg #[.float .f64 0, .float .f64 0, .bool false, .bool false], .agg #[.float .f64 0, .float .f64 0, .bool false, .bool false]], []⟩ 8 (by kernel_rfl) (by kernel_rfl) (by kernel_rfl) (by kernel_rfl)) ?_
  intro W base args ds gs before hval0 hW hcnd _
  have hval : ∀ (j : Nat) t v, Try.f5.params[j]? = some t → args[j]? = some v → Value.okWide Try.prog W .any base t v := hval0
  have hW' := hW
  obtain ⟨p, q, hA0, hV, rfl, hfz, hnd⟩ := hW
  have hA : DataW.TrodAll enc Try.prog W 0 (fun _ => true) true Try.f5.params.toList args.toList ds p := hA0
  rw [Try.params5] at hA hval
  obtain ⟨v0, vs0, d0, ds0, p0, q0, hargs, rfl, rfl, h0, r0⟩ := trodAll_cons hA
  obtain ⟨v1, vs1, d1, ds1, p1, q1, rfl, rfl, rfl, h1, r1⟩ := trodAll_cons r0
  obtain ⟨rfl, rfl, rfl⟩ := trodAll_nil r1
  obtain rfl : args = #[v0, v1] := by cases args; simp_all
  obtain ⟨rfl, rfl⟩ := trodVars_none hV
  have k0 := h0
  have lt0 : ∀ x ∈ p0, x.block < W.heap.size := by obtain ⟨m, hm⟩ := k0; exact DataW.trod_lt m _ _ _ hm
  obtain ⟨a0, b0, bp0, bq0, rfl, w0, x0⟩ := open_span (hval 0 31 v0 rfl rfl) h0
  have k1 := h1
  have lt1 : ∀ x ∈ p1, x.block < W.heap.size := by obtain ⟨m, hm⟩ := k1; exact DataW.trod_lt m _ _ _ hm
  obtain ⟨a1, b1, bp1, bq1, rfl, w1, x1⟩ := open_span (hval 1 31 v1 rfl rfl) h1
  clear hA0 hval0
  refine (walk a0 b0 bp0 bq0 a1 b1 bp1 bq1 W w0 x0 w1 x1).mono fun e W' ⟨he, bel⟩ => ?_
  subst he
  exact ⟨_, rfl, _, _, _, [], _, [], hW', trodAll_mk1 (shut_bool Try.underlying4 _), (trodAll_cons_mk (Below.trod laidOut (by kernel_rfl) (of_decide_eq_true (by kernel_rfl)) k0 bel lt0) (trodAll_cons_mk (Below.trod laidOut (by kernel_rfl) (of_decide_eq_true (by kernel_rfl)) k1 bel lt1) trodAll_mk0)), rfl, Below.frame bel _, fun h => by cases h⟩

theorem proved : Rows.SpanJoinsSaid :=
  OpenClaim.holds_of_wide 5 Try.f5 rfl rfl rfl rfl rfl rfl rfl ⟨rfl, rfl, rfl, rfl, rfl⟩ rfl rfl rfl rfl rfl (by kernel_rfl) Try.func5 (by kernel_rfl)
    (of_decide_eq_true (by kernel_rfl)) (by unfold Func.isWrapper; first | (rw [if_pos (by decide +kernel)]; kernel_rfl) | (rw [if_neg (by decide +kernel)]; exact ⟨rfl, rfl⟩))
    (fun os started H enc _ => lifted os started H enc)
end Go.Proofs.Ytnggkncmcbcceaa.spanJoinsDone
namespace Go.Proofs.Ytnggkncmcbcceaa
theorem spanJoins_holds : Rows.SpanJoinsSaid := spanJoinsDone.proved
#print axioms spanJoins_holds
end Go.Proofs.Ytnggkncmcbcceaa
