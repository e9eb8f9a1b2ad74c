/- Proved: for every two spans the law SpanMeets returns true, without a condition. -/
import Derived.Test.YtnggkncmcbcceaaMe
import Derived.Test.YtnggkncmcbcceaaMw
import Derived.ProofKit
import Derived.OpenShut
import Derived.Lib.SmallJoins
namespace Go.Proofs.Ytnggkncmcbcceaa.spanMeetsDone
open Go.ChangeShapes Go.WideShapes Go.ChangeAt Go.RowKit Go.Joins
set_option linter.unusedVariables false

theorem own : ownKnob Try.prog.godebug = none := by kernel_rfl
theorem laidOut : laidOutB Try.prog = true := by kernel_rfl
theorem wb {a : Nat} (h : (Lit.float .f64 a).wf = true) : Fl.W a := by simp [Lit.wf] at h; exact h
theorem trod_float {H : Type} {enc : TypeId × Value → H} {P : Program} {w : World} {base : Nat} {spare : Nat → Bool} {held : Bool} {fuel : Nat} {t : TypeId} {cs : List Value} {x : DataW H × List MemPlace} (ht : P.underlying t = some (.float .f64)) (h : DataW.trod enc P w base spare held fuel t cs = some x) : ∃ n, cs = [.float .f64 n] ∧ x = (.lit (.float .f64 n), []) ∧ (Lit.float .f64 n).wf = true := by
  cases fuel with
  | zero => simp [DataW.trod] at h
  | succ n =>
    unfold DataW.trod at h
    rw [ht] at h
    split at h <;> simp_all
theorem cellsSpan : Try.prog.cellsOf 31 = 4 := by kernel_rfl
theorem open_span {H : Type} {enc : TypeId × Value → H} {W : World} {base : Nat} {v : Value} {d : DataW H} {ps : List MemPlace} (hv : Value.okWide Try.prog W .any base 31 v) (h : DataW.Trod enc Try.prog W 0 (fun _ => true) true 31 v d ps) :
    ∃ (a b : Nat) (p q : Bool), v = .agg #[.float .f64 a, .float .f64 b, .bool p, .bool q] ∧ Fl.W a ∧ Fl.W b := by
  obtain ⟨v0, v1, v2, v3, y0, y1, y2, y3, m, rfl, _, _, h0, h1, h2, h3⟩ := open_agg4 Try.underlying31 (by kernel_rfl) cellsSpan hv h
  obtain ⟨a, e0, _, wa⟩ := trod_float Try.underlying23 h0
  obtain ⟨b, e1, _, wbb⟩ := trod_float Try.underlying23 h1
  obtain ⟨p, e2, _⟩ := DataW.trod_bool Try.underlying4 h2
  obtain ⟨q, e3, _⟩ := DataW.trod_bool Try.underlying4 h3
  simp at e0 e1 e2 e3; subst e0 e1 e2 e3
  exact ⟨a, b, p, q, rfl, wb wa, wb wbb⟩
theorem ent_of (args : Array Value) (w : World) : (callFunc 16 args).run Try.prog w = .ok (.enter 16 args) w := by kernel_rfl
theorem ent_meet (args : Array Value) (w : World) : (callFunc 14 args).run Try.prog w = .ok (.enter 14 args) w := by kernel_rfl
theorem ent_span (args : Array Value) (w : World) : (callFunc 19 args).run Try.prog w = .ok (.enter 19 args) w := by kernel_rfl
theorem ent_same (args : Array Value) (w : World) : (callFunc 18 args).run Try.prog w = .ok (.enter 18 args) w := by kernel_rfl
theorem ent_apart (args : Array Value) (w : World) : (callFunc 20 args).run Try.prog w = .ok (.enter 20 args) w := by kernel_rfl
theorem ent_rempty (args : Array Value) (w : World) : (callFunc 21 args).run Try.prog w = .ok (.enter 21 args) w := by kernel_rfl
theorem ent_within (args : Array Value) (w : World) : (callFunc 22 args).run Try.prog w = .ok (.enter 22 args) w := by kernel_rfl
attribute [local go_sem] run_bits run_frombits run_store_float eqF
set_option maxHeartbeats 4000000 in
theorem core (a b c d L1 H1 L2 H2 L3 H3 U V : Nat) (p q r s E e1 t z1 z2 : Bool)
    (HM0 : Hid (∀ w, Calls Try.prog 14 #[.agg #[.float .f64 4607182418800017408, .float .f64 4613937818241073152, .bool false, .bool false], .agg #[.float .f64 4611686018427387904, .float .f64 4617315517961601024, .bool false, .bool false]] w fun o w' => o = .returned (.agg #[.float .f64 4611686018427387904, .float .f64 4613937818241073152, .bool false, .bool false]) ∧ Up w w'))
    (HOa : Hid (∀ w, Calls Try.prog 16 #[.agg #[.float .f64 a, .float .f64 b, .bool p, .bool q]] w fun o w' => o = .returned (.agg #[.int .u64 (L1 : Nat), .int .u64 (H1 : Nat)]) ∧ Up w w')) (HOb : Hid (∀ w, Calls Try.prog 16 #[.agg #[.float .f64 c, .float .f64 d, .bool r, .bool s]] w fun o w' => o = .returned (.agg #[.int .u64 (L2 : Nat), .int .u64 (H2 : Nat)]) ∧ Up w w')) (HRM : Hid (∀ w, Calls Try.prog 17 #[.agg #[.int .u64 (L1 : Nat), .int .u64 (H1 : Nat)], .agg #[.int .u64 (L2 : Nat), .int .u64 (H2 : Nat)]] w fun o w' => o = .returned (.agg #[.int .u64 (L3 : Nat), .int .u64 (H3 : Nat)]) ∧ Up w w')) (HM : Hid (∀ w, Calls Try.prog 14 #[.agg #[.float .f64 a, .float .f64 b, .bool p, .bool q], .agg #[.float .f64 c, .float .f64 d, .bool r, .bool s]] w fun o w' => o = .returned (.agg #[.float .f64 U, .float .f64 V, .bool E, .bool E]) ∧ Up w w')) (HSp : Hid (∀ w, Calls Try.prog 19 #[.agg #[.int .u64 (L3 : Nat), .int .u64 (H3 : Nat)]] w fun o w' => o = .returned (.agg #[.float .f64 U, .float .f64 V, .bool E, .bool E]) ∧ Up w w')) (HSS : Hid (∀ w, Calls Try.prog 18 #[.agg #[.float .f64 U, .float .f64 V, .bool E, .bool E], .agg #[.float .f64 U, .float .f64 V, .bool E, .bool E]] w fun o w' => o = .returned (.bool true) ∧ Up w w'))
    (HAp : Hid (∀ w, Calls Try.prog 20 #[.agg #[.float .f64 a, .float .f64 b, .bool p, .bool q], .agg #[.float .f64 c, .float .f64 d, .bool r, .bool s]] w fun o w' => o = .returned (.bool E) ∧ Up w w')) (HE3 : Hid (∀ w, Calls Try.prog 21 #[.agg #[.int .u64 (L3 : Nat), .int .u64 (H3 : Nat)]] w fun o w' => o = .returned (.bool E) ∧ Up w w')) (HW : Hid (∀ w, Calls Try.prog 22 #[.agg #[.float .f64 a, .float .f64 b, .bool p, .bool q], .agg #[.float .f64 c, .float .f64 d, .bool r, .bool s]] w fun o w' => o = .returned (.bool t) ∧ Up w w')) (HE1 : Hid (∀ w, Calls Try.prog 21 #[.agg #[.int .u64 (L1 : Nat), .int .u64 (H1 : Nat)]] w fun o w' => o = .returned (.bool e1) ∧ Up w w'))
    (hz1 : ((L3 : Int) == (L1 : Int)) = z1) (hz2 : ((H3 : Int) == (H1 : Int)) = z2) (ht : t = (e1 || (z1 && z2))) (w : World) :
    Calls Try.prog 4 #[.agg #[.float .f64 a, .float .f64 b, .bool p, .bool q], .agg #[.float .f64 c, .float .f64 d, .bool r, .bool s]] w fun o w' => o = .returned (.bool true) ∧ Up w w' := by
  have o2 : FloatKind.f64.format.order 4611686018427387904 4611686018427387904 = some .eq := by decide +kernel
  have o3 : FloatKind.f64.format.order 4613937818241073152 4613937818241073152 = some .eq := by decide +kernel
  go_enter Try.func4, Try.ntmps4
  go_upto_region 3 with (first | (go_at_call 15; refine (at_any _ _ _).mono ?_; rintro o w2 ⟨rfl, hb2⟩; have s2 : B2 w.heap.size a b p q (w.heap.size + 1) c d r s w2 := B2.up hb2 (by first | assumption | (simp [B2, SpAt]; done))) | (go_at_call 14; refine (HM0.out _).mono ?_; rintro o w3 ⟨rfl, hb3⟩; have s3 : B2 w.heap.size a b p q (w.heap.size + 1) c d r s w3 := B2.up hb3 (by assumption)))
  have U2 : Up w w2 := (by repeat (first | exact Up.refl _ | assumption | refine Up.drew ?_ | refine Up.drewN ?_ _ | refine Up.alloc ?_ _ | refine Up.setCell ?_ ?_ _ | exact Nat.le_refl _ | exact Nat.le_add_right _ _ | (dsimp only; omega) | refine Up.trans ?_ ‹Up _ _›))
  have HB2 := hid s2
  go_cut [5, 6] (fun f g wx => ∃ m n : Nat, f = .pointer (some ⟨m, 0, none⟩) ∧ g = .pointer (some ⟨n, 0, none⟩) ∧ RgAt m L1 H1 wx ∧ RgAt n L2 H2 wx ∧ Up w2 wx)
  case first =>
    refine wp_region_noPanic ?_
    refine wp_region_held_drew (S := B2 w.heap.size a b p q (w.heap.size + 1) c d r s) (by kernel_rfl) ?_ (fun hHeld => ?_)
    · exact B2.up ((Up.refl _).drew) s2
    (try simp only [Act.put]); (try simp only [List.setIfInBounds_toArray]); (try simp only [List.set_cons_succ]); (try simp only [List.set_cons_zero])
    clear hHeld
    refine wpAnyH_take (i := 0) (oi := { dst := some 13, op := Op.load 31 (Operand.tmp 2), type := 31, pos := "law.go:46", after := #[], guard := none }) (v := ?vk1) rfl (by kernel_rfl) (by kernel_rfl) (by kernel_rfl) (fun _ _ _ h => h) (Or.inl ⟨by rfl, ?hk1⟩) (B2.up (J2r.start w2).1 s2) ?rk1
    case hk1 => (intro wz hSw; (try dsimp only at hSw); go_simp; try with_reducible rfl)
    (try simp only [Act.put]); (try simp only [List.setIfInBounds_toArray]); (try simp only [List.set_cons_succ]); (try simp only [List.set_cons_zero])
    refine wpAnyH_take (i := 2) (oi := { dst := some 15, op := Op.load 31 (Operand.tmp 3), type := 31, pos := "law.go:46", after := #[], guard := none }) (v := ?vk2) rfl (by kernel_rfl) (by kernel_rfl) (by kernel_rfl) (fun _ _ _ h => h) (Or.inl ⟨by rfl, ?hk2⟩) (B2.up (J2r.start w2).1 s2) ?rk2
    case hk2 => (intro wz hSw; (try dsimp only at hSw); go_simp; try with_reducible rfl)
    (try simp only [Act.put]); (try simp only [List.setIfInBounds_toArray]); (try simp only [List.set_cons_succ]); (try simp only [List.set_cons_zero])
    refine wpAnyH_ready (rs := [1, 4, 5]) (by kernel_rfl) (by simp) ?_
    refine AllReadyH.cons (o := { dst := some 14, op := Op.call { callee := Callee.value (Operand.func 16), args := #[Operand.tmp 13], argTypes := #[31] }, type := 35, pos := "law.go:46", after := #[{ on := 0, ground := Ground.data }], guard := none }) rfl (fun K hK => ?_) (AllReadyH.cons (o := { dst := some 5, op := Op.alloc 35, type := 0, pos := "law.go:46", after := #[], guard := none }) rfl (fun K hK => ?_) (AllReadyH.cons (o := { dst := some 6, op := Op.alloc 35, type := 0, pos := "law.go:46", after := #[], guard := none }) rfl (fun K hK => ?_) AllReadyH.nil))
    · skip
      refine stepCall1 ?_ 16 (.tmp 13) #[31] ?_ (.agg #[.float .f64 a, .float .f64 b, .bool p, .bool q]) ?_ ?_ (ent_of _ _) ?_
      · rfl
      · rfl
      · rfl
      · rfl
      refine (HOa.out _).mono ?_
      rintro o x3 ⟨rfl, b3⟩
      refine ⟨_, rfl, ?_⟩
      have j3 := (J2r.start w2).up b3
      refine hK.out _ _ (B2.up j3.1 s2) (fun _ => ?_)
      clear hK K
      (try simp only [Act.put]); (try simp only [List.setIfInBounds_toArray]); (try simp only [List.set_cons_succ]); (try simp only [List.set_cons_zero])
      refine wpAnyH_ready (rs := [3, 4, 5]) (by kernel_rfl) (by simp) ?_
      refine AllReadyH.cons (o := { dst := some 16, op := Op.call { callee := Callee.value (Operand.func 16), args := #[Operand.tmp 15], argTypes := #[31] }, type := 35, pos := "law.go:46", after := #[{ on := 2, ground := Ground.data }, { on := 1, ground := Ground.chain }], guard := none }) rfl (fun K hK => ?_) (AllReadyH.cons (o := { dst := some 5, op := Op.alloc 35, type := 0, pos := "law.go:46", after := #[], guard := none }) rfl (fun K hK => ?_) (AllReadyH.cons (o := { dst := some 6, op := Op.alloc 35, type := 0, pos := "law.go:46", after := #[], guard := none }) rfl (fun K hK => ?_) AllReadyH.nil))
      · skip
        refine stepCall1 ?_ 16 (.tmp 15) #[31] ?_ (.agg #[.float .f64 c, .float .f64 d, .bool r, .bool s]) ?_ ?_ (ent_of _ _) ?_
        · rfl
        · rfl
        · rfl
        · rfl
        refine (HOb.out _).mono ?_
        rintro o x4 ⟨rfl, b4⟩
        refine ⟨_, rfl, ?_⟩
        have j4 := j3.up b4
        refine hK.out _ _ (B2.up j4.1 s2) (fun _ => ?_)
        clear hK K
        (try simp only [Act.put]); (try simp only [List.setIfInBounds_toArray]); (try simp only [List.set_cons_succ]); (try simp only [List.set_cons_zero])
        refine wpAnyH_ready (rs := [4, 5]) (by kernel_rfl) (by simp) ?_
        refine AllReadyH.cons (o := { dst := some 5, op := Op.alloc 35, type := 0, pos := "law.go:46", after := #[], guard := none }) rfl (fun K hK => ?_) (AllReadyH.cons (o := { dst := some 6, op := Op.alloc 35, type := 0, pos := "law.go:46", after := #[], guard := none }) rfl (fun K hK => ?_) AllReadyH.nil)
        · skip
          refine stepAllocR ?_ ?_ ?_
          · rfl
          · rfl
          intro m5 x5 hm5 hx5
          have j5 := j4.nF hm5 hx5
          clear hm5 hx5
          refine hK.out _ _ (B2.up j5.1 s2) (fun _ => ?_)
          clear hK K
          (try simp only [Act.put]); (try simp only [List.setIfInBounds_toArray]); (try simp only [List.set_cons_succ]); (try simp only [List.set_cons_zero])
          refine wpAnyH_ready (rs := [5]) (by kernel_rfl) (by simp) ?_
          refine AllReadyH.cons (o := { dst := some 6, op := Op.alloc 35, type := 0, pos := "law.go:46", after := #[], guard := none }) rfl (fun K hK => ?_) AllReadyH.nil
          · skip
            refine stepAllocR ?_ ?_ ?_
            · rfl
            · rfl
            intro m6 x6 hm6 hx6
            have j6 := j5.nG hm6 hx6
            clear hm6 hx6
            refine hK.out _ _ (B2.up j6.1 s2) (fun _ => ?_)
            clear hK K
            (try simp only [Act.put]); (try simp only [List.setIfInBounds_toArray]); (try simp only [List.set_cons_succ]); (try simp only [List.set_cons_zero])
            refine wpAnyH_ready (rs := [6]) (by kernel_rfl) (by simp) ?_
            refine AllReadyH.cons (o := { dst := none, op := Op.store 35 (Operand.tmp 5) (Operand.tmp 14), type := 0, pos := "law.go:46", after := #[{ on := 4, ground := Ground.data }, { on := 1, ground := Ground.data }, { on := 3, ground := Ground.chain }, { on := 0, ground := Ground.phase }, { on := 1, ground := Ground.phase }, { on := 2, ground := Ground.textOnly Departure.lateStores }, { on := 3, ground := Ground.textOnly Departure.lateStoresUnsure }, { on := 4, ground := Ground.phase }, { on := 5, ground := Ground.phase }], guard := none }) rfl (fun K hK => ?_) AllReadyH.nil
            · skip
              refine stepStoreR ?_ (.tmp 5) (.tmp 14) ?_ m5 L1 H1 ?_ ?_ j6.thereF ?_
              · rfl
              · rfl
              · rfl
              · rfl
              refine hK.out _ _ (B2.up (j6.upF _) s2) (fun _ => ?_)
              clear hK K
              (try simp only [Act.put]); (try simp only [List.setIfInBounds_toArray]); (try simp only [List.set_cons_succ]); (try simp only [List.set_cons_zero])
              refine wpAnyH_ready (rs := [7]) (by kernel_rfl) (by simp) ?_
              refine AllReadyH.cons (o := { dst := none, op := Op.store 35 (Operand.tmp 6) (Operand.tmp 16), type := 0, pos := "law.go:46", after := #[{ on := 5, ground := Ground.data }, { on := 3, ground := Ground.data }, { on := 6, ground := Ground.chain }, { on := 0, ground := Ground.phase }, { on := 1, ground := Ground.phase }, { on := 2, ground := Ground.phase }, { on := 3, ground := Ground.phase }, { on := 4, ground := Ground.phase }, { on := 5, ground := Ground.phase }, { on := 6, ground := Ground.phase }], guard := none }) rfl (fun K hK => ?_) AllReadyH.nil
              · skip
                refine stepStoreR ?_ (.tmp 6) (.tmp 16) ?_ m6 L2 H2 ?_ ?_ (j6.thereG _) ?_
                · rfl
                · rfl
                · rfl
                · rfl
                refine hK.out _ _ (B2.up (j6.fin L1 H1 L2 H2).2.2 s2) (fun _ => ?_)
                clear hK K
                (try simp only [Act.put]); (try simp only [List.setIfInBounds_toArray]); (try simp only [List.set_cons_succ]); (try simp only [List.set_cons_zero])
                refine wpAnyH_done (by kernel_rfl) ?_ _
                refine NoPanic.normal ?_
                go_wp2_with fail
                go_meet
                case rel => exact ⟨m5, m6, rfl, rfl, j6.fin L1 H1 L2 H2⟩
        · skip
          refine stepAllocR ?_ ?_ ?_
          · rfl
          · rfl
          intro m7 x7 hm7 hx7
          have j7 := j4.nG hm7 hx7
          clear hm7 hx7
          refine hK.out _ _ (B2.up j7.1 s2) (fun _ => ?_)
          clear hK K
          (try simp only [Act.put]); (try simp only [List.setIfInBounds_toArray]); (try simp only [List.set_cons_succ]); (try simp only [List.set_cons_zero])
          refine wpAnyH_ready (rs := [4]) (by kernel_rfl) (by simp) ?_
          refine AllReadyH.cons (o := { dst := some 5, op := Op.alloc 35, type := 0, pos := "law.go:46", after := #[], guard := none }) rfl (fun K hK => ?_) AllReadyH.nil
          · skip
            refine stepAllocR ?_ ?_ ?_
            · rfl
            · rfl
            intro m8 x8 hm8 hx8
            have j8 := j7.nF hm8 hx8
            clear hm8 hx8
            refine hK.out _ _ (B2.up j8.1 s2) (fun _ => ?_)
            clear hK K
            (try simp only [Act.put]); (try simp only [List.setIfInBounds_toArray]); (try simp only [List.set_cons_succ]); (try simp only [List.set_cons_zero])
            refine wpAnyH_ready (rs := [6]) (by kernel_rfl) (by simp) ?_
            refine AllReadyH.cons (o := { dst := none, op := Op.store 35 (Operand.tmp 5) (Operand.tmp 14), type := 0, pos := "law.go:46", after := #[{ on := 4, ground := Ground.data }, { on := 1, ground := Ground.data }, { on := 3, ground := Ground.chain }, { on := 0, ground := Ground.phase }, { on := 1, ground := Ground.phase }, { on := 2, ground := Ground.textOnly Departure.lateStores }, { on := 3, ground := Ground.textOnly Departure.lateStoresUnsure }, { on := 4, ground := Ground.phase }, { on := 5, ground := Ground.phase }], guard := none }) rfl (fun K hK => ?_) AllReadyH.nil
            · skip
              refine stepStoreR ?_ (.tmp 5) (.tmp 14) ?_ m8 L1 H1 ?_ ?_ j8.thereF ?_
              · rfl
              · rfl
              · rfl
              · rfl
              refine hK.out _ _ (B2.up (j8.upF _) s2) (fun _ => ?_)
              clear hK K
              (try simp only [Act.put]); (try simp only [List.setIfInBounds_toArray]); (try simp only [List.set_cons_succ]); (try simp only [List.set_cons_zero])
              refine wpAnyH_ready (rs := [7]) (by kernel_rfl) (by simp) ?_
              refine AllReadyH.cons (o := { dst := none, op := Op.store 35 (Operand.tmp 6) (Operand.tmp 16), type := 0, pos := "law.go:46", after := #[{ on := 5, ground := Ground.data }, { on := 3, ground := Ground.data }, { on := 6, ground := Ground.chain }, { on := 0, ground := Ground.phase }, { on := 1, ground := Ground.phase }, { on := 2, ground := Ground.phase }, { on := 3, ground := Ground.phase }, { on := 4, ground := Ground.phase }, { on := 5, ground := Ground.phase }, { on := 6, ground := Ground.phase }], guard := none }) rfl (fun K hK => ?_) AllReadyH.nil
              · skip
                refine stepStoreR ?_ (.tmp 6) (.tmp 16) ?_ m7 L2 H2 ?_ ?_ (j8.thereG _) ?_
                · rfl
                · rfl
                · rfl
                · rfl
                refine hK.out _ _ (B2.up (j8.fin L1 H1 L2 H2).2.2 s2) (fun _ => ?_)
                clear hK K
                (try simp only [Act.put]); (try simp only [List.setIfInBounds_toArray]); (try simp only [List.set_cons_succ]); (try simp only [List.set_cons_zero])
                refine wpAnyH_done (by kernel_rfl) ?_ _
                refine NoPanic.normal ?_
                go_wp2_with fail
                go_meet
                case rel => exact ⟨m8, m7, rfl, rfl, j8.fin L1 H1 L2 H2⟩
      · skip
        refine stepAllocR ?_ ?_ ?_
        · rfl
        · rfl
        intro m9 x9 hm9 hx9
        have j9 := j3.nF hm9 hx9
        clear hm9 hx9
        refine hK.out _ _ (B2.up j9.1 s2) (fun _ => ?_)
        clear hK K
        (try simp only [Act.put]); (try simp only [List.setIfInBounds_toArray]); (try simp only [List.set_cons_succ]); (try simp only [List.set_cons_zero])
        refine wpAnyH_ready (rs := [3, 5]) (by kernel_rfl) (by simp) ?_
        refine AllReadyH.cons (o := { dst := some 16, op := Op.call { callee := Callee.value (Operand.func 16), args := #[Operand.tmp 15], argTypes := #[31] }, type := 35, pos := "law.go:46", after := #[{ on := 2, ground := Ground.data }, { on := 1, ground := Ground.chain }], guard := none }) rfl (fun K hK => ?_) (AllReadyH.cons (o := { dst := some 6, op := Op.alloc 35, type := 0, pos := "law.go:46", after := #[], guard := none }) rfl (fun K hK => ?_) AllReadyH.nil)
        · skip
          refine stepCall1 ?_ 16 (.tmp 15) #[31] ?_ (.agg #[.float .f64 c, .float .f64 d, .bool r, .bool s]) ?_ ?_ (ent_of _ _) ?_
          · rfl
          · rfl
          · rfl
          · rfl
          refine (HOb.out _).mono ?_
          rintro o x10 ⟨rfl, b10⟩
          refine ⟨_, rfl, ?_⟩
          have j10 := j9.up b10
          refine hK.out _ _ (B2.up j10.1 s2) (fun _ => ?_)
          clear hK K
          (try simp only [Act.put]); (try simp only [List.setIfInBounds_toArray]); (try simp only [List.set_cons_succ]); (try simp only [List.set_cons_zero])
          refine wpAnyH_ready (rs := [5]) (by kernel_rfl) (by simp) ?_
          refine AllReadyH.cons (o := { dst := some 6, op := Op.alloc 35, type := 0, pos := "law.go:46", after := #[], guard := none }) rfl (fun K hK => ?_) AllReadyH.nil
          · skip
            refine stepAllocR ?_ ?_ ?_
            · rfl
            · rfl
            intro m11 x11 hm11 hx11
            have j11 := j10.nG hm11 hx11
            clear hm11 hx11
            refine hK.out _ _ (B2.up j11.1 s2) (fun _ => ?_)
            clear hK K
            (try simp only [Act.put]); (try simp only [List.setIfInBounds_toArray]); (try simp only [List.set_cons_succ]); (try simp only [List.set_cons_zero])
            refine wpAnyH_ready (rs := [6]) (by kernel_rfl) (by simp) ?_
            refine AllReadyH.cons (o := { dst := none, op := Op.store 35 (Operand.tmp 5) (Operand.tmp 14), type := 0, pos := "law.go:46", after := #[{ on := 4, ground := Ground.data }, { on := 1, ground := Ground.data }, { on := 3, ground := Ground.chain }, { on := 0, ground := Ground.phase }, { on := 1, ground := Ground.phase }, { on := 2, ground := Ground.textOnly Departure.lateStores }, { on := 3, ground := Ground.textOnly Departure.lateStoresUnsure }, { on := 4, ground := Ground.phase }, { on := 5, ground := Ground.phase }], guard := none }) rfl (fun K hK => ?_) AllReadyH.nil
            · skip
              refine stepStoreR ?_ (.tmp 5) (.tmp 14) ?_ m9 L1 H1 ?_ ?_ j11.thereF ?_
              · rfl
              · rfl
              · rfl
              · rfl
              refine hK.out _ _ (B2.up (j11.upF _) s2) (fun _ => ?_)
              clear hK K
              (try simp only [Act.put]); (try simp only [List.setIfInBounds_toArray]); (try simp only [List.set_cons_succ]); (try simp only [List.set_cons_zero])
              refine wpAnyH_ready (rs := [7]) (by kernel_rfl) (by simp) ?_
              refine AllReadyH.cons (o := { dst := none, op := Op.store 35 (Operand.tmp 6) (Operand.tmp 16), type := 0, pos := "law.go:46", after := #[{ on := 5, ground := Ground.data }, { on := 3, ground := Ground.data }, { on := 6, ground := Ground.chain }, { on := 0, ground := Ground.phase }, { on := 1, ground := Ground.phase }, { on := 2, ground := Ground.phase }, { on := 3, ground := Ground.phase }, { on := 4, ground := Ground.phase }, { on := 5, ground := Ground.phase }, { on := 6, ground := Ground.phase }], guard := none }) rfl (fun K hK => ?_) AllReadyH.nil
              · skip
                refine stepStoreR ?_ (.tmp 6) (.tmp 16) ?_ m11 L2 H2 ?_ ?_ (j11.thereG _) ?_
                · rfl
                · rfl
                · rfl
                · rfl
                refine hK.out _ _ (B2.up (j11.fin L1 H1 L2 H2).2.2 s2) (fun _ => ?_)
                clear hK K
                (try simp only [Act.put]); (try simp only [List.setIfInBounds_toArray]); (try simp only [List.set_cons_succ]); (try simp only [List.set_cons_zero])
                refine wpAnyH_done (by kernel_rfl) ?_ _
                refine NoPanic.normal ?_
                go_wp2_with fail
                go_meet
                case rel => exact ⟨m9, m11, rfl, rfl, j11.fin L1 H1 L2 H2⟩
        · skip
          refine stepAllocR ?_ ?_ ?_
          · rfl
          · rfl
          intro m12 x12 hm12 hx12
          have j12 := j9.nG hm12 hx12
          clear hm12 hx12
          refine hK.out _ _ (B2.up j12.1 s2) (fun _ => ?_)
          clear hK K
          (try simp only [Act.put]); (try simp only [List.setIfInBounds_toArray]); (try simp only [List.set_cons_succ]); (try simp only [List.set_cons_zero])
          refine wpAnyH_ready (rs := [3]) (by kernel_rfl) (by simp) ?_
          refine AllReadyH.cons (o := { dst := some 16, op := Op.call { callee := Callee.value (Operand.func 16), args := #[Operand.tmp 15], argTypes := #[31] }, type := 35, pos := "law.go:46", after := #[{ on := 2, ground := Ground.data }, { on := 1, ground := Ground.chain }], guard := none }) rfl (fun K hK => ?_) AllReadyH.nil
          · skip
            refine stepCall1 ?_ 16 (.tmp 15) #[31] ?_ (.agg #[.float .f64 c, .float .f64 d, .bool r, .bool s]) ?_ ?_ (ent_of _ _) ?_
            · rfl
            · rfl
            · rfl
            · rfl
            refine (HOb.out _).mono ?_
            rintro o x13 ⟨rfl, b13⟩
            refine ⟨_, rfl, ?_⟩
            have j13 := j12.up b13
            refine hK.out _ _ (B2.up j13.1 s2) (fun _ => ?_)
            clear hK K
            (try simp only [Act.put]); (try simp only [List.setIfInBounds_toArray]); (try simp only [List.set_cons_succ]); (try simp only [List.set_cons_zero])
            refine wpAnyH_ready (rs := [6]) (by kernel_rfl) (by simp) ?_
            refine AllReadyH.cons (o := { dst := none, op := Op.store 35 (Operand.tmp 5) (Operand.tmp 14), type := 0, pos := "law.go:46", after := #[{ on := 4, ground := Ground.data }, { on := 1, ground := Ground.data }, { on := 3, ground := Ground.chain }, { on := 0, ground := Ground.phase }, { on := 1, ground := Ground.phase }, { on := 2, ground := Ground.textOnly Departure.lateStores }, { on := 3, ground := Ground.textOnly Departure.lateStoresUnsure }, { on := 4, ground := Ground.phase }, { on := 5, ground := Ground.phase }], guard := none }) rfl (fun K hK => ?_) AllReadyH.nil
            · skip
              refine stepStoreR ?_ (.tmp 5) (.tmp 14) ?_ m9 L1 H1 ?_ ?_ j13.thereF ?_
              · rfl
              · rfl
              · rfl
              · rfl
              refine hK.out _ _ (B2.up (j13.upF _) s2) (fun _ => ?_)
              clear hK K
              (try simp only [Act.put]); (try simp only [List.setIfInBounds_toArray]); (try simp only [List.set_cons_succ]); (try simp only [List.set_cons_zero])
              refine wpAnyH_ready (rs := [7]) (by kernel_rfl) (by simp) ?_
              refine AllReadyH.cons (o := { dst := none, op := Op.store 35 (Operand.tmp 6) (Operand.tmp 16), type := 0, pos := "law.go:46", after := #[{ on := 5, ground := Ground.data }, { on := 3, ground := Ground.data }, { on := 6, ground := Ground.chain }, { on := 0, ground := Ground.phase }, { on := 1, ground := Ground.phase }, { on := 2, ground := Ground.phase }, { on := 3, ground := Ground.phase }, { on := 4, ground := Ground.phase }, { on := 5, ground := Ground.phase }, { on := 6, ground := Ground.phase }], guard := none }) rfl (fun K hK => ?_) AllReadyH.nil
              · skip
                refine stepStoreR ?_ (.tmp 6) (.tmp 16) ?_ m12 L2 H2 ?_ ?_ (j13.thereG _) ?_
                · rfl
                · rfl
                · rfl
                · rfl
                refine hK.out _ _ (B2.up (j13.fin L1 H1 L2 H2).2.2 s2) (fun _ => ?_)
                clear hK K
                (try simp only [Act.put]); (try simp only [List.setIfInBounds_toArray]); (try simp only [List.set_cons_succ]); (try simp only [List.set_cons_zero])
                refine wpAnyH_done (by kernel_rfl) ?_ _
                refine NoPanic.normal ?_
                go_wp2_with fail
                go_meet
                case rel => exact ⟨m9, m12, rfl, rfl, j13.fin L1 H1 L2 H2⟩
      · skip
        refine stepAllocR ?_ ?_ ?_
        · rfl
        · rfl
        intro m14 x14 hm14 hx14
        have j14 := j3.nG hm14 hx14
        clear hm14 hx14
        refine hK.out _ _ (B2.up j14.1 s2) (fun _ => ?_)
        clear hK K
        (try simp only [Act.put]); (try simp only [List.setIfInBounds_toArray]); (try simp only [List.set_cons_succ]); (try simp only [List.set_cons_zero])
        refine wpAnyH_ready (rs := [3, 4]) (by kernel_rfl) (by simp) ?_
        refine AllReadyH.cons (o := { dst := some 16, op := Op.call { callee := Callee.value (Operand.func 16), args := #[Operand.tmp 15], argTypes := #[31] }, type := 35, pos := "law.go:46", after := #[{ on := 2, ground := Ground.data }, { on := 1, ground := Ground.chain }], guard := none }) rfl (fun K hK => ?_) (AllReadyH.cons (o := { dst := some 5, op := Op.alloc 35, type := 0, pos := "law.go:46", after := #[], guard := none }) rfl (fun K hK => ?_) AllReadyH.nil)
        · skip
          refine stepCall1 ?_ 16 (.tmp 15) #[31] ?_ (.agg #[.float .f64 c, .float .f64 d, .bool r, .bool s]) ?_ ?_ (ent_of _ _) ?_
          · rfl
          · rfl
          · rfl
          · rfl
          refine (HOb.out _).mono ?_
          rintro o x15 ⟨rfl, b15⟩
          refine ⟨_, rfl, ?_⟩
          have j15 := j14.up b15
          refine hK.out _ _ (B2.up j15.1 s2) (fun _ => ?_)
          clear hK K
          (try simp only [Act.put]); (try simp only [List.setIfInBounds_toArray]); (try simp only [List.set_cons_succ]); (try simp only [List.set_cons_zero])
          refine wpAnyH_ready (rs := [4]) (by kernel_rfl) (by simp) ?_
          refine AllReadyH.cons (o := { dst := some 5, op := Op.alloc 35, type := 0, pos := "law.go:46", after := #[], guard := none }) rfl (fun K hK => ?_) AllReadyH.nil
          · skip
            refine stepAllocR ?_ ?_ ?_
            · rfl
            · rfl
            intro m16 x16 hm16 hx16
            have j16 := j15.nF hm16 hx16
            clear hm16 hx16
            refine hK.out _ _ (B2.up j16.1 s2) (fun _ => ?_)
            clear hK K
            (try simp only [Act.put]); (try simp only [List.setIfInBounds_toArray]); (try simp only [List.set_cons_succ]); (try simp only [List.set_cons_zero])
            refine wpAnyH_ready (rs := [6]) (by kernel_rfl) (by simp) ?_
            refine AllReadyH.cons (o := { dst := none, op := Op.store 35 (Operand.tmp 5) (Operand.tmp 14), type := 0, pos := "law.go:46", after := #[{ on := 4, ground := Ground.data }, { on := 1, ground := Ground.data }, { on := 3, ground := Ground.chain }, { on := 0, ground := Ground.phase }, { on := 1, ground := Ground.phase }, { on := 2, ground := Ground.textOnly Departure.lateStores }, { on := 3, ground := Ground.textOnly Departure.lateStoresUnsure }, { on := 4, ground := Ground.phase }, { on := 5, ground := Ground.phase }], guard := none }) rfl (fun K hK => ?_) AllReadyH.nil
            · skip
              refine stepStoreR ?_ (.tmp 5) (.tmp 14) ?_ m16 L1 H1 ?_ ?_ j16.thereF ?_
              · rfl
              · rfl
              · rfl
              · rfl
              refine hK.out _ _ (B2.up (j16.upF _) s2) (fun _ => ?_)
              clear hK K
              (try simp only [Act.put]); (try simp only [List.setIfInBounds_toArray]); (try simp only [List.set_cons_succ]); (try simp only [List.set_cons_zero])
              refine wpAnyH_ready (rs := [7]) (by kernel_rfl) (by simp) ?_
              refine AllReadyH.cons (o := { dst := none, op := Op.store 35 (Operand.tmp 6) (Operand.tmp 16), type := 0, pos := "law.go:46", after := #[{ on := 5, ground := Ground.data }, { on := 3, ground := Ground.data }, { on := 6, ground := Ground.chain }, { on := 0, ground := Ground.phase }, { on := 1, ground := Ground.phase }, { on := 2, ground := Ground.phase }, { on := 3, ground := Ground.phase }, { on := 4, ground := Ground.phase }, { on := 5, ground := Ground.phase }, { on := 6, ground := Ground.phase }], guard := none }) rfl (fun K hK => ?_) AllReadyH.nil
              · skip
                refine stepStoreR ?_ (.tmp 6) (.tmp 16) ?_ m14 L2 H2 ?_ ?_ (j16.thereG _) ?_
                · rfl
                · rfl
                · rfl
                · rfl
                refine hK.out _ _ (B2.up (j16.fin L1 H1 L2 H2).2.2 s2) (fun _ => ?_)
                clear hK K
                (try simp only [Act.put]); (try simp only [List.setIfInBounds_toArray]); (try simp only [List.set_cons_succ]); (try simp only [List.set_cons_zero])
                refine wpAnyH_done (by kernel_rfl) ?_ _
                refine NoPanic.normal ?_
                go_wp2_with fail
                go_meet
                case rel => exact ⟨m16, m14, rfl, rfl, j16.fin L1 H1 L2 H2⟩
        · skip
          refine stepAllocR ?_ ?_ ?_
          · rfl
          · rfl
          intro m17 x17 hm17 hx17
          have j17 := j14.nF hm17 hx17
          clear hm17 hx17
          refine hK.out _ _ (B2.up j17.1 s2) (fun _ => ?_)
          clear hK K
          (try simp only [Act.put]); (try simp only [List.setIfInBounds_toArray]); (try simp only [List.set_cons_succ]); (try simp only [List.set_cons_zero])
          refine wpAnyH_ready (rs := [3]) (by kernel_rfl) (by simp) ?_
          refine AllReadyH.cons (o := { dst := some 16, op := Op.call { callee := Callee.value (Operand.func 16), args := #[Operand.tmp 15], argTypes := #[31] }, type := 35, pos := "law.go:46", after := #[{ on := 2, ground := Ground.data }, { on := 1, ground := Ground.chain }], guard := none }) rfl (fun K hK => ?_) AllReadyH.nil
          · skip
            refine stepCall1 ?_ 16 (.tmp 15) #[31] ?_ (.agg #[.float .f64 c, .float .f64 d, .bool r, .bool s]) ?_ ?_ (ent_of _ _) ?_
            · rfl
            · rfl
            · rfl
            · rfl
            refine (HOb.out _).mono ?_
            rintro o x18 ⟨rfl, b18⟩
            refine ⟨_, rfl, ?_⟩
            have j18 := j17.up b18
            refine hK.out _ _ (B2.up j18.1 s2) (fun _ => ?_)
            clear hK K
            (try simp only [Act.put]); (try simp only [List.setIfInBounds_toArray]); (try simp only [List.set_cons_succ]); (try simp only [List.set_cons_zero])
            refine wpAnyH_ready (rs := [6]) (by kernel_rfl) (by simp) ?_
            refine AllReadyH.cons (o := { dst := none, op := Op.store 35 (Operand.tmp 5) (Operand.tmp 14), type := 0, pos := "law.go:46", after := #[{ on := 4, ground := Ground.data }, { on := 1, ground := Ground.data }, { on := 3, ground := Ground.chain }, { on := 0, ground := Ground.phase }, { on := 1, ground := Ground.phase }, { on := 2, ground := Ground.textOnly Departure.lateStores }, { on := 3, ground := Ground.textOnly Departure.lateStoresUnsure }, { on := 4, ground := Ground.phase }, { on := 5, ground := Ground.phase }], guard := none }) rfl (fun K hK => ?_) AllReadyH.nil
            · skip
              refine stepStoreR ?_ (.tmp 5) (.tmp 14) ?_ m17 L1 H1 ?_ ?_ j18.thereF ?_
              · rfl
              · rfl
              · rfl
              · rfl
              refine hK.out _ _ (B2.up (j18.upF _) s2) (fun _ => ?_)
              clear hK K
              (try simp only [Act.put]); (try simp only [List.setIfInBounds_toArray]); (try simp only [List.set_cons_succ]); (try simp only [List.set_cons_zero])
              refine wpAnyH_ready (rs := [7]) (by kernel_rfl) (by simp) ?_
              refine AllReadyH.cons (o := { dst := none, op := Op.store 35 (Operand.tmp 6) (Operand.tmp 16), type := 0, pos := "law.go:46", after := #[{ on := 5, ground := Ground.data }, { on := 3, ground := Ground.data }, { on := 6, ground := Ground.chain }, { on := 0, ground := Ground.phase }, { on := 1, ground := Ground.phase }, { on := 2, ground := Ground.phase }, { on := 3, ground := Ground.phase }, { on := 4, ground := Ground.phase }, { on := 5, ground := Ground.phase }, { on := 6, ground := Ground.phase }], guard := none }) rfl (fun K hK => ?_) AllReadyH.nil
              · skip
                refine stepStoreR ?_ (.tmp 6) (.tmp 16) ?_ m14 L2 H2 ?_ ?_ (j18.thereG _) ?_
                · rfl
                · rfl
                · rfl
                · rfl
                refine hK.out _ _ (B2.up (j18.fin L1 H1 L2 H2).2.2 s2) (fun _ => ?_)
                clear hK K
                (try simp only [Act.put]); (try simp only [List.setIfInBounds_toArray]); (try simp only [List.set_cons_succ]); (try simp only [List.set_cons_zero])
                refine wpAnyH_done (by kernel_rfl) ?_ _
                refine NoPanic.normal ?_
                go_wp2_with fail
                go_meet
                case rel => exact ⟨m17, m14, rfl, rfl, j18.fin L1 H1 L2 H2⟩
    · skip
      refine stepAllocR ?_ ?_ ?_
      · rfl
      · rfl
      intro m19 x19 hm19 hx19
      have j19 := (J2r.start w2).nF hm19 hx19
      clear hm19 hx19
      refine hK.out _ _ (B2.up j19.1 s2) (fun _ => ?_)
      clear hK K
      (try simp only [Act.put]); (try simp only [List.setIfInBounds_toArray]); (try simp only [List.set_cons_succ]); (try simp only [List.set_cons_zero])
      refine wpAnyH_ready (rs := [1, 5]) (by kernel_rfl) (by simp) ?_
      refine AllReadyH.cons (o := { dst := some 14, op := Op.call { callee := Callee.value (Operand.func 16), args := #[Operand.tmp 13], argTypes := #[31] }, type := 35, pos := "law.go:46", after := #[{ on := 0, ground := Ground.data }], guard := none }) rfl (fun K hK => ?_) (AllReadyH.cons (o := { dst := some 6, op := Op.alloc 35, type := 0, pos := "law.go:46", after := #[], guard := none }) rfl (fun K hK => ?_) AllReadyH.nil)
      · skip
        refine stepCall1 ?_ 16 (.tmp 13) #[31] ?_ (.agg #[.float .f64 a, .float .f64 b, .bool p, .bool q]) ?_ ?_ (ent_of _ _) ?_
        · rfl
        · rfl
        · rfl
        · rfl
        refine (HOa.out _).mono ?_
        rintro o x20 ⟨rfl, b20⟩
        refine ⟨_, rfl, ?_⟩
        have j20 := j19.up b20
        refine hK.out _ _ (B2.up j20.1 s2) (fun _ => ?_)
        clear hK K
        (try simp only [Act.put]); (try simp only [List.setIfInBounds_toArray]); (try simp only [List.set_cons_succ]); (try simp only [List.set_cons_zero])
        refine wpAnyH_ready (rs := [3, 5]) (by kernel_rfl) (by simp) ?_
        refine AllReadyH.cons (o := { dst := some 16, op := Op.call { callee := Callee.value (Operand.func 16), args := #[Operand.tmp 15], argTypes := #[31] }, type := 35, pos := "law.go:46", after := #[{ on := 2, ground := Ground.data }, { on := 1, ground := Ground.chain }], guard := none }) rfl (fun K hK => ?_) (AllReadyH.cons (o := { dst := some 6, op := Op.alloc 35, type := 0, pos := "law.go:46", after := #[], guard := none }) rfl (fun K hK => ?_) AllReadyH.nil)
        · skip
          refine stepCall1 ?_ 16 (.tmp 15) #[31] ?_ (.agg #[.float .f64 c, .float .f64 d, .bool r, .bool s]) ?_ ?_ (ent_of _ _) ?_
          · rfl
          · rfl
          · rfl
          · rfl
          refine (HOb.out _).mono ?_
          rintro o x21 ⟨rfl, b21⟩
          refine ⟨_, rfl, ?_⟩
          have j21 := j20.up b21
          refine hK.out _ _ (B2.up j21.1 s2) (fun _ => ?_)
          clear hK K
          (try simp only [Act.put]); (try simp only [List.setIfInBounds_toArray]); (try simp only [List.set_cons_succ]); (try simp only [List.set_cons_zero])
          refine wpAnyH_ready (rs := [5]) (by kernel_rfl) (by simp) ?_
          refine AllReadyH.cons (o := { dst := some 6, op := Op.alloc 35, type := 0, pos := "law.go:46", after := #[], guard := none }) rfl (fun K hK => ?_) AllReadyH.nil
          · skip
            refine stepAllocR ?_ ?_ ?_
            · rfl
            · rfl
            intro m22 x22 hm22 hx22
            have j22 := j21.nG hm22 hx22
            clear hm22 hx22
            refine hK.out _ _ (B2.up j22.1 s2) (fun _ => ?_)
            clear hK K
            (try simp only [Act.put]); (try simp only [List.setIfInBounds_toArray]); (try simp only [List.set_cons_succ]); (try simp only [List.set_cons_zero])
            refine wpAnyH_ready (rs := [6]) (by kernel_rfl) (by simp) ?_
            refine AllReadyH.cons (o := { dst := none, op := Op.store 35 (Operand.tmp 5) (Operand.tmp 14), type := 0, pos := "law.go:46", after := #[{ on := 4, ground := Ground.data }, { on := 1, ground := Ground.data }, { on := 3, ground := Ground.chain }, { on := 0, ground := Ground.phase }, { on := 1, ground := Ground.phase }, { on := 2, ground := Ground.textOnly Departure.lateStores }, { on := 3, ground := Ground.textOnly Departure.lateStoresUnsure }, { on := 4, ground := Ground.phase }, { on := 5, ground := Ground.phase }], guard := none }) rfl (fun K hK => ?_) AllReadyH.nil
            · skip
              refine stepStoreR ?_ (.tmp 5) (.tmp 14) ?_ m19 L1 H1 ?_ ?_ j22.thereF ?_
              · rfl
              · rfl
              · rfl
              · rfl
              refine hK.out _ _ (B2.up (j22.upF _) s2) (fun _ => ?_)
              clear hK K
              (try simp only [Act.put]); (try simp only [List.setIfInBounds_toArray]); (try simp only [List.set_cons_succ]); (try simp only [List.set_cons_zero])
              refine wpAnyH_ready (rs := [7]) (by kernel_rfl) (by simp) ?_
              refine AllReadyH.cons (o := { dst := none, op := Op.store 35 (Operand.tmp 6) (Operand.tmp 16), type := 0, pos := "law.go:46", after := #[{ on := 5, ground := Ground.data }, { on := 3, ground := Ground.data }, { on := 6, ground := Ground.chain }, { on := 0, ground := Ground.phase }, { on := 1, ground := Ground.phase }, { on := 2, ground := Ground.phase }, { on := 3, ground := Ground.phase }, { on := 4, ground := Ground.phase }, { on := 5, ground := Ground.phase }, { on := 6, ground := Ground.phase }], guard := none }) rfl (fun K hK => ?_) AllReadyH.nil
              · skip
                refine stepStoreR ?_ (.tmp 6) (.tmp 16) ?_ m22 L2 H2 ?_ ?_ (j22.thereG _) ?_
                · rfl
                · rfl
                · rfl
                · rfl
                refine hK.out _ _ (B2.up (j22.fin L1 H1 L2 H2).2.2 s2) (fun _ => ?_)
                clear hK K
                (try simp only [Act.put]); (try simp only [List.setIfInBounds_toArray]); (try simp only [List.set_cons_succ]); (try simp only [List.set_cons_zero])
                refine wpAnyH_done (by kernel_rfl) ?_ _
                refine NoPanic.normal ?_
                go_wp2_with fail
                go_meet
                case rel => exact ⟨m19, m22, rfl, rfl, j22.fin L1 H1 L2 H2⟩
        · skip
          refine stepAllocR ?_ ?_ ?_
          · rfl
          · rfl
          intro m23 x23 hm23 hx23
          have j23 := j20.nG hm23 hx23
          clear hm23 hx23
          refine hK.out _ _ (B2.up j23.1 s2) (fun _ => ?_)
          clear hK K
          (try simp only [Act.put]); (try simp only [List.setIfInBounds_toArray]); (try simp only [List.set_cons_succ]); (try simp only [List.set_cons_zero])
          refine wpAnyH_ready (rs := [3]) (by kernel_rfl) (by simp) ?_
          refine AllReadyH.cons (o := { dst := some 16, op := Op.call { callee := Callee.value (Operand.func 16), args := #[Operand.tmp 15], argTypes := #[31] }, type := 35, pos := "law.go:46", after := #[{ on := 2, ground := Ground.data }, { on := 1, ground := Ground.chain }], guard := none }) rfl (fun K hK => ?_) AllReadyH.nil
          · skip
            refine stepCall1 ?_ 16 (.tmp 15) #[31] ?_ (.agg #[.float .f64 c, .float .f64 d, .bool r, .bool s]) ?_ ?_ (ent_of _ _) ?_
            · rfl
            · rfl
            · rfl
            · rfl
            refine (HOb.out _).mono ?_
            rintro o x24 ⟨rfl, b24⟩
            refine ⟨_, rfl, ?_⟩
            have j24 := j23.up b24
            refine hK.out _ _ (B2.up j24.1 s2) (fun _ => ?_)
            clear hK K
            (try simp only [Act.put]); (try simp only [List.setIfInBounds_toArray]); (try simp only [List.set_cons_succ]); (try simp only [List.set_cons_zero])
            refine wpAnyH_ready (rs := [6]) (by kernel_rfl) (by simp) ?_
            refine AllReadyH.cons (o := { dst := none, op := Op.store 35 (Operand.tmp 5) (Operand.tmp 14), type := 0, pos := "law.go:46", after := #[{ on := 4, ground := Ground.data }, { on := 1, ground := Ground.data }, { on := 3, ground := Ground.chain }, { on := 0, ground := Ground.phase }, { on := 1, ground := Ground.phase }, { on := 2, ground := Ground.textOnly Departure.lateStores }, { on := 3, ground := Ground.textOnly Departure.lateStoresUnsure }, { on := 4, ground := Ground.phase }, { on := 5, ground := Ground.phase }], guard := none }) rfl (fun K hK => ?_) AllReadyH.nil
            · skip
              refine stepStoreR ?_ (.tmp 5) (.tmp 14) ?_ m19 L1 H1 ?_ ?_ j24.thereF ?_
              · rfl
              · rfl
              · rfl
              · rfl
              refine hK.out _ _ (B2.up (j24.upF _) s2) (fun _ => ?_)
              clear hK K
              (try simp only [Act.put]); (try simp only [List.setIfInBounds_toArray]); (try simp only [List.set_cons_succ]); (try simp only [List.set_cons_zero])
              refine wpAnyH_ready (rs := [7]) (by kernel_rfl) (by simp) ?_
              refine AllReadyH.cons (o := { dst := none, op := Op.store 35 (Operand.tmp 6) (Operand.tmp 16), type := 0, pos := "law.go:46", after := #[{ on := 5, ground := Ground.data }, { on := 3, ground := Ground.data }, { on := 6, ground := Ground.chain }, { on := 0, ground := Ground.phase }, { on := 1, ground := Ground.phase }, { on := 2, ground := Ground.phase }, { on := 3, ground := Ground.phase }, { on := 4, ground := Ground.phase }, { on := 5, ground := Ground.phase }, { on := 6, ground := Ground.phase }], guard := none }) rfl (fun K hK => ?_) AllReadyH.nil
              · skip
                refine stepStoreR ?_ (.tmp 6) (.tmp 16) ?_ m23 L2 H2 ?_ ?_ (j24.thereG _) ?_
                · rfl
                · rfl
                · rfl
                · rfl
                refine hK.out _ _ (B2.up (j24.fin L1 H1 L2 H2).2.2 s2) (fun _ => ?_)
                clear hK K
                (try simp only [Act.put]); (try simp only [List.setIfInBounds_toArray]); (try simp only [List.set_cons_succ]); (try simp only [List.set_cons_zero])
                refine wpAnyH_done (by kernel_rfl) ?_ _
                refine NoPanic.normal ?_
                go_wp2_with fail
                go_meet
                case rel => exact ⟨m19, m23, rfl, rfl, j24.fin L1 H1 L2 H2⟩
      · skip
        refine stepAllocR ?_ ?_ ?_
        · rfl
        · rfl
        intro m25 x25 hm25 hx25
        have j25 := j19.nG hm25 hx25
        clear hm25 hx25
        refine hK.out _ _ (B2.up j25.1 s2) (fun _ => ?_)
        clear hK K
        (try simp only [Act.put]); (try simp only [List.setIfInBounds_toArray]); (try simp only [List.set_cons_succ]); (try simp only [List.set_cons_zero])
        refine wpAnyH_ready (rs := [1]) (by kernel_rfl) (by simp) ?_
        refine AllReadyH.cons (o := { dst := some 14, op := Op.call { callee := Callee.value (Operand.func 16), args := #[Operand.tmp 13], argTypes := #[31] }, type := 35, pos := "law.go:46", after := #[{ on := 0, ground := Ground.data }], guard := none }) rfl (fun K hK => ?_) AllReadyH.nil
        · skip
          refine stepCall1 ?_ 16 (.tmp 13) #[31] ?_ (.agg #[.float .f64 a, .float .f64 b, .bool p, .bool q]) ?_ ?_ (ent_of _ _) ?_
          · rfl
          · rfl
          · rfl
          · rfl
          refine (HOa.out _).mono ?_
          rintro o x26 ⟨rfl, b26⟩
          refine ⟨_, rfl, ?_⟩
          have j26 := j25.up b26
          refine hK.out _ _ (B2.up j26.1 s2) (fun _ => ?_)
          clear hK K
          (try simp only [Act.put]); (try simp only [List.setIfInBounds_toArray]); (try simp only [List.set_cons_succ]); (try simp only [List.set_cons_zero])
          refine wpAnyH_ready (rs := [3]) (by kernel_rfl) (by simp) ?_
          refine AllReadyH.cons (o := { dst := some 16, op := Op.call { callee := Callee.value (Operand.func 16), args := #[Operand.tmp 15], argTypes := #[31] }, type := 35, pos := "law.go:46", after := #[{ on := 2, ground := Ground.data }, { on := 1, ground := Ground.chain }], guard := none }) rfl (fun K hK => ?_) AllReadyH.nil
          · skip
            refine stepCall1 ?_ 16 (.tmp 15) #[31] ?_ (.agg #[.float .f64 c, .float .f64 d, .bool r, .bool s]) ?_ ?_ (ent_of _ _) ?_
            · rfl
            · rfl
            · rfl
            · rfl
            refine (HOb.out _).mono ?_
            rintro o x27 ⟨rfl, b27⟩
            refine ⟨_, rfl, ?_⟩
            have j27 := j26.up b27
            refine hK.out _ _ (B2.up j27.1 s2) (fun _ => ?_)
            clear hK K
            (try simp only [Act.put]); (try simp only [List.setIfInBounds_toArray]); (try simp only [List.set_cons_succ]); (try simp only [List.set_cons_zero])
            refine wpAnyH_ready (rs := [6]) (by kernel_rfl) (by simp) ?_
            refine AllReadyH.cons (o := { dst := none, op := Op.store 35 (Operand.tmp 5) (Operand.tmp 14), type := 0, pos := "law.go:46", after := #[{ on := 4, ground := Ground.data }, { on := 1, ground := Ground.data }, { on := 3, ground := Ground.chain }, { on := 0, ground := Ground.phase }, { on := 1, ground := Ground.phase }, { on := 2, ground := Ground.textOnly Departure.lateStores }, { on := 3, ground := Ground.textOnly Departure.lateStoresUnsure }, { on := 4, ground := Ground.phase }, { on := 5, ground := Ground.phase }], guard := none }) rfl (fun K hK => ?_) AllReadyH.nil
            · skip
              refine stepStoreR ?_ (.tmp 5) (.tmp 14) ?_ m19 L1 H1 ?_ ?_ j27.thereF ?_
              · rfl
              · rfl
              · rfl
              · rfl
              refine hK.out _ _ (B2.up (j27.upF _) s2) (fun _ => ?_)
              clear hK K
              (try simp only [Act.put]); (try simp only [List.setIfInBounds_toArray]); (try simp only [List.set_cons_succ]); (try simp only [List.set_cons_zero])
              refine wpAnyH_ready (rs := [7]) (by kernel_rfl) (by simp) ?_
              refine AllReadyH.cons (o := { dst := none, op := Op.store 35 (Operand.tmp 6) (Operand.tmp 16), type := 0, pos := "law.go:46", after := #[{ on := 5, ground := Ground.data }, { on := 3, ground := Ground.data }, { on := 6, ground := Ground.chain }, { on := 0, ground := Ground.phase }, { on := 1, ground := Ground.phase }, { on := 2, ground := Ground.phase }, { on := 3, ground := Ground.phase }, { on := 4, ground := Ground.phase }, { on := 5, ground := Ground.phase }, { on := 6, ground := Ground.phase }], guard := none }) rfl (fun K hK => ?_) AllReadyH.nil
              · skip
                refine stepStoreR ?_ (.tmp 6) (.tmp 16) ?_ m25 L2 H2 ?_ ?_ (j27.thereG _) ?_
                · rfl
                · rfl
                · rfl
                · rfl
                refine hK.out _ _ (B2.up (j27.fin L1 H1 L2 H2).2.2 s2) (fun _ => ?_)
                clear hK K
                (try simp only [Act.put]); (try simp only [List.setIfInBounds_toArray]); (try simp only [List.set_cons_succ]); (try simp only [List.set_cons_zero])
                refine wpAnyH_done (by kernel_rfl) ?_ _
                refine NoPanic.normal ?_
                go_wp2_with fail
                go_meet
                case rel => exact ⟨m19, m25, rfl, rfl, j27.fin L1 H1 L2 H2⟩
    · skip
      refine stepAllocR ?_ ?_ ?_
      · rfl
      · rfl
      intro m28 x28 hm28 hx28
      have j28 := (J2r.start w2).nG hm28 hx28
      clear hm28 hx28
      refine hK.out _ _ (B2.up j28.1 s2) (fun _ => ?_)
      clear hK K
      (try simp only [Act.put]); (try simp only [List.setIfInBounds_toArray]); (try simp only [List.set_cons_succ]); (try simp only [List.set_cons_zero])
      refine wpAnyH_ready (rs := [1, 4]) (by kernel_rfl) (by simp) ?_
      refine AllReadyH.cons (o := { dst := some 14, op := Op.call { callee := Callee.value (Operand.func 16), args := #[Operand.tmp 13], argTypes := #[31] }, type := 35, pos := "law.go:46", after := #[{ on := 0, ground := Ground.data }], guard := none }) rfl (fun K hK => ?_) (AllReadyH.cons (o := { dst := some 5, op := Op.alloc 35, type := 0, pos := "law.go:46", after := #[], guard := none }) rfl (fun K hK => ?_) AllReadyH.nil)
      · skip
        refine stepCall1 ?_ 16 (.tmp 13) #[31] ?_ (.agg #[.float .f64 a, .float .f64 b, .bool p, .bool q]) ?_ ?_ (ent_of _ _) ?_
        · rfl
        · rfl
        · rfl
        · rfl
        refine (HOa.out _).mono ?_
        rintro o x29 ⟨rfl, b29⟩
        refine ⟨_, rfl, ?_⟩
        have j29 := j28.up b29
        refine hK.out _ _ (B2.up j29.1 s2) (fun _ => ?_)
        clear hK K
        (try simp only [Act.put]); (try simp only [List.setIfInBounds_toArray]); (try simp only [List.set_cons_succ]); (try simp only [List.set_cons_zero])
        refine wpAnyH_ready (rs := [3, 4]) (by kernel_rfl) (by simp) ?_
        refine AllReadyH.cons (o := { dst := some 16, op := Op.call { callee := Callee.value (Operand.func 16), args := #[Operand.tmp 15], argTypes := #[31] }, type := 35, pos := "law.go:46", after := #[{ on := 2, ground := Ground.data }, { on := 1, ground := Ground.chain }], guard := none }) rfl (fun K hK => ?_) (AllReadyH.cons (o := { dst := some 5, op := Op.alloc 35, type := 0, pos := "law.go:46", after := #[], guard := none }) rfl (fun K hK => ?_) AllReadyH.nil)
        · skip
          refine stepCall1 ?_ 16 (.tmp 15) #[31] ?_ (.agg #[.float .f64 c, .float .f64 d, .bool r, .bool s]) ?_ ?_ (ent_of _ _) ?_
          · rfl
          · rfl
          · rfl
          · rfl
          refine (HOb.out _).mono ?_
          rintro o x30 ⟨rfl, b30⟩
          refine ⟨_, rfl, ?_⟩
          have j30 := j29.up b30
          refine hK.out _ _ (B2.up j30.1 s2) (fun _ => ?_)
          clear hK K
          (try simp only [Act.put]); (try simp only [List.setIfInBounds_toArray]); (try simp only [List.set_cons_succ]); (try simp only [List.set_cons_zero])
          refine wpAnyH_ready (rs := [4]) (by kernel_rfl) (by simp) ?_
          refine AllReadyH.cons (o := { dst := some 5, op := Op.alloc 35, type := 0, pos := "law.go:46", after := #[], guard := none }) rfl (fun K hK => ?_) AllReadyH.nil
          · skip
            refine stepAllocR ?_ ?_ ?_
            · rfl
            · rfl
            intro m31 x31 hm31 hx31
            have j31 := j30.nF hm31 hx31
            clear hm31 hx31
            refine hK.out _ _ (B2.up j31.1 s2) (fun _ => ?_)
            clear hK K
            (try simp only [Act.put]); (try simp only [List.setIfInBounds_toArray]); (try simp only [List.set_cons_succ]); (try simp only [List.set_cons_zero])
            refine wpAnyH_ready (rs := [6]) (by kernel_rfl) (by simp) ?_
            refine AllReadyH.cons (o := { dst := none, op := Op.store 35 (Operand.tmp 5) (Operand.tmp 14), type := 0, pos := "law.go:46", after := #[{ on := 4, ground := Ground.data }, { on := 1, ground := Ground.data }, { on := 3, ground := Ground.chain }, { on := 0, ground := Ground.phase }, { on := 1, ground := Ground.phase }, { on := 2, ground := Ground.textOnly Departure.lateStores }, { on := 3, ground := Ground.textOnly Departure.lateStoresUnsure }, { on := 4, ground := Ground.phase }, { on := 5, ground := Ground.phase }], guard := none }) rfl (fun K hK => ?_) AllReadyH.nil
            · skip
              refine stepStoreR ?_ (.tmp 5) (.tmp 14) ?_ m31 L1 H1 ?_ ?_ j31.thereF ?_
              · rfl
              · rfl
              · rfl
              · rfl
              refine hK.out _ _ (B2.up (j31.upF _) s2) (fun _ => ?_)
              clear hK K
              (try simp only [Act.put]); (try simp only [List.setIfInBounds_toArray]); (try simp only [List.set_cons_succ]); (try simp only [List.set_cons_zero])
              refine wpAnyH_ready (rs := [7]) (by kernel_rfl) (by simp) ?_
              refine AllReadyH.cons (o := { dst := none, op := Op.store 35 (Operand.tmp 6) (Operand.tmp 16), type := 0, pos := "law.go:46", after := #[{ on := 5, ground := Ground.data }, { on := 3, ground := Ground.data }, { on := 6, ground := Ground.chain }, { on := 0, ground := Ground.phase }, { on := 1, ground := Ground.phase }, { on := 2, ground := Ground.phase }, { on := 3, ground := Ground.phase }, { on := 4, ground := Ground.phase }, { on := 5, ground := Ground.phase }, { on := 6, ground := Ground.phase }], guard := none }) rfl (fun K hK => ?_) AllReadyH.nil
              · skip
                refine stepStoreR ?_ (.tmp 6) (.tmp 16) ?_ m28 L2 H2 ?_ ?_ (j31.thereG _) ?_
                · rfl
                · rfl
                · rfl
                · rfl
                refine hK.out _ _ (B2.up (j31.fin L1 H1 L2 H2).2.2 s2) (fun _ => ?_)
                clear hK K
                (try simp only [Act.put]); (try simp only [List.setIfInBounds_toArray]); (try simp only [List.set_cons_succ]); (try simp only [List.set_cons_zero])
                refine wpAnyH_done (by kernel_rfl) ?_ _
                refine NoPanic.normal ?_
                go_wp2_with fail
                go_meet
                case rel => exact ⟨m31, m28, rfl, rfl, j31.fin L1 H1 L2 H2⟩
        · skip
          refine stepAllocR ?_ ?_ ?_
          · rfl
          · rfl
          intro m32 x32 hm32 hx32
          have j32 := j29.nF hm32 hx32
          clear hm32 hx32
          refine hK.out _ _ (B2.up j32.1 s2) (fun _ => ?_)
          clear hK K
          (try simp only [Act.put]); (try simp only [List.setIfInBounds_toArray]); (try simp only [List.set_cons_succ]); (try simp only [List.set_cons_zero])
          refine wpAnyH_ready (rs := [3]) (by kernel_rfl) (by simp) ?_
          refine AllReadyH.cons (o := { dst := some 16, op := Op.call { callee := Callee.value (Operand.func 16), args := #[Operand.tmp 15], argTypes := #[31] }, type := 35, pos := "law.go:46", after := #[{ on := 2, ground := Ground.data }, { on := 1, ground := Ground.chain }], guard := none }) rfl (fun K hK => ?_) AllReadyH.nil
          · skip
            refine stepCall1 ?_ 16 (.tmp 15) #[31] ?_ (.agg #[.float .f64 c, .float .f64 d, .bool r, .bool s]) ?_ ?_ (ent_of _ _) ?_
            · rfl
            · rfl
            · rfl
            · rfl
            refine (HOb.out _).mono ?_
            rintro o x33 ⟨rfl, b33⟩
            refine ⟨_, rfl, ?_⟩
            have j33 := j32.up b33
            refine hK.out _ _ (B2.up j33.1 s2) (fun _ => ?_)
            clear hK K
            (try simp only [Act.put]); (try simp only [List.setIfInBounds_toArray]); (try simp only [List.set_cons_succ]); (try simp only [List.set_cons_zero])
            refine wpAnyH_ready (rs := [6]) (by kernel_rfl) (by simp) ?_
            refine AllReadyH.cons (o := { dst := none, op := Op.store 35 (Operand.tmp 5) (Operand.tmp 14), type := 0, pos := "law.go:46", after := #[{ on := 4, ground := Ground.data }, { on := 1, ground := Ground.data }, { on := 3, ground := Ground.chain }, { on := 0, ground := Ground.phase }, { on := 1, ground := Ground.phase }, { on := 2, ground := Ground.textOnly Departure.lateStores }, { on := 3, ground := Ground.textOnly Departure.lateStoresUnsure }, { on := 4, ground := Ground.phase }, { on := 5, ground := Ground.phase }], guard := none }) rfl (fun K hK => ?_) AllReadyH.nil
            · skip
              refine stepStoreR ?_ (.tmp 5) (.tmp 14) ?_ m32 L1 H1 ?_ ?_ j33.thereF ?_
              · rfl
              · rfl
              · rfl
              · rfl
              refine hK.out _ _ (B2.up (j33.upF _) s2) (fun _ => ?_)
              clear hK K
              (try simp only [Act.put]); (try simp only [List.setIfInBounds_toArray]); (try simp only [List.set_cons_succ]); (try simp only [List.set_cons_zero])
              refine wpAnyH_ready (rs := [7]) (by kernel_rfl) (by simp) ?_
              refine AllReadyH.cons (o := { dst := none, op := Op.store 35 (Operand.tmp 6) (Operand.tmp 16), type := 0, pos := "law.go:46", after := #[{ on := 5, ground := Ground.data }, { on := 3, ground := Ground.data }, { on := 6, ground := Ground.chain }, { on := 0, ground := Ground.phase }, { on := 1, ground := Ground.phase }, { on := 2, ground := Ground.phase }, { on := 3, ground := Ground.phase }, { on := 4, ground := Ground.phase }, { on := 5, ground := Ground.phase }, { on := 6, ground := Ground.phase }], guard := none }) rfl (fun K hK => ?_) AllReadyH.nil
              · skip
                refine stepStoreR ?_ (.tmp 6) (.tmp 16) ?_ m28 L2 H2 ?_ ?_ (j33.thereG _) ?_
                · rfl
                · rfl
                · rfl
                · rfl
                refine hK.out _ _ (B2.up (j33.fin L1 H1 L2 H2).2.2 s2) (fun _ => ?_)
                clear hK K
                (try simp only [Act.put]); (try simp only [List.setIfInBounds_toArray]); (try simp only [List.set_cons_succ]); (try simp only [List.set_cons_zero])
                refine wpAnyH_done (by kernel_rfl) ?_ _
                refine NoPanic.normal ?_
                go_wp2_with fail
                go_meet
                case rel => exact ⟨m32, m28, rfl, rfl, j33.fin L1 H1 L2 H2⟩
      · skip
        refine stepAllocR ?_ ?_ ?_
        · rfl
        · rfl
        intro m34 x34 hm34 hx34
        have j34 := j28.nF hm34 hx34
        clear hm34 hx34
        refine hK.out _ _ (B2.up j34.1 s2) (fun _ => ?_)
        clear hK K
        (try simp only [Act.put]); (try simp only [List.setIfInBounds_toArray]); (try simp only [List.set_cons_succ]); (try simp only [List.set_cons_zero])
        refine wpAnyH_ready (rs := [1]) (by kernel_rfl) (by simp) ?_
        refine AllReadyH.cons (o := { dst := some 14, op := Op.call { callee := Callee.value (Operand.func 16), args := #[Operand.tmp 13], argTypes := #[31] }, type := 35, pos := "law.go:46", after := #[{ on := 0, ground := Ground.data }], guard := none }) rfl (fun K hK => ?_) AllReadyH.nil
        · skip
          refine stepCall1 ?_ 16 (.tmp 13) #[31] ?_ (.agg #[.float .f64 a, .float .f64 b, .bool p, .bool q]) ?_ ?_ (ent_of _ _) ?_
          · rfl
          · rfl
          · rfl
          · rfl
          refine (HOa.out _).mono ?_
          rintro o x35 ⟨rfl, b35⟩
          refine ⟨_, rfl, ?_⟩
          have j35 := j34.up b35
          refine hK.out _ _ (B2.up j35.1 s2) (fun _ => ?_)
          clear hK K
          (try simp only [Act.put]); (try simp only [List.setIfInBounds_toArray]); (try simp only [List.set_cons_succ]); (try simp only [List.set_cons_zero])
          refine wpAnyH_ready (rs := [3]) (by kernel_rfl) (by simp) ?_
          refine AllReadyH.cons (o := { dst := some 16, op := Op.call { callee := Callee.value (Operand.func 16), args := #[Operand.tmp 15], argTypes := #[31] }, type := 35, pos := "law.go:46", after := #[{ on := 2, ground := Ground.data }, { on := 1, ground := Ground.chain }], guard := none }) rfl (fun K hK => ?_) AllReadyH.nil
          · skip
            refine stepCall1 ?_ 16 (.tmp 15) #[31] ?_ (.agg #[.float .f64 c, .float .f64 d, .bool r, .bool s]) ?_ ?_ (ent_of _ _) ?_
            · rfl
            · rfl
            · rfl
            · rfl
            refine (HOb.out _).mono ?_
            rintro o x36 ⟨rfl, b36⟩
            refine ⟨_, rfl, ?_⟩
            have j36 := j35.up b36
            refine hK.out _ _ (B2.up j36.1 s2) (fun _ => ?_)
            clear hK K
            (try simp only [Act.put]); (try simp only [List.setIfInBounds_toArray]); (try simp only [List.set_cons_succ]); (try simp only [List.set_cons_zero])
            refine wpAnyH_ready (rs := [6]) (by kernel_rfl) (by simp) ?_
            refine AllReadyH.cons (o := { dst := none, op := Op.store 35 (Operand.tmp 5) (Operand.tmp 14), type := 0, pos := "law.go:46", after := #[{ on := 4, ground := Ground.data }, { on := 1, ground := Ground.data }, { on := 3, ground := Ground.chain }, { on := 0, ground := Ground.phase }, { on := 1, ground := Ground.phase }, { on := 2, ground := Ground.textOnly Departure.lateStores }, { on := 3, ground := Ground.textOnly Departure.lateStoresUnsure }, { on := 4, ground := Ground.phase }, { on := 5, ground := Ground.phase }], guard := none }) rfl (fun K hK => ?_) AllReadyH.nil
            · skip
              refine stepStoreR ?_ (.tmp 5) (.tmp 14) ?_ m34 L1 H1 ?_ ?_ j36.thereF ?_
              · rfl
              · rfl
              · rfl
              · rfl
              refine hK.out _ _ (B2.up (j36.upF _) s2) (fun _ => ?_)
              clear hK K
              (try simp only [Act.put]); (try simp only [List.setIfInBounds_toArray]); (try simp only [List.set_cons_succ]); (try simp only [List.set_cons_zero])
              refine wpAnyH_ready (rs := [7]) (by kernel_rfl) (by simp) ?_
              refine AllReadyH.cons (o := { dst := none, op := Op.store 35 (Operand.tmp 6) (Operand.tmp 16), type := 0, pos := "law.go:46", after := #[{ on := 5, ground := Ground.data }, { on := 3, ground := Ground.data }, { on := 6, ground := Ground.chain }, { on := 0, ground := Ground.phase }, { on := 1, ground := Ground.phase }, { on := 2, ground := Ground.phase }, { on := 3, ground := Ground.phase }, { on := 4, ground := Ground.phase }, { on := 5, ground := Ground.phase }, { on := 6, ground := Ground.phase }], guard := none }) rfl (fun K hK => ?_) AllReadyH.nil
              · skip
                refine stepStoreR ?_ (.tmp 6) (.tmp 16) ?_ m28 L2 H2 ?_ ?_ (j36.thereG _) ?_
                · rfl
                · rfl
                · rfl
                · rfl
                refine hK.out _ _ (B2.up (j36.fin L1 H1 L2 H2).2.2 s2) (fun _ => ?_)
                clear hK K
                (try simp only [Act.put]); (try simp only [List.setIfInBounds_toArray]); (try simp only [List.set_cons_succ]); (try simp only [List.set_cons_zero])
                refine wpAnyH_done (by kernel_rfl) ?_ _
                refine NoPanic.normal ?_
                go_wp2_with fail
                go_meet
                case rel => exact ⟨m34, m28, rfl, rfl, j36.fin L1 H1 L2 H2⟩
  case rest =>
    obtain ⟨m, n, rfl, rfl, sm, sn, U1⟩ := hcut
    have UW : Up w wc := U2.trans U1
    have sB : B2 w.heap.size a b p q (w.heap.size + 1) c d r s wc := B2.up U1 HB2.out
    clear HB2
    have zm : m < wc.heap.size := World.block_lt_of_cell? wc _ sm.1.1
    go_upto_region 5 with (go_at_call 17; refine (HRM.out _).mono ?_; rintro o w8 ⟨rfl, hb8⟩)
    obtain ⟨wb, hwb⟩ : ∃ wb, wb = w8.alloc (Obj.cells #[Value.int IntKind.u64 (L3 : Nat), Value.int IntKind.u64 (H3 : Nat)] 35) := ⟨_, rfl⟩
    have U8 : Up wc wb := by rw [hwb]; exact hb8.alloc _
    have UB : Up w wb := UW.trans U8
    have sz : RgAt w8.heap.size L3 H3 wb := by rw [hwb]; simp [RgAt]
    rw [← hwb]
    generalize w8.heap.size = z at sz ⊢
    have hB5 : B5 w.heap.size a b p q (w.heap.size + 1) c d r s m L1 H1 n L2 H2 z L3 H3 wb := ⟨B2.up U8 sB, RgAt.up U8 sm, RgAt.up U8 sn, sz⟩
    clear hwb sz sm sn sB U1 U2 UW U8 zm hb8 HM0 HOa HOb HRM
    cases e1
    · have ht' : t = (z1 && z2) := by rw [ht]; rfl
      clear ht
      cases z1
      · subst ht'
        refine wp_region_noPanic ?_
        refine wp_region_held_drew (S := B5 w.heap.size a b p q (w.heap.size + 1) c d r s m L1 H1 n L2 H2 z L3 H3) (by kernel_rfl) ?_ (fun hHeld => ?_)
        · exact B5.up ((Up.refl _).drew) hB5
        (try simp only [Act.put]); (try simp only [List.setIfInBounds_toArray]); (try simp only [List.set_cons_succ]); (try simp only [List.set_cons_zero])
        clear hHeld
        refine wpAnyH_take (i := 0) (oi := { dst := some 20, op := Op.load 31 (Operand.tmp 2), type := 31, pos := "law.go:48", after := #[], guard := none }) (v := ?vk37) rfl (by kernel_rfl) (by kernel_rfl) (by kernel_rfl) (fun _ _ _ h => h) (Or.inl ⟨by rfl, ?hk37⟩) (B5.up ((Up.refl wb).drew) hB5) ?rk37
        case hk37 => (intro wz hSw; (try dsimp only at hSw); go_simp; try with_reducible rfl)
        (try simp only [Act.put]); (try simp only [List.setIfInBounds_toArray]); (try simp only [List.set_cons_succ]); (try simp only [List.set_cons_zero])
        refine wpAnyH_take (i := 1) (oi := { dst := some 21, op := Op.load 31 (Operand.tmp 3), type := 31, pos := "law.go:48", after := #[], guard := none }) (v := ?vk38) rfl (by kernel_rfl) (by kernel_rfl) (by kernel_rfl) (fun _ _ _ h => h) (Or.inl ⟨by rfl, ?hk38⟩) (B5.up ((Up.refl wb).drew) hB5) ?rk38
        case hk38 => (intro wz hSw; (try dsimp only at hSw); go_simp; try with_reducible rfl)
        (try simp only [Act.put]); (try simp only [List.setIfInBounds_toArray]); (try simp only [List.set_cons_succ]); (try simp only [List.set_cons_zero])
        refine wpAnyH_take (i := 3) (oi := { dst := some 23, op := Op.load 35 (Operand.tmp 7), type := 35, pos := "law.go:48", after := #[], guard := none }) (v := ?vk39) rfl (by kernel_rfl) (by kernel_rfl) (by kernel_rfl) (fun _ _ _ h => h) (Or.inl ⟨by rfl, ?hk39⟩) (B5.up ((Up.refl wb).drew) hB5) ?rk39
        case hk39 => (intro wz hSw; (try dsimp only at hSw); go_simp; try with_reducible rfl)
        (try simp only [Act.put]); (try simp only [List.setIfInBounds_toArray]); (try simp only [List.set_cons_succ]); (try simp only [List.set_cons_zero])
        refine wpAnyH_ready (rs := [2]) (by kernel_rfl) (by simp) ?_
        refine AllReadyH.cons (o := { dst := some 22, op := Op.call { callee := Callee.value (Operand.func 14), args := #[Operand.tmp 20, Operand.tmp 21], argTypes := #[31, 31] }, type := 31, pos := "law.go:48", after := #[{ on := 0, ground := Ground.data }, { on := 1, ground := Ground.data }], guard := none }) rfl (fun K hK => ?_) AllReadyH.nil
        refine wantCall2 ?_ 14 (.tmp 20) (.tmp 21) #[31, 31] ?_ (.agg #[.float .f64 a, .float .f64 b, .bool p, .bool q]) (.agg #[.float .f64 c, .float .f64 d, .bool r, .bool s]) ?_ ?_ ?_ (ent_meet _ _) ?_
        · rfl
        · rfl
        · rfl
        · rfl
        · rfl
        refine (HM.out _).mono ?_
        rintro o x40 ⟨rfl, b40⟩
        refine ⟨_, rfl, ?_⟩
        have U40 := ((Up.refl wb).drew).trans b40
        refine hK.out _ _ (B5.up U40 hB5) (fun _ => ?_)
        clear hK K
        (try simp only [Act.put]); (try simp only [List.setIfInBounds_toArray]); (try simp only [List.set_cons_succ]); (try simp only [List.set_cons_zero])
        refine wpAnyH_ready (rs := [4]) (by kernel_rfl) (by simp) ?_
        refine AllReadyH.cons (o := { dst := some 24, op := Op.call { callee := Callee.value (Operand.func 19), args := #[Operand.tmp 23], argTypes := #[35] }, type := 31, pos := "law.go:48", after := #[{ on := 3, ground := Ground.data }, { on := 2, ground := Ground.chain }], guard := none }) rfl (fun K hK => ?_) AllReadyH.nil
        refine wantCall1 ?_ 19 (.tmp 23) #[35] ?_ (.agg #[.int .u64 (L3 : Nat), .int .u64 (H3 : Nat)]) ?_ ?_ (ent_span _ _) ?_
        · rfl
        · rfl
        · rfl
        · rfl
        refine (HSp.out _).mono ?_
        rintro o x41 ⟨rfl, b41⟩
        refine ⟨_, rfl, ?_⟩
        have U41 := U40.trans b41
        refine hK.out _ _ (B5.up U41 hB5) (fun _ => ?_)
        clear hK K
        (try simp only [Act.put]); (try simp only [List.setIfInBounds_toArray]); (try simp only [List.set_cons_succ]); (try simp only [List.set_cons_zero])
        refine wpAnyH_ready (rs := [5]) (by kernel_rfl) (by simp) ?_
        refine AllReadyH.cons (o := { dst := some 25, op := Op.call { callee := Callee.value (Operand.func 18), args := #[Operand.tmp 22, Operand.tmp 24], argTypes := #[31, 31] }, type := 4, pos := "law.go:48", after := #[{ on := 2, ground := Ground.data }, { on := 4, ground := Ground.data }, { on := 4, ground := Ground.chain }], guard := none }) rfl (fun K hK => ?_) AllReadyH.nil
        refine wantCall2 ?_ 18 (.tmp 22) (.tmp 24) #[31, 31] ?_ (.agg #[.float .f64 U, .float .f64 V, .bool E, .bool E]) (.agg #[.float .f64 U, .float .f64 V, .bool E, .bool E]) ?_ ?_ ?_ (ent_same _ _) ?_
        · rfl
        · rfl
        · rfl
        · rfl
        · rfl
        refine (HSS.out _).mono ?_
        rintro o x42 ⟨rfl, b42⟩
        refine ⟨_, rfl, ?_⟩
        have U42 := U41.trans b42
        refine hK.out _ _ (B5.up U42 hB5) (fun _ => ?_)
        clear hK K
        (try simp only [Act.put]); (try simp only [List.setIfInBounds_toArray]); (try simp only [List.set_cons_succ]); (try simp only [List.set_cons_zero])
        refine wpAnyH_take (i := 6) (oi := { dst := some 26, op := Op.move (Operand.tmp 25), type := 4, pos := "law.go:48", after := #[{ on := 5, ground := Ground.data }, { on := 5, ground := Ground.chain }], guard := none }) (v := ?vk43) rfl (by kernel_rfl) (by kernel_rfl) (by kernel_rfl) (fun _ _ _ h => h) (Or.inl ⟨by rfl, ?hk43⟩) (B5.up U42 hB5) ?rk43
        case hk43 => (intro wz hSw; (try dsimp only at hSw); go_simp; try with_reducible rfl)
        (try simp only [Act.put]); (try simp only [List.setIfInBounds_toArray]); (try simp only [List.set_cons_succ]); (try simp only [List.set_cons_zero])
        refine wpAnyH_take (i := 7) (oi := { dst := some 27, op := Op.load 31 (Operand.tmp 2), type := 31, pos := "law.go:48", after := #[{ on := 6, ground := Ground.guard }], guard := some (6, true) }) (v := ?vk44) rfl (by kernel_rfl) (by kernel_rfl) (by kernel_rfl) (fun _ _ _ h => h) (Or.inl ⟨by rfl, ?hk44⟩) (B5.up U42 hB5) ?rk44
        case hk44 => (intro wz hSw; (try dsimp only at hSw); go_simp; try with_reducible rfl)
        (try simp only [Act.put]); (try simp only [List.setIfInBounds_toArray]); (try simp only [List.set_cons_succ]); (try simp only [List.set_cons_zero])
        refine wpAnyH_take (i := 8) (oi := { dst := some 28, op := Op.load 31 (Operand.tmp 3), type := 31, pos := "law.go:48", after := #[{ on := 6, ground := Ground.guard }], guard := some (6, true) }) (v := ?vk45) rfl (by kernel_rfl) (by kernel_rfl) (by kernel_rfl) (fun _ _ _ h => h) (Or.inl ⟨by rfl, ?hk45⟩) (B5.up U42 hB5) ?rk45
        case hk45 => (intro wz hSw; (try dsimp only at hSw); go_simp; try with_reducible rfl)
        (try simp only [Act.put]); (try simp only [List.setIfInBounds_toArray]); (try simp only [List.set_cons_succ]); (try simp only [List.set_cons_zero])
        refine wpAnyH_take (i := 10) (oi := { dst := some 30, op := Op.load 35 (Operand.tmp 7), type := 35, pos := "law.go:48", after := #[{ on := 6, ground := Ground.guard }], guard := some (6, true) }) (v := ?vk46) rfl (by kernel_rfl) (by kernel_rfl) (by kernel_rfl) (fun _ _ _ h => h) (Or.inl ⟨by rfl, ?hk46⟩) (B5.up U42 hB5) ?rk46
        case hk46 => (intro wz hSw; (try dsimp only at hSw); go_simp; try with_reducible rfl)
        (try simp only [Act.put]); (try simp only [List.setIfInBounds_toArray]); (try simp only [List.set_cons_succ]); (try simp only [List.set_cons_zero])
        refine wpAnyH_ready (rs := [9]) (by kernel_rfl) (by simp) ?_
        refine AllReadyH.cons (o := { dst := some 29, op := Op.call { callee := Callee.value (Operand.func 20), args := #[Operand.tmp 27, Operand.tmp 28], argTypes := #[31, 31] }, type := 4, pos := "law.go:48", after := #[{ on := 7, ground := Ground.data }, { on := 8, ground := Ground.data }, { on := 6, ground := Ground.chain }, { on := 6, ground := Ground.guard }], guard := some (6, true) }) rfl (fun K hK => ?_) AllReadyH.nil
        refine wantCall2 ?_ 20 (.tmp 27) (.tmp 28) #[31, 31] ?_ (.agg #[.float .f64 a, .float .f64 b, .bool p, .bool q]) (.agg #[.float .f64 c, .float .f64 d, .bool r, .bool s]) ?_ ?_ ?_ (ent_apart _ _) ?_
        · rfl
        · rfl
        · rfl
        · rfl
        · rfl
        refine (HAp.out _).mono ?_
        rintro o x47 ⟨rfl, b47⟩
        refine ⟨_, rfl, ?_⟩
        have U47 := U42.trans b47
        refine hK.out _ _ (B5.up U47 hB5) (fun _ => ?_)
        clear hK K
        (try simp only [Act.put]); (try simp only [List.setIfInBounds_toArray]); (try simp only [List.set_cons_succ]); (try simp only [List.set_cons_zero])
        refine wpAnyH_ready (rs := [11]) (by kernel_rfl) (by simp) ?_
        refine AllReadyH.cons (o := { dst := some 31, op := Op.call { callee := Callee.value (Operand.func 21), args := #[Operand.tmp 30], argTypes := #[35] }, type := 4, pos := "law.go:48", after := #[{ on := 10, ground := Ground.data }, { on := 9, ground := Ground.chain }, { on := 6, ground := Ground.guard }], guard := some (6, true) }) rfl (fun K hK => ?_) AllReadyH.nil
        refine wantCall1 ?_ 21 (.tmp 30) #[35] ?_ (.agg #[.int .u64 (L3 : Nat), .int .u64 (H3 : Nat)]) ?_ ?_ (ent_rempty _ _) ?_
        · rfl
        · rfl
        · rfl
        · rfl
        refine (HE3.out _).mono ?_
        rintro o x48 ⟨rfl, b48⟩
        refine ⟨_, rfl, ?_⟩
        have U48 := U47.trans b48
        refine hK.out _ _ (B5.up U48 hB5) (fun _ => ?_)
        clear hK K
        (try simp only [Act.put]); (try simp only [List.setIfInBounds_toArray]); (try simp only [List.set_cons_succ]); (try simp only [List.set_cons_zero])
        refine wpAnyH_take (i := 12) (oi := { dst := some 32, op := Op.binOp BinOp.eql 4 (Operand.tmp 29) (Operand.tmp 31) 4, type := 4, pos := "law.go:48", after := #[{ on := 9, ground := Ground.data }, { on := 11, ground := Ground.data }, { on := 6, ground := Ground.guard }], guard := some (6, true) }) (v := ?vk49) rfl (by kernel_rfl) (by kernel_rfl) (by kernel_rfl) (fun _ _ _ h => h) (Or.inl ⟨by rfl, ?hk49⟩) (B5.up U48 hB5) ?rk49
        case hk49 => (intro wz hSw; (try dsimp only at hSw); go_simp; try with_reducible rfl)
        (try simp only [Act.put]); (try simp only [List.setIfInBounds_toArray]); (try simp only [List.set_cons_succ]); (try simp only [List.set_cons_zero])
        refine wpAnyH_take (i := 13) (oi := { dst := some 33, op := Op.pick (Operand.tmp 26) (Operand.tmp 32) (Operand.const (Value.bool false)), type := 4, pos := "law.go:48", after := #[{ on := 6, ground := Ground.data }, { on := 12, ground := Ground.data }], guard := none }) (v := ?vk50) rfl (by kernel_rfl) (by kernel_rfl) (by kernel_rfl) (fun _ _ _ h => h) (Or.inl ⟨by rfl, ?hk50⟩) (B5.up U48 hB5) ?rk50
        case hk50 => (intro wz hSw; (try dsimp only at hSw); go_simp; try with_reducible rfl)
        (try simp only [Act.put]); (try simp only [List.setIfInBounds_toArray]); (try simp only [List.set_cons_succ]); (try simp only [List.set_cons_zero])
        refine wpAnyH_take (i := 14) (oi := { dst := some 34, op := Op.move (Operand.tmp 33), type := 4, pos := "law.go:48", after := #[{ on := 13, ground := Ground.data }, { on := 11, ground := Ground.chain }], guard := none }) (v := ?vk51) rfl (by kernel_rfl) (by kernel_rfl) (by kernel_rfl) (fun _ _ _ h => h) (Or.inl ⟨by rfl, ?hk51⟩) (B5.up U48 hB5) ?rk51
        case hk51 => (intro wz hSw; (try dsimp only at hSw); go_simp; try with_reducible rfl)
        (try simp only [Act.put]); (try simp only [List.setIfInBounds_toArray]); (try simp only [List.set_cons_succ]); (try simp only [List.set_cons_zero])
        refine wpAnyH_take (i := 15) (oi := { dst := some 35, op := Op.load 31 (Operand.tmp 2), type := 31, pos := "law.go:48", after := #[{ on := 14, ground := Ground.guard }], guard := some (14, true) }) (v := ?vk52) rfl (by kernel_rfl) (by kernel_rfl) (by kernel_rfl) (fun _ _ _ h => h) (Or.inl ⟨by rfl, ?hk52⟩) (B5.up U48 hB5) ?rk52
        case hk52 => (intro wz hSw; (try dsimp only at hSw); go_simp; try with_reducible rfl)
        (try simp only [Act.put]); (try simp only [List.setIfInBounds_toArray]); (try simp only [List.set_cons_succ]); (try simp only [List.set_cons_zero])
        refine wpAnyH_take (i := 16) (oi := { dst := some 36, op := Op.load 31 (Operand.tmp 3), type := 31, pos := "law.go:48", after := #[{ on := 14, ground := Ground.guard }], guard := some (14, true) }) (v := ?vk53) rfl (by kernel_rfl) (by kernel_rfl) (by kernel_rfl) (fun _ _ _ h => h) (Or.inl ⟨by rfl, ?hk53⟩) (B5.up U48 hB5) ?rk53
        case hk53 => (intro wz hSw; (try dsimp only at hSw); go_simp; try with_reducible rfl)
        (try simp only [Act.put]); (try simp only [List.setIfInBounds_toArray]); (try simp only [List.set_cons_succ]); (try simp only [List.set_cons_zero])
        refine wpAnyH_take (i := 18) (oi := { dst := some 38, op := Op.load 35 (Operand.tmp 5), type := 35, pos := "law.go:48", after := #[{ on := 14, ground := Ground.guard }], guard := some (14, true) }) (v := ?vk54) rfl (by kernel_rfl) (by kernel_rfl) (by kernel_rfl) (fun _ _ _ h => h) (Or.inl ⟨by rfl, ?hk54⟩) (B5.up U48 hB5) ?rk54
        case hk54 => (intro wz hSw; (try dsimp only at hSw); go_simp; try with_reducible rfl)
        (try simp only [Act.put]); (try simp only [List.setIfInBounds_toArray]); (try simp only [List.set_cons_succ]); (try simp only [List.set_cons_zero])
        refine wpAnyH_ready (rs := [17]) (by kernel_rfl) (by simp) ?_
        refine AllReadyH.cons (o := { dst := some 37, op := Op.call { callee := Callee.value (Operand.func 22), args := #[Operand.tmp 35, Operand.tmp 36], argTypes := #[31, 31] }, type := 4, pos := "law.go:48", after := #[{ on := 15, ground := Ground.data }, { on := 16, ground := Ground.data }, { on := 14, ground := Ground.chain }, { on := 14, ground := Ground.guard }], guard := some (14, true) }) rfl (fun K hK => ?_) AllReadyH.nil
        refine wantCall2 ?_ 22 (.tmp 35) (.tmp 36) #[31, 31] ?_ (.agg #[.float .f64 a, .float .f64 b, .bool p, .bool q]) (.agg #[.float .f64 c, .float .f64 d, .bool r, .bool s]) ?_ ?_ ?_ (ent_within _ _) ?_
        · rfl
        · rfl
        · rfl
        · rfl
        · rfl
        refine (HW.out _).mono ?_
        rintro o x55 ⟨rfl, b55⟩
        refine ⟨_, rfl, ?_⟩
        have U55 := U48.trans b55
        refine hK.out _ _ (B5.up U55 hB5) (fun _ => ?_)
        clear hK K
        (try simp only [Act.put]); (try simp only [List.setIfInBounds_toArray]); (try simp only [List.set_cons_succ]); (try simp only [List.set_cons_zero])
        refine wpAnyH_ready (rs := [19]) (by kernel_rfl) (by simp) ?_
        refine AllReadyH.cons (o := { dst := some 39, op := Op.call { callee := Callee.value (Operand.func 21), args := #[Operand.tmp 38], argTypes := #[35] }, type := 4, pos := "law.go:48", after := #[{ on := 18, ground := Ground.data }, { on := 17, ground := Ground.chain }, { on := 14, ground := Ground.guard }], guard := some (14, true) }) rfl (fun K hK => ?_) AllReadyH.nil
        refine wantCall1 ?_ 21 (.tmp 38) #[35] ?_ (.agg #[.int .u64 (L1 : Nat), .int .u64 (H1 : Nat)]) ?_ ?_ (ent_rempty _ _) ?_
        · rfl
        · rfl
        · rfl
        · rfl
        refine (HE1.out _).mono ?_
        rintro o x56 ⟨rfl, b56⟩
        refine ⟨_, rfl, ?_⟩
        have U56 := U55.trans b56
        refine hK.out _ _ (B5.up U56 hB5) (fun _ => ?_)
        clear hK K
        (try simp only [Act.put]); (try simp only [List.setIfInBounds_toArray]); (try simp only [List.set_cons_succ]); (try simp only [List.set_cons_zero])
        refine wpAnyH_take (i := 20) (oi := { dst := some 40, op := Op.move (Operand.tmp 39), type := 4, pos := "law.go:48", after := #[{ on := 19, ground := Ground.data }, { on := 19, ground := Ground.chain }, { on := 14, ground := Ground.guard }], guard := some (14, true) }) (v := ?vk57) rfl (by kernel_rfl) (by kernel_rfl) (by kernel_rfl) (fun _ _ _ h => h) (Or.inl ⟨by rfl, ?hk57⟩) (B5.up U56 hB5) ?rk57
        case hk57 => (intro wz hSw; (try dsimp only at hSw); go_simp; try with_reducible rfl)
        (try simp only [Act.put]); (try simp only [List.setIfInBounds_toArray]); (try simp only [List.set_cons_succ]); (try simp only [List.set_cons_zero])
        refine wpAnyH_take (i := 21) (oi := { dst := some 41, op := Op.load 35 (Operand.tmp 7), type := 35, pos := "law.go:48", after := #[{ on := 20, ground := Ground.guard }], guard := some (20, false) }) (v := ?vk58) rfl (by kernel_rfl) (by kernel_rfl) (by kernel_rfl) (fun _ _ _ h => h) (Or.inl ⟨by rfl, ?hk58⟩) (B5.up U56 hB5) ?rk58
        case hk58 => (intro wz hSw; (try dsimp only at hSw); go_simp; try with_reducible rfl)
        (try simp only [Act.put]); (try simp only [List.setIfInBounds_toArray]); (try simp only [List.set_cons_succ]); (try simp only [List.set_cons_zero])
        refine wpAnyH_take (i := 22) (oi := { dst := some 42, op := Op.load 35 (Operand.tmp 5), type := 35, pos := "law.go:48", after := #[{ on := 20, ground := Ground.guard }], guard := some (20, false) }) (v := ?vk59) rfl (by kernel_rfl) (by kernel_rfl) (by kernel_rfl) (fun _ _ _ h => h) (Or.inl ⟨by rfl, ?hk59⟩) (B5.up U56 hB5) ?rk59
        case hk59 => (intro wz hSw; (try dsimp only at hSw); go_simp; try with_reducible rfl)
        (try simp only [Act.put]); (try simp only [List.setIfInBounds_toArray]); (try simp only [List.set_cons_succ]); (try simp only [List.set_cons_zero])
        refine wpAnyH_take (i := 23) (oi := { dst := some 43, op := Op.binOp BinOp.eql 35 (Operand.tmp 41) (Operand.tmp 42) 35, type := 4, pos := "law.go:48", after := #[{ on := 21, ground := Ground.data }, { on := 22, ground := Ground.data }, { on := 20, ground := Ground.guard }], guard := some (20, false) }) (v := ?vk60) rfl (by kernel_rfl) (by kernel_rfl) (by kernel_rfl) (fun _ _ _ h => h) (Or.inl ⟨by rfl, ?hk60⟩) (B5.up U56 hB5) ?rk60
        case hk60 => (intro wz hSw; (try dsimp only at hSw); go_simp; try with_reducible rfl)
        (try simp only [Act.put]); (try simp only [List.setIfInBounds_toArray]); (try simp only [List.set_cons_succ]); (try simp only [List.set_cons_zero])
        refine wpAnyH_take (i := 24) (oi := { dst := some 44, op := Op.pick (Operand.tmp 40) (Operand.const (Value.bool true)) (Operand.tmp 43), type := 4, pos := "law.go:48", after := #[{ on := 20, ground := Ground.data }, { on := 23, ground := Ground.data }, { on := 14, ground := Ground.guard }], guard := some (14, true) }) (v := ?vk61) rfl (by kernel_rfl) (by kernel_rfl) (by kernel_rfl) (fun _ _ _ h => h) (Or.inl ⟨by rfl, ?hk61⟩) (B5.up U56 hB5) ?rk61
        case hk61 => (intro wz hSw; (try dsimp only at hSw); go_simp; try with_reducible rfl)
        (try simp only [Act.put]); (try simp only [List.setIfInBounds_toArray]); (try simp only [List.set_cons_succ]); (try simp only [List.set_cons_zero])
        refine wpAnyH_take (i := 25) (oi := { dst := some 45, op := Op.binOp BinOp.eql 4 (Operand.tmp 37) (Operand.tmp 44) 4, type := 4, pos := "law.go:48", after := #[{ on := 17, ground := Ground.data }, { on := 24, ground := Ground.data }, { on := 14, ground := Ground.guard }], guard := some (14, true) }) (v := ?vk62) rfl (by kernel_rfl) (by kernel_rfl) (by kernel_rfl) (fun _ _ _ h => h) (Or.inl ⟨by rfl, ?hk62⟩) (B5.up U56 hB5) ?rk62
        case hk62 => (intro wz hSw; (try dsimp only at hSw); go_simp; try with_reducible rfl)
        (try simp only [Act.put]); (try simp only [List.setIfInBounds_toArray]); (try simp only [List.set_cons_succ]); (try simp only [List.set_cons_zero])
        refine wpAnyH_take (i := 26) (oi := { dst := some 46, op := Op.pick (Operand.tmp 34) (Operand.tmp 45) (Operand.const (Value.bool false)), type := 4, pos := "law.go:48", after := #[{ on := 14, ground := Ground.data }, { on := 25, ground := Ground.data }], guard := none }) (v := ?vk63) rfl (by kernel_rfl) (by kernel_rfl) (by kernel_rfl) (fun _ _ _ h => h) (Or.inl ⟨by rfl, ?hk63⟩) (B5.up U56 hB5) ?rk63
        case hk63 => (intro wz hSw; (try dsimp only at hSw); go_simp; try with_reducible rfl)
        (try simp only [Act.put]); (try simp only [List.setIfInBounds_toArray]); (try simp only [List.set_cons_succ]); (try simp only [List.set_cons_zero])
        refine wpAnyH_ready (rs := [27]) (by kernel_rfl) (by simp) ?_
        refine AllReadyH.cons (o := { dst := some 4, op := Op.assign (Operand.tmp 46), type := 4, pos := "law.go:48", after := #[{ on := 26, ground := Ground.data }, { on := 20, ground := Ground.chain }, { on := 0, ground := Ground.phase }, { on := 1, ground := Ground.phase }, { on := 2, ground := Ground.phase }, { on := 3, ground := Ground.phase }, { on := 4, ground := Ground.phase }, { on := 5, ground := Ground.phase }, { on := 6, ground := Ground.phase }, { on := 7, ground := Ground.phase }, { on := 8, ground := Ground.phase }, { on := 9, ground := Ground.phase }, { on := 10, ground := Ground.phase }, { on := 11, ground := Ground.phase }, { on := 12, ground := Ground.phase }, { on := 13, ground := Ground.phase }, { on := 14, ground := Ground.phase }, { on := 15, ground := Ground.phase }, { on := 16, ground := Ground.phase }, { on := 17, ground := Ground.phase }, { on := 18, ground := Ground.phase }, { on := 19, ground := Ground.phase }, { on := 20, ground := Ground.phase }, { on := 21, ground := Ground.phase }, { on := 22, ground := Ground.phase }, { on := 23, ground := Ground.phase }, { on := 24, ground := Ground.phase }, { on := 25, ground := Ground.phase }, { on := 26, ground := Ground.phase }], guard := none }) rfl (fun K hK => ?_) AllReadyH.nil
        go_simp
        refine hK.out _ _ (B5.up U56 hB5) (fun _ => ?_)
        clear hK K
        (try simp only [Act.put]); (try simp only [List.setIfInBounds_toArray]); (try simp only [List.set_cons_succ]); (try simp only [List.set_cons_zero])
        refine wpAnyH_done (by kernel_rfl) ?_ _
        refine NoPanic.normal ?_
        go_wp2
        go_ret
        exact ⟨rfl, UB.trans U56⟩
      · cases z2
        · subst ht'
          refine wp_region_noPanic ?_
          refine wp_region_held_drew (S := B5 w.heap.size a b p q (w.heap.size + 1) c d r s m L1 H1 n L2 H2 z L3 H3) (by kernel_rfl) ?_ (fun hHeld => ?_)
          · exact B5.up ((Up.refl _).drew) hB5
          (try simp only [Act.put]); (try simp only [List.setIfInBounds_toArray]); (try simp only [List.set_cons_succ]); (try simp only [List.set_cons_zero])
          clear hHeld
          refine wpAnyH_take (i := 0) (oi := { dst := some 20, op := Op.load 31 (Operand.tmp 2), type := 31, pos := "law.go:48", after := #[], guard := none }) (v := ?vk64) rfl (by kernel_rfl) (by kernel_rfl) (by kernel_rfl) (fun _ _ _ h => h) (Or.inl ⟨by rfl, ?hk64⟩) (B5.up ((Up.refl wb).drew) hB5) ?rk64
          case hk64 => (intro wz hSw; (try dsimp only at hSw); go_simp; try with_reducible rfl)
          (try simp only [Act.put]); (try simp only [List.setIfInBounds_toArray]); (try simp only [List.set_cons_succ]); (try simp only [List.set_cons_zero])
          refine wpAnyH_take (i := 1) (oi := { dst := some 21, op := Op.load 31 (Operand.tmp 3), type := 31, pos := "law.go:48", after := #[], guard := none }) (v := ?vk65) rfl (by kernel_rfl) (by kernel_rfl) (by kernel_rfl) (fun _ _ _ h => h) (Or.inl ⟨by rfl, ?hk65⟩) (B5.up ((Up.refl wb).drew) hB5) ?rk65
          case hk65 => (intro wz hSw; (try dsimp only at hSw); go_simp; try with_reducible rfl)
          (try simp only [Act.put]); (try simp only [List.setIfInBounds_toArray]); (try simp only [List.set_cons_succ]); (try simp only [List.set_cons_zero])
          refine wpAnyH_take (i := 3) (oi := { dst := some 23, op := Op.load 35 (Operand.tmp 7), type := 35, pos := "law.go:48", after := #[], guard := none }) (v := ?vk66) rfl (by kernel_rfl) (by kernel_rfl) (by kernel_rfl) (fun _ _ _ h => h) (Or.inl ⟨by rfl, ?hk66⟩) (B5.up ((Up.refl wb).drew) hB5) ?rk66
          case hk66 => (intro wz hSw; (try dsimp only at hSw); go_simp; try with_reducible rfl)
          (try simp only [Act.put]); (try simp only [List.setIfInBounds_toArray]); (try simp only [List.set_cons_succ]); (try simp only [List.set_cons_zero])
          refine wpAnyH_ready (rs := [2]) (by kernel_rfl) (by simp) ?_
          refine AllReadyH.cons (o := { dst := some 22, op := Op.call { callee := Callee.value (Operand.func 14), args := #[Operand.tmp 20, Operand.tmp 21], argTypes := #[31, 31] }, type := 31, pos := "law.go:48", after := #[{ on := 0, ground := Ground.data }, { on := 1, ground := Ground.data }], guard := none }) rfl (fun K hK => ?_) AllReadyH.nil
          refine wantCall2 ?_ 14 (.tmp 20) (.tmp 21) #[31, 31] ?_ (.agg #[.float .f64 a, .float .f64 b, .bool p, .bool q]) (.agg #[.float .f64 c, .float .f64 d, .bool r, .bool s]) ?_ ?_ ?_ (ent_meet _ _) ?_
          · rfl
          · rfl
          · rfl
          · rfl
          · rfl
          refine (HM.out _).mono ?_
          rintro o x67 ⟨rfl, b67⟩
          refine ⟨_, rfl, ?_⟩
          have U67 := ((Up.refl wb).drew).trans b67
          refine hK.out _ _ (B5.up U67 hB5) (fun _ => ?_)
          clear hK K
          (try simp only [Act.put]); (try simp only [List.setIfInBounds_toArray]); (try simp only [List.set_cons_succ]); (try simp only [List.set_cons_zero])
          refine wpAnyH_ready (rs := [4]) (by kernel_rfl) (by simp) ?_
          refine AllReadyH.cons (o := { dst := some 24, op := Op.call { callee := Callee.value (Operand.func 19), args := #[Operand.tmp 23], argTypes := #[35] }, type := 31, pos := "law.go:48", after := #[{ on := 3, ground := Ground.data }, { on := 2, ground := Ground.chain }], guard := none }) rfl (fun K hK => ?_) AllReadyH.nil
          refine wantCall1 ?_ 19 (.tmp 23) #[35] ?_ (.agg #[.int .u64 (L3 : Nat), .int .u64 (H3 : Nat)]) ?_ ?_ (ent_span _ _) ?_
          · rfl
          · rfl
          · rfl
          · rfl
          refine (HSp.out _).mono ?_
          rintro o x68 ⟨rfl, b68⟩
          refine ⟨_, rfl, ?_⟩
          have U68 := U67.trans b68
          refine hK.out _ _ (B5.up U68 hB5) (fun _ => ?_)
          clear hK K
          (try simp only [Act.put]); (try simp only [List.setIfInBounds_toArray]); (try simp only [List.set_cons_succ]); (try simp only [List.set_cons_zero])
          refine wpAnyH_ready (rs := [5]) (by kernel_rfl) (by simp) ?_
          refine AllReadyH.cons (o := { dst := some 25, op := Op.call { callee := Callee.value (Operand.func 18), args := #[Operand.tmp 22, Operand.tmp 24], argTypes := #[31, 31] }, type := 4, pos := "law.go:48", after := #[{ on := 2, ground := Ground.data }, { on := 4, ground := Ground.data }, { on := 4, ground := Ground.chain }], guard := none }) rfl (fun K hK => ?_) AllReadyH.nil
          refine wantCall2 ?_ 18 (.tmp 22) (.tmp 24) #[31, 31] ?_ (.agg #[.float .f64 U, .float .f64 V, .bool E, .bool E]) (.agg #[.float .f64 U, .float .f64 V, .bool E, .bool E]) ?_ ?_ ?_ (ent_same _ _) ?_
          · rfl
          · rfl
          · rfl
          · rfl
          · rfl
          refine (HSS.out _).mono ?_
          rintro o x69 ⟨rfl, b69⟩
          refine ⟨_, rfl, ?_⟩
          have U69 := U68.trans b69
          refine hK.out _ _ (B5.up U69 hB5) (fun _ => ?_)
          clear hK K
          (try simp only [Act.put]); (try simp only [List.setIfInBounds_toArray]); (try simp only [List.set_cons_succ]); (try simp only [List.set_cons_zero])
          refine wpAnyH_take (i := 6) (oi := { dst := some 26, op := Op.move (Operand.tmp 25), type := 4, pos := "law.go:48", after := #[{ on := 5, ground := Ground.data }, { on := 5, ground := Ground.chain }], guard := none }) (v := ?vk70) rfl (by kernel_rfl) (by kernel_rfl) (by kernel_rfl) (fun _ _ _ h => h) (Or.inl ⟨by rfl, ?hk70⟩) (B5.up U69 hB5) ?rk70
          case hk70 => (intro wz hSw; (try dsimp only at hSw); go_simp; try with_reducible rfl)
          (try simp only [Act.put]); (try simp only [List.setIfInBounds_toArray]); (try simp only [List.set_cons_succ]); (try simp only [List.set_cons_zero])
          refine wpAnyH_take (i := 7) (oi := { dst := some 27, op := Op.load 31 (Operand.tmp 2), type := 31, pos := "law.go:48", after := #[{ on := 6, ground := Ground.guard }], guard := some (6, true) }) (v := ?vk71) rfl (by kernel_rfl) (by kernel_rfl) (by kernel_rfl) (fun _ _ _ h => h) (Or.inl ⟨by rfl, ?hk71⟩) (B5.up U69 hB5) ?rk71
          case hk71 => (intro wz hSw; (try dsimp only at hSw); go_simp; try with_reducible rfl)
          (try simp only [Act.put]); (try simp only [List.setIfInBounds_toArray]); (try simp only [List.set_cons_succ]); (try simp only [List.set_cons_zero])
          refine wpAnyH_take (i := 8) (oi := { dst := some 28, op := Op.load 31 (Operand.tmp 3), type := 31, pos := "law.go:48", after := #[{ on := 6, ground := Ground.guard }], guard := some (6, true) }) (v := ?vk72) rfl (by kernel_rfl) (by kernel_rfl) (by kernel_rfl) (fun _ _ _ h => h) (Or.inl ⟨by rfl, ?hk72⟩) (B5.up U69 hB5) ?rk72
          case hk72 => (intro wz hSw; (try dsimp only at hSw); go_simp; try with_reducible rfl)
          (try simp only [Act.put]); (try simp only [List.setIfInBounds_toArray]); (try simp only [List.set_cons_succ]); (try simp only [List.set_cons_zero])
          refine wpAnyH_take (i := 10) (oi := { dst := some 30, op := Op.load 35 (Operand.tmp 7), type := 35, pos := "law.go:48", after := #[{ on := 6, ground := Ground.guard }], guard := some (6, true) }) (v := ?vk73) rfl (by kernel_rfl) (by kernel_rfl) (by kernel_rfl) (fun _ _ _ h => h) (Or.inl ⟨by rfl, ?hk73⟩) (B5.up U69 hB5) ?rk73
          case hk73 => (intro wz hSw; (try dsimp only at hSw); go_simp; try with_reducible rfl)
          (try simp only [Act.put]); (try simp only [List.setIfInBounds_toArray]); (try simp only [List.set_cons_succ]); (try simp only [List.set_cons_zero])
          refine wpAnyH_ready (rs := [9]) (by kernel_rfl) (by simp) ?_
          refine AllReadyH.cons (o := { dst := some 29, op := Op.call { callee := Callee.value (Operand.func 20), args := #[Operand.tmp 27, Operand.tmp 28], argTypes := #[31, 31] }, type := 4, pos := "law.go:48", after := #[{ on := 7, ground := Ground.data }, { on := 8, ground := Ground.data }, { on := 6, ground := Ground.chain }, { on := 6, ground := Ground.guard }], guard := some (6, true) }) rfl (fun K hK => ?_) AllReadyH.nil
          refine wantCall2 ?_ 20 (.tmp 27) (.tmp 28) #[31, 31] ?_ (.agg #[.float .f64 a, .float .f64 b, .bool p, .bool q]) (.agg #[.float .f64 c, .float .f64 d, .bool r, .bool s]) ?_ ?_ ?_ (ent_apart _ _) ?_
          · rfl
          · rfl
          · rfl
          · rfl
          · rfl
          refine (HAp.out _).mono ?_
          rintro o x74 ⟨rfl, b74⟩
          refine ⟨_, rfl, ?_⟩
          have U74 := U69.trans b74
          refine hK.out _ _ (B5.up U74 hB5) (fun _ => ?_)
          clear hK K
          (try simp only [Act.put]); (try simp only [List.setIfInBounds_toArray]); (try simp only [List.set_cons_succ]); (try simp only [List.set_cons_zero])
          refine wpAnyH_ready (rs := [11]) (by kernel_rfl) (by simp) ?_
          refine AllReadyH.cons (o := { dst := some 31, op := Op.call { callee := Callee.value (Operand.func 21), args := #[Operand.tmp 30], argTypes := #[35] }, type := 4, pos := "law.go:48", after := #[{ on := 10, ground := Ground.data }, { on := 9, ground := Ground.chain }, { on := 6, ground := Ground.guard }], guard := some (6, true) }) rfl (fun K hK => ?_) AllReadyH.nil
          refine wantCall1 ?_ 21 (.tmp 30) #[35] ?_ (.agg #[.int .u64 (L3 : Nat), .int .u64 (H3 : Nat)]) ?_ ?_ (ent_rempty _ _) ?_
          · rfl
          · rfl
          · rfl
          · rfl
          refine (HE3.out _).mono ?_
          rintro o x75 ⟨rfl, b75⟩
          refine ⟨_, rfl, ?_⟩
          have U75 := U74.trans b75
          refine hK.out _ _ (B5.up U75 hB5) (fun _ => ?_)
          clear hK K
          (try simp only [Act.put]); (try simp only [List.setIfInBounds_toArray]); (try simp only [List.set_cons_succ]); (try simp only [List.set_cons_zero])
          refine wpAnyH_take (i := 12) (oi := { dst := some 32, op := Op.binOp BinOp.eql 4 (Operand.tmp 29) (Operand.tmp 31) 4, type := 4, pos := "law.go:48", after := #[{ on := 9, ground := Ground.data }, { on := 11, ground := Ground.data }, { on := 6, ground := Ground.guard }], guard := some (6, true) }) (v := ?vk76) rfl (by kernel_rfl) (by kernel_rfl) (by kernel_rfl) (fun _ _ _ h => h) (Or.inl ⟨by rfl, ?hk76⟩) (B5.up U75 hB5) ?rk76
          case hk76 => (intro wz hSw; (try dsimp only at hSw); go_simp; try with_reducible rfl)
          (try simp only [Act.put]); (try simp only [List.setIfInBounds_toArray]); (try simp only [List.set_cons_succ]); (try simp only [List.set_cons_zero])
          refine wpAnyH_take (i := 13) (oi := { dst := some 33, op := Op.pick (Operand.tmp 26) (Operand.tmp 32) (Operand.const (Value.bool false)), type := 4, pos := "law.go:48", after := #[{ on := 6, ground := Ground.data }, { on := 12, ground := Ground.data }], guard := none }) (v := ?vk77) rfl (by kernel_rfl) (by kernel_rfl) (by kernel_rfl) (fun _ _ _ h => h) (Or.inl ⟨by rfl, ?hk77⟩) (B5.up U75 hB5) ?rk77
          case hk77 => (intro wz hSw; (try dsimp only at hSw); go_simp; try with_reducible rfl)
          (try simp only [Act.put]); (try simp only [List.setIfInBounds_toArray]); (try simp only [List.set_cons_succ]); (try simp only [List.set_cons_zero])
          refine wpAnyH_take (i := 14) (oi := { dst := some 34, op := Op.move (Operand.tmp 33), type := 4, pos := "law.go:48", after := #[{ on := 13, ground := Ground.data }, { on := 11, ground := Ground.chain }], guard := none }) (v := ?vk78) rfl (by kernel_rfl) (by kernel_rfl) (by kernel_rfl) (fun _ _ _ h => h) (Or.inl ⟨by rfl, ?hk78⟩) (B5.up U75 hB5) ?rk78
          case hk78 => (intro wz hSw; (try dsimp only at hSw); go_simp; try with_reducible rfl)
          (try simp only [Act.put]); (try simp only [List.setIfInBounds_toArray]); (try simp only [List.set_cons_succ]); (try simp only [List.set_cons_zero])
          refine wpAnyH_take (i := 15) (oi := { dst := some 35, op := Op.load 31 (Operand.tmp 2), type := 31, pos := "law.go:48", after := #[{ on := 14, ground := Ground.guard }], guard := some (14, true) }) (v := ?vk79) rfl (by kernel_rfl) (by kernel_rfl) (by kernel_rfl) (fun _ _ _ h => h) (Or.inl ⟨by rfl, ?hk79⟩) (B5.up U75 hB5) ?rk79
          case hk79 => (intro wz hSw; (try dsimp only at hSw); go_simp; try with_reducible rfl)
          (try simp only [Act.put]); (try simp only [List.setIfInBounds_toArray]); (try simp only [List.set_cons_succ]); (try simp only [List.set_cons_zero])
          refine wpAnyH_take (i := 16) (oi := { dst := some 36, op := Op.load 31 (Operand.tmp 3), type := 31, pos := "law.go:48", after := #[{ on := 14, ground := Ground.guard }], guard := some (14, true) }) (v := ?vk80) rfl (by kernel_rfl) (by kernel_rfl) (by kernel_rfl) (fun _ _ _ h => h) (Or.inl ⟨by rfl, ?hk80⟩) (B5.up U75 hB5) ?rk80
          case hk80 => (intro wz hSw; (try dsimp only at hSw); go_simp; try with_reducible rfl)
          (try simp only [Act.put]); (try simp only [List.setIfInBounds_toArray]); (try simp only [List.set_cons_succ]); (try simp only [List.set_cons_zero])
          refine wpAnyH_take (i := 18) (oi := { dst := some 38, op := Op.load 35 (Operand.tmp 5), type := 35, pos := "law.go:48", after := #[{ on := 14, ground := Ground.guard }], guard := some (14, true) }) (v := ?vk81) rfl (by kernel_rfl) (by kernel_rfl) (by kernel_rfl) (fun _ _ _ h => h) (Or.inl ⟨by rfl, ?hk81⟩) (B5.up U75 hB5) ?rk81
          case hk81 => (intro wz hSw; (try dsimp only at hSw); go_simp; try with_reducible rfl)
          (try simp only [Act.put]); (try simp only [List.setIfInBounds_toArray]); (try simp only [List.set_cons_succ]); (try simp only [List.set_cons_zero])
          refine wpAnyH_ready (rs := [17]) (by kernel_rfl) (by simp) ?_
          refine AllReadyH.cons (o := { dst := some 37, op := Op.call { callee := Callee.value (Operand.func 22), args := #[Operand.tmp 35, Operand.tmp 36], argTypes := #[31, 31] }, type := 4, pos := "law.go:48", after := #[{ on := 15, ground := Ground.data }, { on := 16, ground := Ground.data }, { on := 14, ground := Ground.chain }, { on := 14, ground := Ground.guard }], guard := some (14, true) }) rfl (fun K hK => ?_) AllReadyH.nil
          refine wantCall2 ?_ 22 (.tmp 35) (.tmp 36) #[31, 31] ?_ (.agg #[.float .f64 a, .float .f64 b, .bool p, .bool q]) (.agg #[.float .f64 c, .float .f64 d, .bool r, .bool s]) ?_ ?_ ?_ (ent_within _ _) ?_
          · rfl
          · rfl
          · rfl
          · rfl
          · rfl
          refine (HW.out _).mono ?_
          rintro o x82 ⟨rfl, b82⟩
          refine ⟨_, rfl, ?_⟩
          have U82 := U75.trans b82
          refine hK.out _ _ (B5.up U82 hB5) (fun _ => ?_)
          clear hK K
          (try simp only [Act.put]); (try simp only [List.setIfInBounds_toArray]); (try simp only [List.set_cons_succ]); (try simp only [List.set_cons_zero])
          refine wpAnyH_ready (rs := [19]) (by kernel_rfl) (by simp) ?_
          refine AllReadyH.cons (o := { dst := some 39, op := Op.call { callee := Callee.value (Operand.func 21), args := #[Operand.tmp 38], argTypes := #[35] }, type := 4, pos := "law.go:48", after := #[{ on := 18, ground := Ground.data }, { on := 17, ground := Ground.chain }, { on := 14, ground := Ground.guard }], guard := some (14, true) }) rfl (fun K hK => ?_) AllReadyH.nil
          refine wantCall1 ?_ 21 (.tmp 38) #[35] ?_ (.agg #[.int .u64 (L1 : Nat), .int .u64 (H1 : Nat)]) ?_ ?_ (ent_rempty _ _) ?_
          · rfl
          · rfl
          · rfl
          · rfl
          refine (HE1.out _).mono ?_
          rintro o x83 ⟨rfl, b83⟩
          refine ⟨_, rfl, ?_⟩
          have U83 := U82.trans b83
          refine hK.out _ _ (B5.up U83 hB5) (fun _ => ?_)
          clear hK K
          (try simp only [Act.put]); (try simp only [List.setIfInBounds_toArray]); (try simp only [List.set_cons_succ]); (try simp only [List.set_cons_zero])
          refine wpAnyH_take (i := 20) (oi := { dst := some 40, op := Op.move (Operand.tmp 39), type := 4, pos := "law.go:48", after := #[{ on := 19, ground := Ground.data }, { on := 19, ground := Ground.chain }, { on := 14, ground := Ground.guard }], guard := some (14, true) }) (v := ?vk84) rfl (by kernel_rfl) (by kernel_rfl) (by kernel_rfl) (fun _ _ _ h => h) (Or.inl ⟨by rfl, ?hk84⟩) (B5.up U83 hB5) ?rk84
          case hk84 => (intro wz hSw; (try dsimp only at hSw); go_simp; try with_reducible rfl)
          (try simp only [Act.put]); (try simp only [List.setIfInBounds_toArray]); (try simp only [List.set_cons_succ]); (try simp only [List.set_cons_zero])
          refine wpAnyH_take (i := 21) (oi := { dst := some 41, op := Op.load 35 (Operand.tmp 7), type := 35, pos := "law.go:48", after := #[{ on := 20, ground := Ground.guard }], guard := some (20, false) }) (v := ?vk85) rfl (by kernel_rfl) (by kernel_rfl) (by kernel_rfl) (fun _ _ _ h => h) (Or.inl ⟨by rfl, ?hk85⟩) (B5.up U83 hB5) ?rk85
          case hk85 => (intro wz hSw; (try dsimp only at hSw); go_simp; try with_reducible rfl)
          (try simp only [Act.put]); (try simp only [List.setIfInBounds_toArray]); (try simp only [List.set_cons_succ]); (try simp only [List.set_cons_zero])
          refine wpAnyH_take (i := 22) (oi := { dst := some 42, op := Op.load 35 (Operand.tmp 5), type := 35, pos := "law.go:48", after := #[{ on := 20, ground := Ground.guard }], guard := some (20, false) }) (v := ?vk86) rfl (by kernel_rfl) (by kernel_rfl) (by kernel_rfl) (fun _ _ _ h => h) (Or.inl ⟨by rfl, ?hk86⟩) (B5.up U83 hB5) ?rk86
          case hk86 => (intro wz hSw; (try dsimp only at hSw); go_simp; try with_reducible rfl)
          (try simp only [Act.put]); (try simp only [List.setIfInBounds_toArray]); (try simp only [List.set_cons_succ]); (try simp only [List.set_cons_zero])
          refine wpAnyH_take (i := 23) (oi := { dst := some 43, op := Op.binOp BinOp.eql 35 (Operand.tmp 41) (Operand.tmp 42) 35, type := 4, pos := "law.go:48", after := #[{ on := 21, ground := Ground.data }, { on := 22, ground := Ground.data }, { on := 20, ground := Ground.guard }], guard := some (20, false) }) (v := ?vk87) rfl (by kernel_rfl) (by kernel_rfl) (by kernel_rfl) (fun _ _ _ h => h) (Or.inl ⟨by rfl, ?hk87⟩) (B5.up U83 hB5) ?rk87
          case hk87 => (intro wz hSw; (try dsimp only at hSw); go_simp; try with_reducible rfl)
          (try simp only [Act.put]); (try simp only [List.setIfInBounds_toArray]); (try simp only [List.set_cons_succ]); (try simp only [List.set_cons_zero])
          refine wpAnyH_take (i := 24) (oi := { dst := some 44, op := Op.pick (Operand.tmp 40) (Operand.const (Value.bool true)) (Operand.tmp 43), type := 4, pos := "law.go:48", after := #[{ on := 20, ground := Ground.data }, { on := 23, ground := Ground.data }, { on := 14, ground := Ground.guard }], guard := some (14, true) }) (v := ?vk88) rfl (by kernel_rfl) (by kernel_rfl) (by kernel_rfl) (fun _ _ _ h => h) (Or.inl ⟨by rfl, ?hk88⟩) (B5.up U83 hB5) ?rk88
          case hk88 => (intro wz hSw; (try dsimp only at hSw); go_simp; try with_reducible rfl)
          (try simp only [Act.put]); (try simp only [List.setIfInBounds_toArray]); (try simp only [List.set_cons_succ]); (try simp only [List.set_cons_zero])
          refine wpAnyH_take (i := 25) (oi := { dst := some 45, op := Op.binOp BinOp.eql 4 (Operand.tmp 37) (Operand.tmp 44) 4, type := 4, pos := "law.go:48", after := #[{ on := 17, ground := Ground.data }, { on := 24, ground := Ground.data }, { on := 14, ground := Ground.guard }], guard := some (14, true) }) (v := ?vk89) rfl (by kernel_rfl) (by kernel_rfl) (by kernel_rfl) (fun _ _ _ h => h) (Or.inl ⟨by rfl, ?hk89⟩) (B5.up U83 hB5) ?rk89
          case hk89 => (intro wz hSw; (try dsimp only at hSw); go_simp; try with_reducible rfl)
          (try simp only [Act.put]); (try simp only [List.setIfInBounds_toArray]); (try simp only [List.set_cons_succ]); (try simp only [List.set_cons_zero])
          refine wpAnyH_take (i := 26) (oi := { dst := some 46, op := Op.pick (Operand.tmp 34) (Operand.tmp 45) (Operand.const (Value.bool false)), type := 4, pos := "law.go:48", after := #[{ on := 14, ground := Ground.data }, { on := 25, ground := Ground.data }], guard := none }) (v := ?vk90) rfl (by kernel_rfl) (by kernel_rfl) (by kernel_rfl) (fun _ _ _ h => h) (Or.inl ⟨by rfl, ?hk90⟩) (B5.up U83 hB5) ?rk90
          case hk90 => (intro wz hSw; (try dsimp only at hSw); go_simp; try with_reducible rfl)
          (try simp only [Act.put]); (try simp only [List.setIfInBounds_toArray]); (try simp only [List.set_cons_succ]); (try simp only [List.set_cons_zero])
          refine wpAnyH_ready (rs := [27]) (by kernel_rfl) (by simp) ?_
          refine AllReadyH.cons (o := { dst := some 4, op := Op.assign (Operand.tmp 46), type := 4, pos := "law.go:48", after := #[{ on := 26, ground := Ground.data }, { on := 20, ground := Ground.chain }, { on := 0, ground := Ground.phase }, { on := 1, ground := Ground.phase }, { on := 2, ground := Ground.phase }, { on := 3, ground := Ground.phase }, { on := 4, ground := Ground.phase }, { on := 5, ground := Ground.phase }, { on := 6, ground := Ground.phase }, { on := 7, ground := Ground.phase }, { on := 8, ground := Ground.phase }, { on := 9, ground := Ground.phase }, { on := 10, ground := Ground.phase }, { on := 11, ground := Ground.phase }, { on := 12, ground := Ground.phase }, { on := 13, ground := Ground.phase }, { on := 14, ground := Ground.phase }, { on := 15, ground := Ground.phase }, { on := 16, ground := Ground.phase }, { on := 17, ground := Ground.phase }, { on := 18, ground := Ground.phase }, { on := 19, ground := Ground.phase }, { on := 20, ground := Ground.phase }, { on := 21, ground := Ground.phase }, { on := 22, ground := Ground.phase }, { on := 23, ground := Ground.phase }, { on := 24, ground := Ground.phase }, { on := 25, ground := Ground.phase }, { on := 26, ground := Ground.phase }], guard := none }) rfl (fun K hK => ?_) AllReadyH.nil
          go_simp
          refine hK.out _ _ (B5.up U83 hB5) (fun _ => ?_)
          clear hK K
          (try simp only [Act.put]); (try simp only [List.setIfInBounds_toArray]); (try simp only [List.set_cons_succ]); (try simp only [List.set_cons_zero])
          refine wpAnyH_done (by kernel_rfl) ?_ _
          refine NoPanic.normal ?_
          go_wp2
          go_ret
          exact ⟨rfl, UB.trans U83⟩
        · subst ht'
          refine wp_region_noPanic ?_
          refine wp_region_held_drew (S := B5 w.heap.size a b p q (w.heap.size + 1) c d r s m L1 H1 n L2 H2 z L3 H3) (by kernel_rfl) ?_ (fun hHeld => ?_)
          · exact B5.up ((Up.refl _).drew) hB5
          (try simp only [Act.put]); (try simp only [List.setIfInBounds_toArray]); (try simp only [List.set_cons_succ]); (try simp only [List.set_cons_zero])
          clear hHeld
          refine wpAnyH_take (i := 0) (oi := { dst := some 20, op := Op.load 31 (Operand.tmp 2), type := 31, pos := "law.go:48", after := #[], guard := none }) (v := ?vk91) rfl (by kernel_rfl) (by kernel_rfl) (by kernel_rfl) (fun _ _ _ h => h) (Or.inl ⟨by rfl, ?hk91⟩) (B5.up ((Up.refl wb).drew) hB5) ?rk91
          case hk91 => (intro wz hSw; (try dsimp only at hSw); go_simp; try with_reducible rfl)
          (try simp only [Act.put]); (try simp only [List.setIfInBounds_toArray]); (try simp only [List.set_cons_succ]); (try simp only [List.set_cons_zero])
          refine wpAnyH_take (i := 1) (oi := { dst := some 21, op := Op.load 31 (Operand.tmp 3), type := 31, pos := "law.go:48", after := #[], guard := none }) (v := ?vk92) rfl (by kernel_rfl) (by kernel_rfl) (by kernel_rfl) (fun _ _ _ h => h) (Or.inl ⟨by rfl, ?hk92⟩) (B5.up ((Up.refl wb).drew) hB5) ?rk92
          case hk92 => (intro wz hSw; (try dsimp only at hSw); go_simp; try with_reducible rfl)
          (try simp only [Act.put]); (try simp only [List.setIfInBounds_toArray]); (try simp only [List.set_cons_succ]); (try simp only [List.set_cons_zero])
          refine wpAnyH_take (i := 3) (oi := { dst := some 23, op := Op.load 35 (Operand.tmp 7), type := 35, pos := "law.go:48", after := #[], guard := none }) (v := ?vk93) rfl (by kernel_rfl) (by kernel_rfl) (by kernel_rfl) (fun _ _ _ h => h) (Or.inl ⟨by rfl, ?hk93⟩) (B5.up ((Up.refl wb).drew) hB5) ?rk93
          case hk93 => (intro wz hSw; (try dsimp only at hSw); go_simp; try with_reducible rfl)
          (try simp only [Act.put]); (try simp only [List.setIfInBounds_toArray]); (try simp only [List.set_cons_succ]); (try simp only [List.set_cons_zero])
          refine wpAnyH_ready (rs := [2]) (by kernel_rfl) (by simp) ?_
          refine AllReadyH.cons (o := { dst := some 22, op := Op.call { callee := Callee.value (Operand.func 14), args := #[Operand.tmp 20, Operand.tmp 21], argTypes := #[31, 31] }, type := 31, pos := "law.go:48", after := #[{ on := 0, ground := Ground.data }, { on := 1, ground := Ground.data }], guard := none }) rfl (fun K hK => ?_) AllReadyH.nil
          refine wantCall2 ?_ 14 (.tmp 20) (.tmp 21) #[31, 31] ?_ (.agg #[.float .f64 a, .float .f64 b, .bool p, .bool q]) (.agg #[.float .f64 c, .float .f64 d, .bool r, .bool s]) ?_ ?_ ?_ (ent_meet _ _) ?_
          · rfl
          · rfl
          · rfl
          · rfl
          · rfl
          refine (HM.out _).mono ?_
          rintro o x94 ⟨rfl, b94⟩
          refine ⟨_, rfl, ?_⟩
          have U94 := ((Up.refl wb).drew).trans b94
          refine hK.out _ _ (B5.up U94 hB5) (fun _ => ?_)
          clear hK K
          (try simp only [Act.put]); (try simp only [List.setIfInBounds_toArray]); (try simp only [List.set_cons_succ]); (try simp only [List.set_cons_zero])
          refine wpAnyH_ready (rs := [4]) (by kernel_rfl) (by simp) ?_
          refine AllReadyH.cons (o := { dst := some 24, op := Op.call { callee := Callee.value (Operand.func 19), args := #[Operand.tmp 23], argTypes := #[35] }, type := 31, pos := "law.go:48", after := #[{ on := 3, ground := Ground.data }, { on := 2, ground := Ground.chain }], guard := none }) rfl (fun K hK => ?_) AllReadyH.nil
          refine wantCall1 ?_ 19 (.tmp 23) #[35] ?_ (.agg #[.int .u64 (L3 : Nat), .int .u64 (H3 : Nat)]) ?_ ?_ (ent_span _ _) ?_
          · rfl
          · rfl
          · rfl
          · rfl
          refine (HSp.out _).mono ?_
          rintro o x95 ⟨rfl, b95⟩
          refine ⟨_, rfl, ?_⟩
          have U95 := U94.trans b95
          refine hK.out _ _ (B5.up U95 hB5) (fun _ => ?_)
          clear hK K
          (try simp only [Act.put]); (try simp only [List.setIfInBounds_toArray]); (try simp only [List.set_cons_succ]); (try simp only [List.set_cons_zero])
          refine wpAnyH_ready (rs := [5]) (by kernel_rfl) (by simp) ?_
          refine AllReadyH.cons (o := { dst := some 25, op := Op.call { callee := Callee.value (Operand.func 18), args := #[Operand.tmp 22, Operand.tmp 24], argTypes := #[31, 31] }, type := 4, pos := "law.go:48", after := #[{ on := 2, ground := Ground.data }, { on := 4, ground := Ground.data }, { on := 4, ground := Ground.chain }], guard := none }) rfl (fun K hK => ?_) AllReadyH.nil
          refine wantCall2 ?_ 18 (.tmp 22) (.tmp 24) #[31, 31] ?_ (.agg #[.float .f64 U, .float .f64 V, .bool E, .bool E]) (.agg #[.float .f64 U, .float .f64 V, .bool E, .bool E]) ?_ ?_ ?_ (ent_same _ _) ?_
          · rfl
          · rfl
          · rfl
          · rfl
          · rfl
          refine (HSS.out _).mono ?_
          rintro o x96 ⟨rfl, b96⟩
          refine ⟨_, rfl, ?_⟩
          have U96 := U95.trans b96
          refine hK.out _ _ (B5.up U96 hB5) (fun _ => ?_)
          clear hK K
          (try simp only [Act.put]); (try simp only [List.setIfInBounds_toArray]); (try simp only [List.set_cons_succ]); (try simp only [List.set_cons_zero])
          refine wpAnyH_take (i := 6) (oi := { dst := some 26, op := Op.move (Operand.tmp 25), type := 4, pos := "law.go:48", after := #[{ on := 5, ground := Ground.data }, { on := 5, ground := Ground.chain }], guard := none }) (v := ?vk97) rfl (by kernel_rfl) (by kernel_rfl) (by kernel_rfl) (fun _ _ _ h => h) (Or.inl ⟨by rfl, ?hk97⟩) (B5.up U96 hB5) ?rk97
          case hk97 => (intro wz hSw; (try dsimp only at hSw); go_simp; try with_reducible rfl)
          (try simp only [Act.put]); (try simp only [List.setIfInBounds_toArray]); (try simp only [List.set_cons_succ]); (try simp only [List.set_cons_zero])
          refine wpAnyH_take (i := 7) (oi := { dst := some 27, op := Op.load 31 (Operand.tmp 2), type := 31, pos := "law.go:48", after := #[{ on := 6, ground := Ground.guard }], guard := some (6, true) }) (v := ?vk98) rfl (by kernel_rfl) (by kernel_rfl) (by kernel_rfl) (fun _ _ _ h => h) (Or.inl ⟨by rfl, ?hk98⟩) (B5.up U96 hB5) ?rk98
          case hk98 => (intro wz hSw; (try dsimp only at hSw); go_simp; try with_reducible rfl)
          (try simp only [Act.put]); (try simp only [List.setIfInBounds_toArray]); (try simp only [List.set_cons_succ]); (try simp only [List.set_cons_zero])
          refine wpAnyH_take (i := 8) (oi := { dst := some 28, op := Op.load 31 (Operand.tmp 3), type := 31, pos := "law.go:48", after := #[{ on := 6, ground := Ground.guard }], guard := some (6, true) }) (v := ?vk99) rfl (by kernel_rfl) (by kernel_rfl) (by kernel_rfl) (fun _ _ _ h => h) (Or.inl ⟨by rfl, ?hk99⟩) (B5.up U96 hB5) ?rk99
          case hk99 => (intro wz hSw; (try dsimp only at hSw); go_simp; try with_reducible rfl)
          (try simp only [Act.put]); (try simp only [List.setIfInBounds_toArray]); (try simp only [List.set_cons_succ]); (try simp only [List.set_cons_zero])
          refine wpAnyH_take (i := 10) (oi := { dst := some 30, op := Op.load 35 (Operand.tmp 7), type := 35, pos := "law.go:48", after := #[{ on := 6, ground := Ground.guard }], guard := some (6, true) }) (v := ?vk100) rfl (by kernel_rfl) (by kernel_rfl) (by kernel_rfl) (fun _ _ _ h => h) (Or.inl ⟨by rfl, ?hk100⟩) (B5.up U96 hB5) ?rk100
          case hk100 => (intro wz hSw; (try dsimp only at hSw); go_simp; try with_reducible rfl)
          (try simp only [Act.put]); (try simp only [List.setIfInBounds_toArray]); (try simp only [List.set_cons_succ]); (try simp only [List.set_cons_zero])
          refine wpAnyH_ready (rs := [9]) (by kernel_rfl) (by simp) ?_
          refine AllReadyH.cons (o := { dst := some 29, op := Op.call { callee := Callee.value (Operand.func 20), args := #[Operand.tmp 27, Operand.tmp 28], argTypes := #[31, 31] }, type := 4, pos := "law.go:48", after := #[{ on := 7, ground := Ground.data }, { on := 8, ground := Ground.data }, { on := 6, ground := Ground.chain }, { on := 6, ground := Ground.guard }], guard := some (6, true) }) rfl (fun K hK => ?_) AllReadyH.nil
          refine wantCall2 ?_ 20 (.tmp 27) (.tmp 28) #[31, 31] ?_ (.agg #[.float .f64 a, .float .f64 b, .bool p, .bool q]) (.agg #[.float .f64 c, .float .f64 d, .bool r, .bool s]) ?_ ?_ ?_ (ent_apart _ _) ?_
          · rfl
          · rfl
          · rfl
          · rfl
          · rfl
          refine (HAp.out _).mono ?_
          rintro o x101 ⟨rfl, b101⟩
          refine ⟨_, rfl, ?_⟩
          have U101 := U96.trans b101
          refine hK.out _ _ (B5.up U101 hB5) (fun _ => ?_)
          clear hK K
          (try simp only [Act.put]); (try simp only [List.setIfInBounds_toArray]); (try simp only [List.set_cons_succ]); (try simp only [List.set_cons_zero])
          refine wpAnyH_ready (rs := [11]) (by kernel_rfl) (by simp) ?_
          refine AllReadyH.cons (o := { dst := some 31, op := Op.call { callee := Callee.value (Operand.func 21), args := #[Operand.tmp 30], argTypes := #[35] }, type := 4, pos := "law.go:48", after := #[{ on := 10, ground := Ground.data }, { on := 9, ground := Ground.chain }, { on := 6, ground := Ground.guard }], guard := some (6, true) }) rfl (fun K hK => ?_) AllReadyH.nil
          refine wantCall1 ?_ 21 (.tmp 30) #[35] ?_ (.agg #[.int .u64 (L3 : Nat), .int .u64 (H3 : Nat)]) ?_ ?_ (ent_rempty _ _) ?_
          · rfl
          · rfl
          · rfl
          · rfl
          refine (HE3.out _).mono ?_
          rintro o x102 ⟨rfl, b102⟩
          refine ⟨_, rfl, ?_⟩
          have U102 := U101.trans b102
          refine hK.out _ _ (B5.up U102 hB5) (fun _ => ?_)
          clear hK K
          (try simp only [Act.put]); (try simp only [List.setIfInBounds_toArray]); (try simp only [List.set_cons_succ]); (try simp only [List.set_cons_zero])
          refine wpAnyH_take (i := 12) (oi := { dst := some 32, op := Op.binOp BinOp.eql 4 (Operand.tmp 29) (Operand.tmp 31) 4, type := 4, pos := "law.go:48", after := #[{ on := 9, ground := Ground.data }, { on := 11, ground := Ground.data }, { on := 6, ground := Ground.guard }], guard := some (6, true) }) (v := ?vk103) rfl (by kernel_rfl) (by kernel_rfl) (by kernel_rfl) (fun _ _ _ h => h) (Or.inl ⟨by rfl, ?hk103⟩) (B5.up U102 hB5) ?rk103
          case hk103 => (intro wz hSw; (try dsimp only at hSw); go_simp; try with_reducible rfl)
          (try simp only [Act.put]); (try simp only [List.setIfInBounds_toArray]); (try simp only [List.set_cons_succ]); (try simp only [List.set_cons_zero])
          refine wpAnyH_take (i := 13) (oi := { dst := some 33, op := Op.pick (Operand.tmp 26) (Operand.tmp 32) (Operand.const (Value.bool false)), type := 4, pos := "law.go:48", after := #[{ on := 6, ground := Ground.data }, { on := 12, ground := Ground.data }], guard := none }) (v := ?vk104) rfl (by kernel_rfl) (by kernel_rfl) (by kernel_rfl) (fun _ _ _ h => h) (Or.inl ⟨by rfl, ?hk104⟩) (B5.up U102 hB5) ?rk104
          case hk104 => (intro wz hSw; (try dsimp only at hSw); go_simp; try with_reducible rfl)
          (try simp only [Act.put]); (try simp only [List.setIfInBounds_toArray]); (try simp only [List.set_cons_succ]); (try simp only [List.set_cons_zero])
          refine wpAnyH_take (i := 14) (oi := { dst := some 34, op := Op.move (Operand.tmp 33), type := 4, pos := "law.go:48", after := #[{ on := 13, ground := Ground.data }, { on := 11, ground := Ground.chain }], guard := none }) (v := ?vk105) rfl (by kernel_rfl) (by kernel_rfl) (by kernel_rfl) (fun _ _ _ h => h) (Or.inl ⟨by rfl, ?hk105⟩) (B5.up U102 hB5) ?rk105
          case hk105 => (intro wz hSw; (try dsimp only at hSw); go_simp; try with_reducible rfl)
          (try simp only [Act.put]); (try simp only [List.setIfInBounds_toArray]); (try simp only [List.set_cons_succ]); (try simp only [List.set_cons_zero])
          refine wpAnyH_take (i := 15) (oi := { dst := some 35, op := Op.load 31 (Operand.tmp 2), type := 31, pos := "law.go:48", after := #[{ on := 14, ground := Ground.guard }], guard := some (14, true) }) (v := ?vk106) rfl (by kernel_rfl) (by kernel_rfl) (by kernel_rfl) (fun _ _ _ h => h) (Or.inl ⟨by rfl, ?hk106⟩) (B5.up U102 hB5) ?rk106
          case hk106 => (intro wz hSw; (try dsimp only at hSw); go_simp; try with_reducible rfl)
          (try simp only [Act.put]); (try simp only [List.setIfInBounds_toArray]); (try simp only [List.set_cons_succ]); (try simp only [List.set_cons_zero])
          refine wpAnyH_take (i := 16) (oi := { dst := some 36, op := Op.load 31 (Operand.tmp 3), type := 31, pos := "law.go:48", after := #[{ on := 14, ground := Ground.guard }], guard := some (14, true) }) (v := ?vk107) rfl (by kernel_rfl) (by kernel_rfl) (by kernel_rfl) (fun _ _ _ h => h) (Or.inl ⟨by rfl, ?hk107⟩) (B5.up U102 hB5) ?rk107
          case hk107 => (intro wz hSw; (try dsimp only at hSw); go_simp; try with_reducible rfl)
          (try simp only [Act.put]); (try simp only [List.setIfInBounds_toArray]); (try simp only [List.set_cons_succ]); (try simp only [List.set_cons_zero])
          refine wpAnyH_take (i := 18) (oi := { dst := some 38, op := Op.load 35 (Operand.tmp 5), type := 35, pos := "law.go:48", after := #[{ on := 14, ground := Ground.guard }], guard := some (14, true) }) (v := ?vk108) rfl (by kernel_rfl) (by kernel_rfl) (by kernel_rfl) (fun _ _ _ h => h) (Or.inl ⟨by rfl, ?hk108⟩) (B5.up U102 hB5) ?rk108
          case hk108 => (intro wz hSw; (try dsimp only at hSw); go_simp; try with_reducible rfl)
          (try simp only [Act.put]); (try simp only [List.setIfInBounds_toArray]); (try simp only [List.set_cons_succ]); (try simp only [List.set_cons_zero])
          refine wpAnyH_ready (rs := [17]) (by kernel_rfl) (by simp) ?_
          refine AllReadyH.cons (o := { dst := some 37, op := Op.call { callee := Callee.value (Operand.func 22), args := #[Operand.tmp 35, Operand.tmp 36], argTypes := #[31, 31] }, type := 4, pos := "law.go:48", after := #[{ on := 15, ground := Ground.data }, { on := 16, ground := Ground.data }, { on := 14, ground := Ground.chain }, { on := 14, ground := Ground.guard }], guard := some (14, true) }) rfl (fun K hK => ?_) AllReadyH.nil
          refine wantCall2 ?_ 22 (.tmp 35) (.tmp 36) #[31, 31] ?_ (.agg #[.float .f64 a, .float .f64 b, .bool p, .bool q]) (.agg #[.float .f64 c, .float .f64 d, .bool r, .bool s]) ?_ ?_ ?_ (ent_within _ _) ?_
          · rfl
          · rfl
          · rfl
          · rfl
          · rfl
          refine (HW.out _).mono ?_
          rintro o x109 ⟨rfl, b109⟩
          refine ⟨_, rfl, ?_⟩
          have U109 := U102.trans b109
          refine hK.out _ _ (B5.up U109 hB5) (fun _ => ?_)
          clear hK K
          (try simp only [Act.put]); (try simp only [List.setIfInBounds_toArray]); (try simp only [List.set_cons_succ]); (try simp only [List.set_cons_zero])
          refine wpAnyH_ready (rs := [19]) (by kernel_rfl) (by simp) ?_
          refine AllReadyH.cons (o := { dst := some 39, op := Op.call { callee := Callee.value (Operand.func 21), args := #[Operand.tmp 38], argTypes := #[35] }, type := 4, pos := "law.go:48", after := #[{ on := 18, ground := Ground.data }, { on := 17, ground := Ground.chain }, { on := 14, ground := Ground.guard }], guard := some (14, true) }) rfl (fun K hK => ?_) AllReadyH.nil
          refine wantCall1 ?_ 21 (.tmp 38) #[35] ?_ (.agg #[.int .u64 (L1 : Nat), .int .u64 (H1 : Nat)]) ?_ ?_ (ent_rempty _ _) ?_
          · rfl
          · rfl
          · rfl
          · rfl
          refine (HE1.out _).mono ?_
          rintro o x110 ⟨rfl, b110⟩
          refine ⟨_, rfl, ?_⟩
          have U110 := U109.trans b110
          refine hK.out _ _ (B5.up U110 hB5) (fun _ => ?_)
          clear hK K
          (try simp only [Act.put]); (try simp only [List.setIfInBounds_toArray]); (try simp only [List.set_cons_succ]); (try simp only [List.set_cons_zero])
          refine wpAnyH_take (i := 20) (oi := { dst := some 40, op := Op.move (Operand.tmp 39), type := 4, pos := "law.go:48", after := #[{ on := 19, ground := Ground.data }, { on := 19, ground := Ground.chain }, { on := 14, ground := Ground.guard }], guard := some (14, true) }) (v := ?vk111) rfl (by kernel_rfl) (by kernel_rfl) (by kernel_rfl) (fun _ _ _ h => h) (Or.inl ⟨by rfl, ?hk111⟩) (B5.up U110 hB5) ?rk111
          case hk111 => (intro wz hSw; (try dsimp only at hSw); go_simp; try with_reducible rfl)
          (try simp only [Act.put]); (try simp only [List.setIfInBounds_toArray]); (try simp only [List.set_cons_succ]); (try simp only [List.set_cons_zero])
          refine wpAnyH_take (i := 21) (oi := { dst := some 41, op := Op.load 35 (Operand.tmp 7), type := 35, pos := "law.go:48", after := #[{ on := 20, ground := Ground.guard }], guard := some (20, false) }) (v := ?vk112) rfl (by kernel_rfl) (by kernel_rfl) (by kernel_rfl) (fun _ _ _ h => h) (Or.inl ⟨by rfl, ?hk112⟩) (B5.up U110 hB5) ?rk112
          case hk112 => (intro wz hSw; (try dsimp only at hSw); go_simp; try with_reducible rfl)
          (try simp only [Act.put]); (try simp only [List.setIfInBounds_toArray]); (try simp only [List.set_cons_succ]); (try simp only [List.set_cons_zero])
          refine wpAnyH_take (i := 22) (oi := { dst := some 42, op := Op.load 35 (Operand.tmp 5), type := 35, pos := "law.go:48", after := #[{ on := 20, ground := Ground.guard }], guard := some (20, false) }) (v := ?vk113) rfl (by kernel_rfl) (by kernel_rfl) (by kernel_rfl) (fun _ _ _ h => h) (Or.inl ⟨by rfl, ?hk113⟩) (B5.up U110 hB5) ?rk113
          case hk113 => (intro wz hSw; (try dsimp only at hSw); go_simp; try with_reducible rfl)
          (try simp only [Act.put]); (try simp only [List.setIfInBounds_toArray]); (try simp only [List.set_cons_succ]); (try simp only [List.set_cons_zero])
          refine wpAnyH_take (i := 23) (oi := { dst := some 43, op := Op.binOp BinOp.eql 35 (Operand.tmp 41) (Operand.tmp 42) 35, type := 4, pos := "law.go:48", after := #[{ on := 21, ground := Ground.data }, { on := 22, ground := Ground.data }, { on := 20, ground := Ground.guard }], guard := some (20, false) }) (v := ?vk114) rfl (by kernel_rfl) (by kernel_rfl) (by kernel_rfl) (fun _ _ _ h => h) (Or.inl ⟨by rfl, ?hk114⟩) (B5.up U110 hB5) ?rk114
          case hk114 => (intro wz hSw; (try dsimp only at hSw); go_simp; try with_reducible rfl)
          (try simp only [Act.put]); (try simp only [List.setIfInBounds_toArray]); (try simp only [List.set_cons_succ]); (try simp only [List.set_cons_zero])
          refine wpAnyH_take (i := 24) (oi := { dst := some 44, op := Op.pick (Operand.tmp 40) (Operand.const (Value.bool true)) (Operand.tmp 43), type := 4, pos := "law.go:48", after := #[{ on := 20, ground := Ground.data }, { on := 23, ground := Ground.data }, { on := 14, ground := Ground.guard }], guard := some (14, true) }) (v := ?vk115) rfl (by kernel_rfl) (by kernel_rfl) (by kernel_rfl) (fun _ _ _ h => h) (Or.inl ⟨by rfl, ?hk115⟩) (B5.up U110 hB5) ?rk115
          case hk115 => (intro wz hSw; (try dsimp only at hSw); go_simp; try with_reducible rfl)
          (try simp only [Act.put]); (try simp only [List.setIfInBounds_toArray]); (try simp only [List.set_cons_succ]); (try simp only [List.set_cons_zero])
          refine wpAnyH_take (i := 25) (oi := { dst := some 45, op := Op.binOp BinOp.eql 4 (Operand.tmp 37) (Operand.tmp 44) 4, type := 4, pos := "law.go:48", after := #[{ on := 17, ground := Ground.data }, { on := 24, ground := Ground.data }, { on := 14, ground := Ground.guard }], guard := some (14, true) }) (v := ?vk116) rfl (by kernel_rfl) (by kernel_rfl) (by kernel_rfl) (fun _ _ _ h => h) (Or.inl ⟨by rfl, ?hk116⟩) (B5.up U110 hB5) ?rk116
          case hk116 => (intro wz hSw; (try dsimp only at hSw); go_simp; try with_reducible rfl)
          (try simp only [Act.put]); (try simp only [List.setIfInBounds_toArray]); (try simp only [List.set_cons_succ]); (try simp only [List.set_cons_zero])
          refine wpAnyH_take (i := 26) (oi := { dst := some 46, op := Op.pick (Operand.tmp 34) (Operand.tmp 45) (Operand.const (Value.bool false)), type := 4, pos := "law.go:48", after := #[{ on := 14, ground := Ground.data }, { on := 25, ground := Ground.data }], guard := none }) (v := ?vk117) rfl (by kernel_rfl) (by kernel_rfl) (by kernel_rfl) (fun _ _ _ h => h) (Or.inl ⟨by rfl, ?hk117⟩) (B5.up U110 hB5) ?rk117
          case hk117 => (intro wz hSw; (try dsimp only at hSw); go_simp; try with_reducible rfl)
          (try simp only [Act.put]); (try simp only [List.setIfInBounds_toArray]); (try simp only [List.set_cons_succ]); (try simp only [List.set_cons_zero])
          refine wpAnyH_ready (rs := [27]) (by kernel_rfl) (by simp) ?_
          refine AllReadyH.cons (o := { dst := some 4, op := Op.assign (Operand.tmp 46), type := 4, pos := "law.go:48", after := #[{ on := 26, ground := Ground.data }, { on := 20, ground := Ground.chain }, { on := 0, ground := Ground.phase }, { on := 1, ground := Ground.phase }, { on := 2, ground := Ground.phase }, { on := 3, ground := Ground.phase }, { on := 4, ground := Ground.phase }, { on := 5, ground := Ground.phase }, { on := 6, ground := Ground.phase }, { on := 7, ground := Ground.phase }, { on := 8, ground := Ground.phase }, { on := 9, ground := Ground.phase }, { on := 10, ground := Ground.phase }, { on := 11, ground := Ground.phase }, { on := 12, ground := Ground.phase }, { on := 13, ground := Ground.phase }, { on := 14, ground := Ground.phase }, { on := 15, ground := Ground.phase }, { on := 16, ground := Ground.phase }, { on := 17, ground := Ground.phase }, { on := 18, ground := Ground.phase }, { on := 19, ground := Ground.phase }, { on := 20, ground := Ground.phase }, { on := 21, ground := Ground.phase }, { on := 22, ground := Ground.phase }, { on := 23, ground := Ground.phase }, { on := 24, ground := Ground.phase }, { on := 25, ground := Ground.phase }, { on := 26, ground := Ground.phase }], guard := none }) rfl (fun K hK => ?_) AllReadyH.nil
          go_simp
          refine hK.out _ _ (B5.up U110 hB5) (fun _ => ?_)
          clear hK K
          (try simp only [Act.put]); (try simp only [List.setIfInBounds_toArray]); (try simp only [List.set_cons_succ]); (try simp only [List.set_cons_zero])
          refine wpAnyH_done (by kernel_rfl) ?_ _
          refine NoPanic.normal ?_
          go_wp2
          go_ret
          exact ⟨rfl, UB.trans U110⟩
    · subst ht
      clear hz1 hz2
      refine wp_region_noPanic ?_
      refine wp_region_held_drew (S := B5 w.heap.size a b p q (w.heap.size + 1) c d r s m L1 H1 n L2 H2 z L3 H3) (by kernel_rfl) ?_ (fun hHeld => ?_)
      · exact B5.up ((Up.refl _).drew) hB5
      (try simp only [Act.put]); (try simp only [List.setIfInBounds_toArray]); (try simp only [List.set_cons_succ]); (try simp only [List.set_cons_zero])
      clear hHeld
      refine wpAnyH_take (i := 0) (oi := { dst := some 20, op := Op.load 31 (Operand.tmp 2), type := 31, pos := "law.go:48", after := #[], guard := none }) (v := ?vk118) rfl (by kernel_rfl) (by kernel_rfl) (by kernel_rfl) (fun _ _ _ h => h) (Or.inl ⟨by rfl, ?hk118⟩) (B5.up ((Up.refl wb).drew) hB5) ?rk118
      case hk118 => (intro wz hSw; (try dsimp only at hSw); go_simp; try with_reducible rfl)
      (try simp only [Act.put]); (try simp only [List.setIfInBounds_toArray]); (try simp only [List.set_cons_succ]); (try simp only [List.set_cons_zero])
      refine wpAnyH_take (i := 1) (oi := { dst := some 21, op := Op.load 31 (Operand.tmp 3), type := 31, pos := "law.go:48", after := #[], guard := none }) (v := ?vk119) rfl (by kernel_rfl) (by kernel_rfl) (by kernel_rfl) (fun _ _ _ h => h) (Or.inl ⟨by rfl, ?hk119⟩) (B5.up ((Up.refl wb).drew) hB5) ?rk119
      case hk119 => (intro wz hSw; (try dsimp only at hSw); go_simp; try with_reducible rfl)
      (try simp only [Act.put]); (try simp only [List.setIfInBounds_toArray]); (try simp only [List.set_cons_succ]); (try simp only [List.set_cons_zero])
      refine wpAnyH_take (i := 3) (oi := { dst := some 23, op := Op.load 35 (Operand.tmp 7), type := 35, pos := "law.go:48", after := #[], guard := none }) (v := ?vk120) rfl (by kernel_rfl) (by kernel_rfl) (by kernel_rfl) (fun _ _ _ h => h) (Or.inl ⟨by rfl, ?hk120⟩) (B5.up ((Up.refl wb).drew) hB5) ?rk120
      case hk120 => (intro wz hSw; (try dsimp only at hSw); go_simp; try with_reducible rfl)
      (try simp only [Act.put]); (try simp only [List.setIfInBounds_toArray]); (try simp only [List.set_cons_succ]); (try simp only [List.set_cons_zero])
      refine wpAnyH_ready (rs := [2]) (by kernel_rfl) (by simp) ?_
      refine AllReadyH.cons (o := { dst := some 22, op := Op.call { callee := Callee.value (Operand.func 14), args := #[Operand.tmp 20, Operand.tmp 21], argTypes := #[31, 31] }, type := 31, pos := "law.go:48", after := #[{ on := 0, ground := Ground.data }, { on := 1, ground := Ground.data }], guard := none }) rfl (fun K hK => ?_) AllReadyH.nil
      refine wantCall2 ?_ 14 (.tmp 20) (.tmp 21) #[31, 31] ?_ (.agg #[.float .f64 a, .float .f64 b, .bool p, .bool q]) (.agg #[.float .f64 c, .float .f64 d, .bool r, .bool s]) ?_ ?_ ?_ (ent_meet _ _) ?_
      · rfl
      · rfl
      · rfl
      · rfl
      · rfl
      refine (HM.out _).mono ?_
      rintro o x121 ⟨rfl, b121⟩
      refine ⟨_, rfl, ?_⟩
      have U121 := ((Up.refl wb).drew).trans b121
      refine hK.out _ _ (B5.up U121 hB5) (fun _ => ?_)
      clear hK K
      (try simp only [Act.put]); (try simp only [List.setIfInBounds_toArray]); (try simp only [List.set_cons_succ]); (try simp only [List.set_cons_zero])
      refine wpAnyH_ready (rs := [4]) (by kernel_rfl) (by simp) ?_
      refine AllReadyH.cons (o := { dst := some 24, op := Op.call { callee := Callee.value (Operand.func 19), args := #[Operand.tmp 23], argTypes := #[35] }, type := 31, pos := "law.go:48", after := #[{ on := 3, ground := Ground.data }, { on := 2, ground := Ground.chain }], guard := none }) rfl (fun K hK => ?_) AllReadyH.nil
      refine wantCall1 ?_ 19 (.tmp 23) #[35] ?_ (.agg #[.int .u64 (L3 : Nat), .int .u64 (H3 : Nat)]) ?_ ?_ (ent_span _ _) ?_
      · rfl
      · rfl
      · rfl
      · rfl
      refine (HSp.out _).mono ?_
      rintro o x122 ⟨rfl, b122⟩
      refine ⟨_, rfl, ?_⟩
      have U122 := U121.trans b122
      refine hK.out _ _ (B5.up U122 hB5) (fun _ => ?_)
      clear hK K
      (try simp only [Act.put]); (try simp only [List.setIfInBounds_toArray]); (try simp only [List.set_cons_succ]); (try simp only [List.set_cons_zero])
      refine wpAnyH_ready (rs := [5]) (by kernel_rfl) (by simp) ?_
      refine AllReadyH.cons (o := { dst := some 25, op := Op.call { callee := Callee.value (Operand.func 18), args := #[Operand.tmp 22, Operand.tmp 24], argTypes := #[31, 31] }, type := 4, pos := "law.go:48", after := #[{ on := 2, ground := Ground.data }, { on := 4, ground := Ground.data }, { on := 4, ground := Ground.chain }], guard := none }) rfl (fun K hK => ?_) AllReadyH.nil
      refine wantCall2 ?_ 18 (.tmp 22) (.tmp 24) #[31, 31] ?_ (.agg #[.float .f64 U, .float .f64 V, .bool E, .bool E]) (.agg #[.float .f64 U, .float .f64 V, .bool E, .bool E]) ?_ ?_ ?_ (ent_same _ _) ?_
      · rfl
      · rfl
      · rfl
      · rfl
      · rfl
      refine (HSS.out _).mono ?_
      rintro o x123 ⟨rfl, b123⟩
      refine ⟨_, rfl, ?_⟩
      have U123 := U122.trans b123
      refine hK.out _ _ (B5.up U123 hB5) (fun _ => ?_)
      clear hK K
      (try simp only [Act.put]); (try simp only [List.setIfInBounds_toArray]); (try simp only [List.set_cons_succ]); (try simp only [List.set_cons_zero])
      refine wpAnyH_take (i := 6) (oi := { dst := some 26, op := Op.move (Operand.tmp 25), type := 4, pos := "law.go:48", after := #[{ on := 5, ground := Ground.data }, { on := 5, ground := Ground.chain }], guard := none }) (v := ?vk124) rfl (by kernel_rfl) (by kernel_rfl) (by kernel_rfl) (fun _ _ _ h => h) (Or.inl ⟨by rfl, ?hk124⟩) (B5.up U123 hB5) ?rk124
      case hk124 => (intro wz hSw; (try dsimp only at hSw); go_simp; try with_reducible rfl)
      (try simp only [Act.put]); (try simp only [List.setIfInBounds_toArray]); (try simp only [List.set_cons_succ]); (try simp only [List.set_cons_zero])
      refine wpAnyH_take (i := 7) (oi := { dst := some 27, op := Op.load 31 (Operand.tmp 2), type := 31, pos := "law.go:48", after := #[{ on := 6, ground := Ground.guard }], guard := some (6, true) }) (v := ?vk125) rfl (by kernel_rfl) (by kernel_rfl) (by kernel_rfl) (fun _ _ _ h => h) (Or.inl ⟨by rfl, ?hk125⟩) (B5.up U123 hB5) ?rk125
      case hk125 => (intro wz hSw; (try dsimp only at hSw); go_simp; try with_reducible rfl)
      (try simp only [Act.put]); (try simp only [List.setIfInBounds_toArray]); (try simp only [List.set_cons_succ]); (try simp only [List.set_cons_zero])
      refine wpAnyH_take (i := 8) (oi := { dst := some 28, op := Op.load 31 (Operand.tmp 3), type := 31, pos := "law.go:48", after := #[{ on := 6, ground := Ground.guard }], guard := some (6, true) }) (v := ?vk126) rfl (by kernel_rfl) (by kernel_rfl) (by kernel_rfl) (fun _ _ _ h => h) (Or.inl ⟨by rfl, ?hk126⟩) (B5.up U123 hB5) ?rk126
      case hk126 => (intro wz hSw; (try dsimp only at hSw); go_simp; try with_reducible rfl)
      (try simp only [Act.put]); (try simp only [List.setIfInBounds_toArray]); (try simp only [List.set_cons_succ]); (try simp only [List.set_cons_zero])
      refine wpAnyH_take (i := 10) (oi := { dst := some 30, op := Op.load 35 (Operand.tmp 7), type := 35, pos := "law.go:48", after := #[{ on := 6, ground := Ground.guard }], guard := some (6, true) }) (v := ?vk127) rfl (by kernel_rfl) (by kernel_rfl) (by kernel_rfl) (fun _ _ _ h => h) (Or.inl ⟨by rfl, ?hk127⟩) (B5.up U123 hB5) ?rk127
      case hk127 => (intro wz hSw; (try dsimp only at hSw); go_simp; try with_reducible rfl)
      (try simp only [Act.put]); (try simp only [List.setIfInBounds_toArray]); (try simp only [List.set_cons_succ]); (try simp only [List.set_cons_zero])
      refine wpAnyH_ready (rs := [9]) (by kernel_rfl) (by simp) ?_
      refine AllReadyH.cons (o := { dst := some 29, op := Op.call { callee := Callee.value (Operand.func 20), args := #[Operand.tmp 27, Operand.tmp 28], argTypes := #[31, 31] }, type := 4, pos := "law.go:48", after := #[{ on := 7, ground := Ground.data }, { on := 8, ground := Ground.data }, { on := 6, ground := Ground.chain }, { on := 6, ground := Ground.guard }], guard := some (6, true) }) rfl (fun K hK => ?_) AllReadyH.nil
      refine wantCall2 ?_ 20 (.tmp 27) (.tmp 28) #[31, 31] ?_ (.agg #[.float .f64 a, .float .f64 b, .bool p, .bool q]) (.agg #[.float .f64 c, .float .f64 d, .bool r, .bool s]) ?_ ?_ ?_ (ent_apart _ _) ?_
      · rfl
      · rfl
      · rfl
      · rfl
      · rfl
      refine (HAp.out _).mono ?_
      rintro o x128 ⟨rfl, b128⟩
      refine ⟨_, rfl, ?_⟩
      have U128 := U123.trans b128
      refine hK.out _ _ (B5.up U128 hB5) (fun _ => ?_)
      clear hK K
      (try simp only [Act.put]); (try simp only [List.setIfInBounds_toArray]); (try simp only [List.set_cons_succ]); (try simp only [List.set_cons_zero])
      refine wpAnyH_ready (rs := [11]) (by kernel_rfl) (by simp) ?_
      refine AllReadyH.cons (o := { dst := some 31, op := Op.call { callee := Callee.value (Operand.func 21), args := #[Operand.tmp 30], argTypes := #[35] }, type := 4, pos := "law.go:48", after := #[{ on := 10, ground := Ground.data }, { on := 9, ground := Ground.chain }, { on := 6, ground := Ground.guard }], guard := some (6, true) }) rfl (fun K hK => ?_) AllReadyH.nil
      refine wantCall1 ?_ 21 (.tmp 30) #[35] ?_ (.agg #[.int .u64 (L3 : Nat), .int .u64 (H3 : Nat)]) ?_ ?_ (ent_rempty _ _) ?_
      · rfl
      · rfl
      · rfl
      · rfl
      refine (HE3.out _).mono ?_
      rintro o x129 ⟨rfl, b129⟩
      refine ⟨_, rfl, ?_⟩
      have U129 := U128.trans b129
      refine hK.out _ _ (B5.up U129 hB5) (fun _ => ?_)
      clear hK K
      (try simp only [Act.put]); (try simp only [List.setIfInBounds_toArray]); (try simp only [List.set_cons_succ]); (try simp only [List.set_cons_zero])
      refine wpAnyH_take (i := 12) (oi := { dst := some 32, op := Op.binOp BinOp.eql 4 (Operand.tmp 29) (Operand.tmp 31) 4, type := 4, pos := "law.go:48", after := #[{ on := 9, ground := Ground.data }, { on := 11, ground := Ground.data }, { on := 6, ground := Ground.guard }], guard := some (6, true) }) (v := ?vk130) rfl (by kernel_rfl) (by kernel_rfl) (by kernel_rfl) (fun _ _ _ h => h) (Or.inl ⟨by rfl, ?hk130⟩) (B5.up U129 hB5) ?rk130
      case hk130 => (intro wz hSw; (try dsimp only at hSw); go_simp; try with_reducible rfl)
      (try simp only [Act.put]); (try simp only [List.setIfInBounds_toArray]); (try simp only [List.set_cons_succ]); (try simp only [List.set_cons_zero])
      refine wpAnyH_take (i := 13) (oi := { dst := some 33, op := Op.pick (Operand.tmp 26) (Operand.tmp 32) (Operand.const (Value.bool false)), type := 4, pos := "law.go:48", after := #[{ on := 6, ground := Ground.data }, { on := 12, ground := Ground.data }], guard := none }) (v := ?vk131) rfl (by kernel_rfl) (by kernel_rfl) (by kernel_rfl) (fun _ _ _ h => h) (Or.inl ⟨by rfl, ?hk131⟩) (B5.up U129 hB5) ?rk131
      case hk131 => (intro wz hSw; (try dsimp only at hSw); go_simp; try with_reducible rfl)
      (try simp only [Act.put]); (try simp only [List.setIfInBounds_toArray]); (try simp only [List.set_cons_succ]); (try simp only [List.set_cons_zero])
      refine wpAnyH_take (i := 14) (oi := { dst := some 34, op := Op.move (Operand.tmp 33), type := 4, pos := "law.go:48", after := #[{ on := 13, ground := Ground.data }, { on := 11, ground := Ground.chain }], guard := none }) (v := ?vk132) rfl (by kernel_rfl) (by kernel_rfl) (by kernel_rfl) (fun _ _ _ h => h) (Or.inl ⟨by rfl, ?hk132⟩) (B5.up U129 hB5) ?rk132
      case hk132 => (intro wz hSw; (try dsimp only at hSw); go_simp; try with_reducible rfl)
      (try simp only [Act.put]); (try simp only [List.setIfInBounds_toArray]); (try simp only [List.set_cons_succ]); (try simp only [List.set_cons_zero])
      refine wpAnyH_take (i := 15) (oi := { dst := some 35, op := Op.load 31 (Operand.tmp 2), type := 31, pos := "law.go:48", after := #[{ on := 14, ground := Ground.guard }], guard := some (14, true) }) (v := ?vk133) rfl (by kernel_rfl) (by kernel_rfl) (by kernel_rfl) (fun _ _ _ h => h) (Or.inl ⟨by rfl, ?hk133⟩) (B5.up U129 hB5) ?rk133
      case hk133 => (intro wz hSw; (try dsimp only at hSw); go_simp; try with_reducible rfl)
      (try simp only [Act.put]); (try simp only [List.setIfInBounds_toArray]); (try simp only [List.set_cons_succ]); (try simp only [List.set_cons_zero])
      refine wpAnyH_take (i := 16) (oi := { dst := some 36, op := Op.load 31 (Operand.tmp 3), type := 31, pos := "law.go:48", after := #[{ on := 14, ground := Ground.guard }], guard := some (14, true) }) (v := ?vk134) rfl (by kernel_rfl) (by kernel_rfl) (by kernel_rfl) (fun _ _ _ h => h) (Or.inl ⟨by rfl, ?hk134⟩) (B5.up U129 hB5) ?rk134
      case hk134 => (intro wz hSw; (try dsimp only at hSw); go_simp; try with_reducible rfl)
      (try simp only [Act.put]); (try simp only [List.setIfInBounds_toArray]); (try simp only [List.set_cons_succ]); (try simp only [List.set_cons_zero])
      refine wpAnyH_take (i := 18) (oi := { dst := some 38, op := Op.load 35 (Operand.tmp 5), type := 35, pos := "law.go:48", after := #[{ on := 14, ground := Ground.guard }], guard := some (14, true) }) (v := ?vk135) rfl (by kernel_rfl) (by kernel_rfl) (by kernel_rfl) (fun _ _ _ h => h) (Or.inl ⟨by rfl, ?hk135⟩) (B5.up U129 hB5) ?rk135
      case hk135 => (intro wz hSw; (try dsimp only at hSw); go_simp; try with_reducible rfl)
      (try simp only [Act.put]); (try simp only [List.setIfInBounds_toArray]); (try simp only [List.set_cons_succ]); (try simp only [List.set_cons_zero])
      refine wpAnyH_ready (rs := [17]) (by kernel_rfl) (by simp) ?_
      refine AllReadyH.cons (o := { dst := some 37, op := Op.call { callee := Callee.value (Operand.func 22), args := #[Operand.tmp 35, Operand.tmp 36], argTypes := #[31, 31] }, type := 4, pos := "law.go:48", after := #[{ on := 15, ground := Ground.data }, { on := 16, ground := Ground.data }, { on := 14, ground := Ground.chain }, { on := 14, ground := Ground.guard }], guard := some (14, true) }) rfl (fun K hK => ?_) AllReadyH.nil
      refine wantCall2 ?_ 22 (.tmp 35) (.tmp 36) #[31, 31] ?_ (.agg #[.float .f64 a, .float .f64 b, .bool p, .bool q]) (.agg #[.float .f64 c, .float .f64 d, .bool r, .bool s]) ?_ ?_ ?_ (ent_within _ _) ?_
      · rfl
      · rfl
      · rfl
      · rfl
      · rfl
      refine (HW.out _).mono ?_
      rintro o x136 ⟨rfl, b136⟩
      refine ⟨_, rfl, ?_⟩
      have U136 := U129.trans b136
      refine hK.out _ _ (B5.up U136 hB5) (fun _ => ?_)
      clear hK K
      (try simp only [Act.put]); (try simp only [List.setIfInBounds_toArray]); (try simp only [List.set_cons_succ]); (try simp only [List.set_cons_zero])
      refine wpAnyH_ready (rs := [19]) (by kernel_rfl) (by simp) ?_
      refine AllReadyH.cons (o := { dst := some 39, op := Op.call { callee := Callee.value (Operand.func 21), args := #[Operand.tmp 38], argTypes := #[35] }, type := 4, pos := "law.go:48", after := #[{ on := 18, ground := Ground.data }, { on := 17, ground := Ground.chain }, { on := 14, ground := Ground.guard }], guard := some (14, true) }) rfl (fun K hK => ?_) AllReadyH.nil
      refine wantCall1 ?_ 21 (.tmp 38) #[35] ?_ (.agg #[.int .u64 (L1 : Nat), .int .u64 (H1 : Nat)]) ?_ ?_ (ent_rempty _ _) ?_
      · rfl
      · rfl
      · rfl
      · rfl
      refine (HE1.out _).mono ?_
      rintro o x137 ⟨rfl, b137⟩
      refine ⟨_, rfl, ?_⟩
      have U137 := U136.trans b137
      refine hK.out _ _ (B5.up U137 hB5) (fun _ => ?_)
      clear hK K
      (try simp only [Act.put]); (try simp only [List.setIfInBounds_toArray]); (try simp only [List.set_cons_succ]); (try simp only [List.set_cons_zero])
      refine wpAnyH_take (i := 20) (oi := { dst := some 40, op := Op.move (Operand.tmp 39), type := 4, pos := "law.go:48", after := #[{ on := 19, ground := Ground.data }, { on := 19, ground := Ground.chain }, { on := 14, ground := Ground.guard }], guard := some (14, true) }) (v := ?vk138) rfl (by kernel_rfl) (by kernel_rfl) (by kernel_rfl) (fun _ _ _ h => h) (Or.inl ⟨by rfl, ?hk138⟩) (B5.up U137 hB5) ?rk138
      case hk138 => (intro wz hSw; (try dsimp only at hSw); go_simp; try with_reducible rfl)
      (try simp only [Act.put]); (try simp only [List.setIfInBounds_toArray]); (try simp only [List.set_cons_succ]); (try simp only [List.set_cons_zero])
      refine wpAnyH_take (i := 21) (oi := { dst := some 41, op := Op.load 35 (Operand.tmp 7), type := 35, pos := "law.go:48", after := #[{ on := 20, ground := Ground.guard }], guard := some (20, false) }) (v := undef) rfl (by kernel_rfl) (by kernel_rfl) (by kernel_rfl) (fun _ _ _ h => h) (Or.inr ⟨by rfl, rfl⟩) (B5.up U137 hB5) ?_
      (try simp only [Act.put]); (try simp only [List.setIfInBounds_toArray]); (try simp only [List.set_cons_succ]); (try simp only [List.set_cons_zero])
      refine wpAnyH_take (i := 22) (oi := { dst := some 42, op := Op.load 35 (Operand.tmp 5), type := 35, pos := "law.go:48", after := #[{ on := 20, ground := Ground.guard }], guard := some (20, false) }) (v := undef) rfl (by kernel_rfl) (by kernel_rfl) (by kernel_rfl) (fun _ _ _ h => h) (Or.inr ⟨by rfl, rfl⟩) (B5.up U137 hB5) ?_
      (try simp only [Act.put]); (try simp only [List.setIfInBounds_toArray]); (try simp only [List.set_cons_succ]); (try simp only [List.set_cons_zero])
      refine wpAnyH_take (i := 23) (oi := { dst := some 43, op := Op.binOp BinOp.eql 35 (Operand.tmp 41) (Operand.tmp 42) 35, type := 4, pos := "law.go:48", after := #[{ on := 21, ground := Ground.data }, { on := 22, ground := Ground.data }, { on := 20, ground := Ground.guard }], guard := some (20, false) }) (v := undef) rfl (by kernel_rfl) (by kernel_rfl) (by kernel_rfl) (fun _ _ _ h => h) (Or.inr ⟨by rfl, rfl⟩) (B5.up U137 hB5) ?_
      (try simp only [Act.put]); (try simp only [List.setIfInBounds_toArray]); (try simp only [List.set_cons_succ]); (try simp only [List.set_cons_zero])
      refine wpAnyH_take (i := 24) (oi := { dst := some 44, op := Op.pick (Operand.tmp 40) (Operand.const (Value.bool true)) (Operand.tmp 43), type := 4, pos := "law.go:48", after := #[{ on := 20, ground := Ground.data }, { on := 23, ground := Ground.data }, { on := 14, ground := Ground.guard }], guard := some (14, true) }) (v := ?vk139) rfl (by kernel_rfl) (by kernel_rfl) (by kernel_rfl) (fun _ _ _ h => h) (Or.inl ⟨by rfl, ?hk139⟩) (B5.up U137 hB5) ?rk139
      case hk139 => (intro wz hSw; (try dsimp only at hSw); go_simp; try with_reducible rfl)
      (try simp only [Act.put]); (try simp only [List.setIfInBounds_toArray]); (try simp only [List.set_cons_succ]); (try simp only [List.set_cons_zero])
      refine wpAnyH_take (i := 25) (oi := { dst := some 45, op := Op.binOp BinOp.eql 4 (Operand.tmp 37) (Operand.tmp 44) 4, type := 4, pos := "law.go:48", after := #[{ on := 17, ground := Ground.data }, { on := 24, ground := Ground.data }, { on := 14, ground := Ground.guard }], guard := some (14, true) }) (v := ?vk140) rfl (by kernel_rfl) (by kernel_rfl) (by kernel_rfl) (fun _ _ _ h => h) (Or.inl ⟨by rfl, ?hk140⟩) (B5.up U137 hB5) ?rk140
      case hk140 => (intro wz hSw; (try dsimp only at hSw); go_simp; try with_reducible rfl)
      (try simp only [Act.put]); (try simp only [List.setIfInBounds_toArray]); (try simp only [List.set_cons_succ]); (try simp only [List.set_cons_zero])
      refine wpAnyH_take (i := 26) (oi := { dst := some 46, op := Op.pick (Operand.tmp 34) (Operand.tmp 45) (Operand.const (Value.bool false)), type := 4, pos := "law.go:48", after := #[{ on := 14, ground := Ground.data }, { on := 25, ground := Ground.data }], guard := none }) (v := ?vk141) rfl (by kernel_rfl) (by kernel_rfl) (by kernel_rfl) (fun _ _ _ h => h) (Or.inl ⟨by rfl, ?hk141⟩) (B5.up U137 hB5) ?rk141
      case hk141 => (intro wz hSw; (try dsimp only at hSw); go_simp; try with_reducible rfl)
      (try simp only [Act.put]); (try simp only [List.setIfInBounds_toArray]); (try simp only [List.set_cons_succ]); (try simp only [List.set_cons_zero])
      refine wpAnyH_ready (rs := [27]) (by kernel_rfl) (by simp) ?_
      refine AllReadyH.cons (o := { dst := some 4, op := Op.assign (Operand.tmp 46), type := 4, pos := "law.go:48", after := #[{ on := 26, ground := Ground.data }, { on := 20, ground := Ground.chain }, { on := 0, ground := Ground.phase }, { on := 1, ground := Ground.phase }, { on := 2, ground := Ground.phase }, { on := 3, ground := Ground.phase }, { on := 4, ground := Ground.phase }, { on := 5, ground := Ground.phase }, { on := 6, ground := Ground.phase }, { on := 7, ground := Ground.phase }, { on := 8, ground := Ground.phase }, { on := 9, ground := Ground.phase }, { on := 10, ground := Ground.phase }, { on := 11, ground := Ground.phase }, { on := 12, ground := Ground.phase }, { on := 13, ground := Ground.phase }, { on := 14, ground := Ground.phase }, { on := 15, ground := Ground.phase }, { on := 16, ground := Ground.phase }, { on := 17, ground := Ground.phase }, { on := 18, ground := Ground.phase }, { on := 19, ground := Ground.phase }, { on := 20, ground := Ground.phase }, { on := 21, ground := Ground.phase }, { on := 22, ground := Ground.phase }, { on := 23, ground := Ground.phase }, { on := 24, ground := Ground.phase }, { on := 25, ground := Ground.phase }, { on := 26, ground := Ground.phase }], guard := none }) rfl (fun K hK => ?_) AllReadyH.nil
      go_simp
      refine hK.out _ _ (B5.up U137 hB5) (fun _ => ?_)
      clear hK K
      (try simp only [Act.put]); (try simp only [List.setIfInBounds_toArray]); (try simp only [List.set_cons_succ]); (try simp only [List.set_cons_zero])
      refine wpAnyH_done (by kernel_rfl) ?_ _
      refine NoPanic.normal ?_
      go_wp2
      go_ret
      exact ⟨rfl, UB.trans U137⟩


theorem walk (a0 b0 : Nat) (p0 q0 : Bool) (a1 b1 : Nat) (p1 q1 : Bool) (w : World) (w0 : Fl.W a0) (x0 : Fl.W b0) (w1 : Fl.W a1) (x1 : Fl.W b1) :
    Calls Try.prog 4 #[.agg #[.float .f64 a0, .float .f64 b0, .bool p0, .bool q0], .agg #[.float .f64 a1, .float .f64 b1, .bool p1, .bool q1]] w fun e w' => e = .returned (.bool true) ∧ Up w w' := by
  have F13 : Fl.IsForm 4607182418800017408 4613937818241073152 false := ⟨by unfold Fl.W; decide, by unfold Fl.W; decide, fun h => (by cases h), fun _ => by decide +kernel⟩
  have F25 : Fl.IsForm 4611686018427387904 4617315517961601024 false := ⟨by unfold Fl.W; decide, by unfold Fl.W; decide, fun h => (by cases h), fun _ => by decide +kernel⟩
  have HM0 := fun w => meet_at F13 F25 4607182418800017408 4613937818241073152 4611686018427387904 4617315517961601024 false false false false (fun w => canon_form _ _ _ F13 w) (fun w => canon_form _ _ _ F25 w) w
  rw [show Fl.mU 4607182418800017408 4613937818241073152 false 4611686018427387904 4617315517961601024 false = 4611686018427387904 by decide +kernel, show Fl.mV 4607182418800017408 4613937818241073152 false 4611686018427387904 4617315517961601024 false = 4613937818241073152 by decide +kernel, show Fl.mE 4607182418800017408 4613937818241073152 false 4611686018427387904 4617315517961601024 false = false by decide +kernel] at HM0
  have f1 := Fl.cs_isForm a0 b0 p0 q0 w0 x0
  have f2 := Fl.cs_isForm a1 b1 p1 q1 w1 x1
  have f3 := Fl.meet_form f1 f2
  have HOa := fun w => rOf_any a0 b0 w0 x0 p0 q0 w
  have HOb := fun w => rOf_any a1 b1 w1 x1 p1 q1 w
  have HM := fun w => meet_any a0 b0 a1 b1 p0 q0 p1 q1 w0 x0 w1 x1 w
  have HC := fun w => canonS_any a0 b0 w0 x0 p0 q0 w
  have HRM := fun w => rMeet_any _ _ _ _ (Fl.rl_W (Fl.csE a0 b0 p0 q0) f1.1) (Fl.rh_W (Fl.csE a0 b0 p0 q0) f1.2.1) (Fl.rl_W (Fl.csE a1 b1 p1 q1) f2.1) (Fl.rh_W (Fl.csE a1 b1 p1 q1) f2.2.1) w
  rw [(Fl.meet_rl f1 f2).1, (Fl.meet_rl f1 f2).2] at HRM
  have hEE : Fl.csE a0 b0 p0 q0 = true → Fl.mE (Fl.csU a0 b0 p0 q0) (Fl.csV a0 b0 p0 q0) (Fl.csE a0 b0 p0 q0) (Fl.csU a1 b1 p1 q1) (Fl.csV a1 b1 p1 q1) (Fl.csE a1 b1 p1 q1) = true := fun h => by unfold Fl.mE; rw [h]; rfl
  rw [show Fl.rL a0 b0 p0 q0 = Fl.rl (Fl.csU a0 b0 p0 q0) (Fl.csE a0 b0 p0 q0) from rfl, show Fl.rH a0 b0 p0 q0 = Fl.rh (Fl.csV a0 b0 p0 q0) (Fl.csE a0 b0 p0 q0) from rfl] at HOa
  rw [show Fl.rL a1 b1 p1 q1 = Fl.rl (Fl.csU a1 b1 p1 q1) (Fl.csE a1 b1 p1 q1) from rfl, show Fl.rH a1 b1 p1 q1 = Fl.rh (Fl.csV a1 b1 p1 q1) (Fl.csE a1 b1 p1 q1) from rfl] at HOb
  generalize Fl.mU (Fl.csU a0 b0 p0 q0) (Fl.csV a0 b0 p0 q0) (Fl.csE a0 b0 p0 q0) (Fl.csU a1 b1 p1 q1) (Fl.csV a1 b1 p1 q1) (Fl.csE a1 b1 p1 q1) = U at *
  generalize Fl.mV (Fl.csU a0 b0 p0 q0) (Fl.csV a0 b0 p0 q0) (Fl.csE a0 b0 p0 q0) (Fl.csU a1 b1 p1 q1) (Fl.csV a1 b1 p1 q1) (Fl.csE a1 b1 p1 q1) = V at *
  generalize Fl.mE (Fl.csU a0 b0 p0 q0) (Fl.csV a0 b0 p0 q0) (Fl.csE a0 b0 p0 q0) (Fl.csU a1 b1 p1 q1) (Fl.csV a1 b1 p1 q1) (Fl.csE a1 b1 p1 q1) = E at *
  generalize Fl.csU a0 b0 p0 q0 = u1 at *
  generalize Fl.csV a0 b0 p0 q0 = v1 at *
  generalize Fl.csE a0 b0 p0 q0 = e1 at *
  generalize Fl.csU a1 b1 p1 q1 = u2 at *
  generalize Fl.csV a1 b1 p1 q1 = v2 at *
  generalize Fl.csE a1 b1 p1 q1 = e2 at *
  have HSS := fun w => sameSpan_any U V U V E E E E w
  rw [show ((E == E) && (E == E) && (decide (U = U) && decide (V = V))) = true by simp] at HSS
  have HE3 := fun w => rEmpty_any (Fl.rl U E) (Fl.rh V E) w
  rw [Fl.empty_rng f3] at HE3
  have HE1 := fun w => rEmpty_any (Fl.rl u1 e1) (Fl.rh v1 e1) w
  rw [Fl.empty_rng f1] at HE1
  have HW := fun w => within_core a0 b0 a1 b1 U V u1 v1 p0 q0 p1 q1 E e1 _ _ rfl rfl HM HC w
  rw [Fl.fq_floats f3 f1] at HW
  refine core a0 b0 a1 b1 _ _ _ _ _ _ U V p0 q0 p1 q1 E e1 _ _ _ HM0 HOa HOb HRM HM (fun w => rSpan_isForm f3 w) HSS (fun w => apart_core a0 b0 a1 b1 U V p0 q0 p1 q1 E f3.2.2.1 HM w) HE3 HW HE1 rfl rfl ?_ w
  rw [Fl.fq_ints]
  cases e1
  · simp
  · have hE := hEE rfl
    subst hE
    obtain ⟨rfl, rfl⟩ := f3.2.2.1 rfl
    obtain ⟨rfl, rfl⟩ := f1.2.2.1 rfl
    simp

set_option maxRecDepth 100000 in
theorem lifted (os : Os) (started : os.Started) (H : Type) (enc : TypeId × Value → H) :
    ReturnsInHanded {} Try.checked os 4 .any (Rows.spanMeetsSpec.pre6 enc Try.prog Try.f4 Rows.spanMeetsRow.domain false) (Rows.spanMeetsSpec.post enc Try.prog Try.f4 false true false false) := by
  refine returnsInHanded_of_change (C := Try.checked) own started (by kernel_rfl) Try.func4
    (ChangeSpec.witness6 (enc := enc) (C := Try.checked) false ⟨#[], #[.agg #[.float .f64 0, .float .f64 0, .bool false, .bool false], .agg #[.float .f64 0, .float .f64 0, .bool false, .bool false]], []⟩ 8 (by kernel_rfl) (by kernel_rfl) (by kernel_rfl) (by kernel_rfl)) ?_
  intro W base args ds gs before hval0 hW hcnd _
  have hval : ∀ (j : Nat) t v, Try.f4.params[j]? = some t → args[j]? = some v → Value.okWide Try.prog W .any base t v := hval0
  have hW' := hW
  obtain ⟨p, q, hA0, hV, rfl, hfz, hnd⟩ := hW
  have hA : DataW.TrodAll enc Try.prog W 0 (fun _ => true) true Try.f4.params.toList args.toList ds p := hA0
  rw [Try.params4] at hA hval
  obtain ⟨v0, vs0, d0, ds0, p0, q0, hargs, rfl, rfl, h0, r0⟩ := trodAll_cons hA
  obtain ⟨v1, vs1, d1, ds1, p1, q1, rfl, rfl, rfl, h1, r1⟩ := trodAll_cons r0
  obtain ⟨rfl, rfl, rfl⟩ := trodAll_nil r1
  obtain rfl : args = #[v0, v1] := by cases args; simp_all
  obtain ⟨rfl, rfl⟩ := trodVars_none hV
  have k0 := h0
  have lt0 : ∀ x ∈ p0, x.block < W.heap.size := by obtain ⟨m, hm⟩ := k0; exact DataW.trod_lt m _ _ _ hm
  obtain ⟨a0, b0, bp0, bq0, rfl, w0, x0⟩ := open_span (hval 0 31 v0 rfl rfl) h0
  have k1 := h1
  have lt1 : ∀ x ∈ p1, x.block < W.heap.size := by obtain ⟨m, hm⟩ := k1; exact DataW.trod_lt m _ _ _ hm
  obtain ⟨a1, b1, bp1, bq1, rfl, w1, x1⟩ := open_span (hval 1 31 v1 rfl rfl) h1
  clear hA0 hval0
  refine (walk a0 b0 bp0 bq0 a1 b1 bp1 bq1 W w0 x0 w1 x1).mono fun e W' ⟨he, bel⟩ => ?_
  subst he
  exact ⟨_, rfl, _, _, _, [], _, [], hW', trodAll_mk1 (shut_bool Try.underlying4 _), (trodAll_cons_mk (Below.trod laidOut (by kernel_rfl) (of_decide_eq_true (by kernel_rfl)) k0 bel lt0) (trodAll_cons_mk (Below.trod laidOut (by kernel_rfl) (of_decide_eq_true (by kernel_rfl)) k1 bel lt1) trodAll_mk0)), rfl, Below.frame bel _, fun h => by cases h⟩

theorem proved : Rows.SpanMeetsSaid :=
  OpenClaim.holds_of_wide 4 Try.f4 rfl rfl rfl rfl rfl rfl rfl ⟨rfl, rfl, rfl, rfl, rfl⟩ rfl rfl rfl rfl rfl (by kernel_rfl) Try.func4 (by kernel_rfl)
    (of_decide_eq_true (by kernel_rfl)) (by unfold Func.isWrapper; first | (rw [if_pos (by decide +kernel)]; kernel_rfl) | (rw [if_neg (by decide +kernel)]; exact ⟨rfl, rfl⟩))
    (fun os started H enc _ => lifted os started H enc)
end Go.Proofs.Ytnggkncmcbcceaa.spanMeetsDone
namespace Go.Proofs.Ytnggkncmcbcceaa
theorem spanMeets_holds : Rows.SpanMeetsSaid := spanMeetsDone.proved
#print axioms spanMeets_holds
end Go.Proofs.Ytnggkncmcbcceaa
