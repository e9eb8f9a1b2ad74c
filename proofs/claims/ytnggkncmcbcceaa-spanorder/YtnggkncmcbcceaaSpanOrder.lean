/- Proved: for every two spans the law SpanOrder returns true, without a condition. -/
import Derived.Test.YtnggkncmcbcceaaCm
import Derived.ProofKit
import Derived.OpenShut
import Derived.Lib.SmallJoins
namespace Go.Proofs.Ytnggkncmcbcceaa.spanOrderDone
open Go.ChangeShapes Go.WideShapes Go.ChangeAt Go.RowKit Go.Joins
set_option linter.unusedVariables false

theorem own : ownKnob Try.prog.godebug = none := by kernel_rfl
theorem laidOut : laidOutB Try.prog = true := by kernel_rfl
theorem wb {a : Nat} (h : (Lit.float .f64 a).wf = true) : Fl.W a := by simp [Lit.wf] at h; exact h
theorem trod_float {H : Type} {enc : TypeId × Value → H} {P : Program} {w : World} {base : Nat} {spare : Nat → Bool} {held : Bool} {fuel : Nat} {t : TypeId} {cs : List Value} {x : DataW H × List MemPlace} (ht : P.underlying t = some (.float .f64)) (h : DataW.trod enc P w base spare held fuel t cs = some x) : ∃ n, cs = [.float .f64 n] ∧ x = (.lit (.float .f64 n), []) ∧ (Lit.float .f64 n).wf = true := by
  cases fuel with
  | zero => simp [DataW.trod] at h
  | succ n =>
    unfold DataW.trod at h
    rw [ht] at h
    split at h <;> simp_all
theorem cellsSpan : Try.prog.cellsOf 31 = 4 := by kernel_rfl
theorem open_span {H : Type} {enc : TypeId × Value → H} {W : World} {base : Nat} {v : Value} {d : DataW H} {ps : List MemPlace} (hv : Value.okWide Try.prog W .any base 31 v) (h : DataW.Trod enc Try.prog W 0 (fun _ => true) true 31 v d ps) :
    ∃ (a b : Nat) (p q : Bool), v = .agg #[.float .f64 a, .float .f64 b, .bool p, .bool q] ∧ Fl.W a ∧ Fl.W b := by
  obtain ⟨v0, v1, v2, v3, y0, y1, y2, y3, m, rfl, _, _, h0, h1, h2, h3⟩ := open_agg4 Try.underlying31 (by kernel_rfl) cellsSpan hv h
  obtain ⟨a, e0, _, wa⟩ := trod_float Try.underlying23 h0
  obtain ⟨b, e1, _, wbb⟩ := trod_float Try.underlying23 h1
  obtain ⟨p, e2, _⟩ := DataW.trod_bool Try.underlying4 h2
  obtain ⟨q, e3, _⟩ := DataW.trod_bool Try.underlying4 h3
  simp at e0 e1 e2 e3; subst e0 e1 e2 e3
  exact ⟨a, b, p, q, rfl, wb wa, wb wbb⟩
theorem ent_of (args : Array Value) (w : World) : (callFunc 16 args).run Try.prog w = .ok (.enter 16 args) w := by kernel_rfl
theorem ent_cmp (args : Array Value) (w : World) : (callFunc 27 args).run Try.prog w = .ok (.enter 27 args) w := by kernel_rfl
theorem ent_rcmp (args : Array Value) (w : World) : (callFunc 28 args).run Try.prog w = .ok (.enter 28 args) w := by kernel_rfl
theorem ent_same (args : Array Value) (w : World) : (callFunc 18 args).run Try.prog w = .ok (.enter 18 args) w := by kernel_rfl
abbrev B4 (n a b : Nat) (p q : Bool) (m c d : Nat) (r s : Bool) (x l1 h1 y l2 h2 : Nat) (w : World) : Prop := (SpAt n a b p q w ∧ SpAt m c d r s w) ∧ RgAt x l1 h1 w ∧ RgAt y l2 h2 w
theorem B4.up {n a b : Nat} {p q : Bool} {m c d : Nat} {r s : Bool} {x l1 h1 y l2 h2 : Nat} {W w' : World} (h : Up W w') (k : B4 n a b p q m c d r s x l1 h1 y l2 h2 W) : B4 n a b p q m c d r s x l1 h1 y l2 h2 w' := ⟨⟨SpAt.up h k.1.1, SpAt.up h k.1.2⟩, RgAt.up h k.2.1, RgAt.up h k.2.2⟩
attribute [local go_sem] run_bits run_frombits run_store_float eqF
set_option maxHeartbeats 4000000 in
theorem core (a b c d L1 H1 L2 H2 u1 v1 u2 v2 : Nat) (R R' : Int) (p q r s e1 e2 z : Bool)
    (HC0 : Hid (∀ w, Calls Try.prog 27 #[.agg #[.float .f64 4607182418800017408, .float .f64 4611686018427387904, .bool false, .bool false], .agg #[.float .f64 4607182418800017408, .float .f64 4613937818241073152, .bool false, .bool false]] w fun o w' => o = .returned (.int .i64 (-1)) ∧ Up w w'))
    (HOa : Hid (∀ w, Calls Try.prog 16 #[.agg #[.float .f64 a, .float .f64 b, .bool p, .bool q]] w fun o w' => o = .returned (.agg #[.int .u64 (L1 : Nat), .int .u64 (H1 : Nat)]) ∧ Up w w')) (HOb : Hid (∀ w, Calls Try.prog 16 #[.agg #[.float .f64 c, .float .f64 d, .bool r, .bool s]] w fun o w' => o = .returned (.agg #[.int .u64 (L2 : Nat), .int .u64 (H2 : Nat)]) ∧ Up w w')) (HRC : Hid (∀ w, Calls Try.prog 28 #[.agg #[.int .u64 (L1 : Nat), .int .u64 (H1 : Nat)], .agg #[.int .u64 (L2 : Nat), .int .u64 (H2 : Nat)]] w fun o w' => o = .returned (.int .i64 R) ∧ Up w w')) (HCab : Hid (∀ w, Calls Try.prog 27 #[.agg #[.float .f64 a, .float .f64 b, .bool p, .bool q], .agg #[.float .f64 c, .float .f64 d, .bool r, .bool s]] w fun o w' => o = .returned (.int .i64 R) ∧ Up w w')) (HCba : Hid (∀ w, Calls Try.prog 27 #[.agg #[.float .f64 c, .float .f64 d, .bool r, .bool s], .agg #[.float .f64 a, .float .f64 b, .bool p, .bool q]] w fun o w' => o = .returned (.int .i64 R') ∧ Up w w'))
    (HA : Hid (∀ w, Calls Try.prog 29 #[.agg #[.float .f64 a, .float .f64 b, .bool p, .bool q]] w fun o w' => o = .returned (.agg #[.float .f64 u1, .float .f64 v1, .bool e1, .bool e1]) ∧ Up w w')) (HB : Hid (∀ w, Calls Try.prog 29 #[.agg #[.float .f64 c, .float .f64 d, .bool r, .bool s]] w fun o w' => o = .returned (.agg #[.float .f64 u2, .float .f64 v2, .bool e2, .bool e2]) ∧ Up w w')) (HSS : Hid (∀ w, Calls Try.prog 18 #[.agg #[.float .f64 u1, .float .f64 v1, .bool e1, .bool e1], .agg #[.float .f64 u2, .float .f64 v2, .bool e2, .bool e2]] w fun o w' => o = .returned (.bool z) ∧ Up w w'))
    (hR : (R = -1 ∧ R' = 1 ∧ z = false) ∨ (R = 0 ∧ R' = 0 ∧ z = true) ∨ (R = 1 ∧ R' = -1 ∧ z = false)) (w : World) :
    Calls Try.prog 7 #[.agg #[.float .f64 a, .float .f64 b, .bool p, .bool q], .agg #[.float .f64 c, .float .f64 d, .bool r, .bool s]] w fun o w' => o = .returned (.bool true) ∧ Up w w' := by
  have HR := hid hR
  clear hR
  go_enter Try.func7, Try.ntmps7
  go_upto_region 3 with (first | (go_at_call 15; refine (at_any _ _ _).mono ?_; rintro o w3 ⟨rfl, hb3⟩; have s3 : B2 w.heap.size a b p q (w.heap.size + 1) c d r s w3 := B2.up hb3 (by first | assumption | (simp [B2, SpAt]; done))) | (go_at_call 27; refine (HC0.out _).mono ?_; rintro o w2 ⟨rfl, hb2⟩; have s2 : B2 w.heap.size a b p q (w.heap.size + 1) c d r s w2 := B2.up hb2 (by assumption)))
  have U2 : Up w w2 := (by repeat (first | exact Up.refl _ | assumption | refine Up.drew ?_ | refine Up.drewN ?_ _ | refine Up.alloc ?_ _ | refine Up.setCell ?_ ?_ _ | exact Nat.le_refl _ | exact Nat.le_add_right _ _ | (dsimp only; omega) | refine Up.trans ?_ ‹Up _ _›))
  have HB2 := hid s2
  go_cut [5, 6] (fun f g wx => ∃ m n : Nat, f = .pointer (some ⟨m, 0, none⟩) ∧ g = .pointer (some ⟨n, 0, none⟩) ∧ RgAt m L1 H1 wx ∧ RgAt n L2 H2 wx ∧ Up w2 wx)
  case first =>
    refine wp_region_noPanic ?_
    refine wp_region_held_drew (S := B2 w.heap.size a b p q (w.heap.size + 1) c d r s) (by kernel_rfl) ?_ (fun hHeld => ?_)
    · exact B2.up ((Up.refl _).drew) HB2.out
    (try simp only [Act.put]); (try simp only [List.setIfInBounds_toArray]); (try simp only [List.set_cons_succ]); (try simp only [List.set_cons_zero])
    clear hHeld
    refine wpAnyH_take (i := 0) (oi := { dst := some 12, op := Op.load 31 (Operand.tmp 2), type := 31, pos := "law.go:124", after := #[], guard := none }) (v := ?vk142) rfl (by kernel_rfl) (by kernel_rfl) (by kernel_rfl) (fun _ _ _ h => h) (Or.inl ⟨by rfl, ?hk142⟩) (B2.up (J2r.start w2).1 HB2.out) ?rk142
    case hk142 => (intro wz hSw; (try dsimp only at hSw); go_simp; try with_reducible rfl)
    (try simp only [Act.put]); (try simp only [List.setIfInBounds_toArray]); (try simp only [List.set_cons_succ]); (try simp only [List.set_cons_zero])
    refine wpAnyH_take (i := 2) (oi := { dst := some 14, op := Op.load 31 (Operand.tmp 3), type := 31, pos := "law.go:124", after := #[], guard := none }) (v := ?vk143) rfl (by kernel_rfl) (by kernel_rfl) (by kernel_rfl) (fun _ _ _ h => h) (Or.inl ⟨by rfl, ?hk143⟩) (B2.up (J2r.start w2).1 HB2.out) ?rk143
    case hk143 => (intro wz hSw; (try dsimp only at hSw); go_simp; try with_reducible rfl)
    (try simp only [Act.put]); (try simp only [List.setIfInBounds_toArray]); (try simp only [List.set_cons_succ]); (try simp only [List.set_cons_zero])
    refine wpAnyH_ready (rs := [1, 4, 5]) (by kernel_rfl) (by simp) ?_
    refine AllReadyH.cons (o := { dst := some 13, op := Op.call { callee := Callee.value (Operand.func 16), args := #[Operand.tmp 12], argTypes := #[31] }, type := 35, pos := "law.go:124", after := #[{ on := 0, ground := Ground.data }], guard := none }) rfl (fun K hK => ?_) (AllReadyH.cons (o := { dst := some 5, op := Op.alloc 35, type := 0, pos := "law.go:124", after := #[], guard := none }) rfl (fun K hK => ?_) (AllReadyH.cons (o := { dst := some 6, op := Op.alloc 35, type := 0, pos := "law.go:124", after := #[], guard := none }) rfl (fun K hK => ?_) AllReadyH.nil))
    · skip
      refine stepCall1 ?_ 16 (.tmp 12) #[31] ?_ (.agg #[.float .f64 a, .float .f64 b, .bool p, .bool q]) ?_ ?_ (ent_of _ _) ?_
      · rfl
      · rfl
      · rfl
      · rfl
      refine (HOa.out _).mono ?_
      rintro o x144 ⟨rfl, b144⟩
      refine ⟨_, rfl, ?_⟩
      have j144 := (J2r.start w2).up b144
      refine hK.out _ _ (B2.up j144.1 HB2.out) (fun _ => ?_)
      clear hK K
      (try simp only [Act.put]); (try simp only [List.setIfInBounds_toArray]); (try simp only [List.set_cons_succ]); (try simp only [List.set_cons_zero])
      refine wpAnyH_ready (rs := [3, 4, 5]) (by kernel_rfl) (by simp) ?_
      refine AllReadyH.cons (o := { dst := some 15, op := Op.call { callee := Callee.value (Operand.func 16), args := #[Operand.tmp 14], argTypes := #[31] }, type := 35, pos := "law.go:124", after := #[{ on := 2, ground := Ground.data }, { on := 1, ground := Ground.chain }], guard := none }) rfl (fun K hK => ?_) (AllReadyH.cons (o := { dst := some 5, op := Op.alloc 35, type := 0, pos := "law.go:124", after := #[], guard := none }) rfl (fun K hK => ?_) (AllReadyH.cons (o := { dst := some 6, op := Op.alloc 35, type := 0, pos := "law.go:124", after := #[], guard := none }) rfl (fun K hK => ?_) AllReadyH.nil))
      · skip
        refine stepCall1 ?_ 16 (.tmp 14) #[31] ?_ (.agg #[.float .f64 c, .float .f64 d, .bool r, .bool s]) ?_ ?_ (ent_of _ _) ?_
        · rfl
        · rfl
        · rfl
        · rfl
        refine (HOb.out _).mono ?_
        rintro o x145 ⟨rfl, b145⟩
        refine ⟨_, rfl, ?_⟩
        have j145 := j144.up b145
        refine hK.out _ _ (B2.up j145.1 HB2.out) (fun _ => ?_)
        clear hK K
        (try simp only [Act.put]); (try simp only [List.setIfInBounds_toArray]); (try simp only [List.set_cons_succ]); (try simp only [List.set_cons_zero])
        refine wpAnyH_ready (rs := [4, 5]) (by kernel_rfl) (by simp) ?_
        refine AllReadyH.cons (o := { dst := some 5, op := Op.alloc 35, type := 0, pos := "law.go:124", after := #[], guard := none }) rfl (fun K hK => ?_) (AllReadyH.cons (o := { dst := some 6, op := Op.alloc 35, type := 0, pos := "law.go:124", after := #[], guard := none }) rfl (fun K hK => ?_) AllReadyH.nil)
        · skip
          refine stepAllocR ?_ ?_ ?_
          · rfl
          · rfl
          intro m146 x146 hm146 hx146
          have j146 := j145.nF hm146 hx146
          clear hm146 hx146
          refine hK.out _ _ (B2.up j146.1 HB2.out) (fun _ => ?_)
          clear hK K
          (try simp only [Act.put]); (try simp only [List.setIfInBounds_toArray]); (try simp only [List.set_cons_succ]); (try simp only [List.set_cons_zero])
          refine wpAnyH_ready (rs := [5]) (by kernel_rfl) (by simp) ?_
          refine AllReadyH.cons (o := { dst := some 6, op := Op.alloc 35, type := 0, pos := "law.go:124", after := #[], guard := none }) rfl (fun K hK => ?_) AllReadyH.nil
          · skip
            refine stepAllocR ?_ ?_ ?_
            · rfl
            · rfl
            intro m147 x147 hm147 hx147
            have j147 := j146.nG hm147 hx147
            clear hm147 hx147
            refine hK.out _ _ (B2.up j147.1 HB2.out) (fun _ => ?_)
            clear hK K
            (try simp only [Act.put]); (try simp only [List.setIfInBounds_toArray]); (try simp only [List.set_cons_succ]); (try simp only [List.set_cons_zero])
            refine wpAnyH_ready (rs := [6]) (by kernel_rfl) (by simp) ?_
            refine AllReadyH.cons (o := { dst := none, op := Op.store 35 (Operand.tmp 5) (Operand.tmp 13), type := 0, pos := "law.go:124", after := #[{ on := 4, ground := Ground.data }, { on := 1, ground := Ground.data }, { on := 3, ground := Ground.chain }, { on := 0, ground := Ground.phase }, { on := 1, ground := Ground.phase }, { on := 2, ground := Ground.textOnly Departure.lateStores }, { on := 3, ground := Ground.textOnly Departure.lateStoresUnsure }, { on := 4, ground := Ground.phase }, { on := 5, ground := Ground.phase }], guard := none }) rfl (fun K hK => ?_) AllReadyH.nil
            · skip
              refine stepStoreR ?_ (.tmp 5) (.tmp 13) ?_ m146 L1 H1 ?_ ?_ j147.thereF ?_
              · rfl
              · rfl
              · rfl
              · rfl
              refine hK.out _ _ (B2.up (j147.upF _) HB2.out) (fun _ => ?_)
              clear hK K
              (try simp only [Act.put]); (try simp only [List.setIfInBounds_toArray]); (try simp only [List.set_cons_succ]); (try simp only [List.set_cons_zero])
              refine wpAnyH_ready (rs := [7]) (by kernel_rfl) (by simp) ?_
              refine AllReadyH.cons (o := { dst := none, op := Op.store 35 (Operand.tmp 6) (Operand.tmp 15), type := 0, pos := "law.go:124", after := #[{ on := 5, ground := Ground.data }, { on := 3, ground := Ground.data }, { on := 6, ground := Ground.chain }, { on := 0, ground := Ground.phase }, { on := 1, ground := Ground.phase }, { on := 2, ground := Ground.phase }, { on := 3, ground := Ground.phase }, { on := 4, ground := Ground.phase }, { on := 5, ground := Ground.phase }, { on := 6, ground := Ground.phase }], guard := none }) rfl (fun K hK => ?_) AllReadyH.nil
              · skip
                refine stepStoreR ?_ (.tmp 6) (.tmp 15) ?_ m147 L2 H2 ?_ ?_ (j147.thereG _) ?_
                · rfl
                · rfl
                · rfl
                · rfl
                refine hK.out _ _ (B2.up (j147.fin L1 H1 L2 H2).2.2 HB2.out) (fun _ => ?_)
                clear hK K
                (try simp only [Act.put]); (try simp only [List.setIfInBounds_toArray]); (try simp only [List.set_cons_succ]); (try simp only [List.set_cons_zero])
                refine wpAnyH_done (by kernel_rfl) ?_ _
                refine NoPanic.normal ?_
                go_wp2_with fail
                go_meet
                case rel => exact ⟨m146, m147, rfl, rfl, j147.fin L1 H1 L2 H2⟩
        · skip
          refine stepAllocR ?_ ?_ ?_
          · rfl
          · rfl
          intro m148 x148 hm148 hx148
          have j148 := j145.nG hm148 hx148
          clear hm148 hx148
          refine hK.out _ _ (B2.up j148.1 HB2.out) (fun _ => ?_)
          clear hK K
          (try simp only [Act.put]); (try simp only [List.setIfInBounds_toArray]); (try simp only [List.set_cons_succ]); (try simp only [List.set_cons_zero])
          refine wpAnyH_ready (rs := [4]) (by kernel_rfl) (by simp) ?_
          refine AllReadyH.cons (o := { dst := some 5, op := Op.alloc 35, type := 0, pos := "law.go:124", after := #[], guard := none }) rfl (fun K hK => ?_) AllReadyH.nil
          · skip
            refine stepAllocR ?_ ?_ ?_
            · rfl
            · rfl
            intro m149 x149 hm149 hx149
            have j149 := j148.nF hm149 hx149
            clear hm149 hx149
            refine hK.out _ _ (B2.up j149.1 HB2.out) (fun _ => ?_)
            clear hK K
            (try simp only [Act.put]); (try simp only [List.setIfInBounds_toArray]); (try simp only [List.set_cons_succ]); (try simp only [List.set_cons_zero])
            refine wpAnyH_ready (rs := [6]) (by kernel_rfl) (by simp) ?_
            refine AllReadyH.cons (o := { dst := none, op := Op.store 35 (Operand.tmp 5) (Operand.tmp 13), type := 0, pos := "law.go:124", after := #[{ on := 4, ground := Ground.data }, { on := 1, ground := Ground.data }, { on := 3, ground := Ground.chain }, { on := 0, ground := Ground.phase }, { on := 1, ground := Ground.phase }, { on := 2, ground := Ground.textOnly Departure.lateStores }, { on := 3, ground := Ground.textOnly Departure.lateStoresUnsure }, { on := 4, ground := Ground.phase }, { on := 5, ground := Ground.phase }], guard := none }) rfl (fun K hK => ?_) AllReadyH.nil
            · skip
              refine stepStoreR ?_ (.tmp 5) (.tmp 13) ?_ m149 L1 H1 ?_ ?_ j149.thereF ?_
              · rfl
              · rfl
              · rfl
              · rfl
              refine hK.out _ _ (B2.up (j149.upF _) HB2.out) (fun _ => ?_)
              clear hK K
              (try simp only [Act.put]); (try simp only [List.setIfInBounds_toArray]); (try simp only [List.set_cons_succ]); (try simp only [List.set_cons_zero])
              refine wpAnyH_ready (rs := [7]) (by kernel_rfl) (by simp) ?_
              refine AllReadyH.cons (o := { dst := none, op := Op.store 35 (Operand.tmp 6) (Operand.tmp 15), type := 0, pos := "law.go:124", after := #[{ on := 5, ground := Ground.data }, { on := 3, ground := Ground.data }, { on := 6, ground := Ground.chain }, { on := 0, ground := Ground.phase }, { on := 1, ground := Ground.phase }, { on := 2, ground := Ground.phase }, { on := 3, ground := Ground.phase }, { on := 4, ground := Ground.phase }, { on := 5, ground := Ground.phase }, { on := 6, ground := Ground.phase }], guard := none }) rfl (fun K hK => ?_) AllReadyH.nil
              · skip
                refine stepStoreR ?_ (.tmp 6) (.tmp 15) ?_ m148 L2 H2 ?_ ?_ (j149.thereG _) ?_
                · rfl
                · rfl
                · rfl
                · rfl
                refine hK.out _ _ (B2.up (j149.fin L1 H1 L2 H2).2.2 HB2.out) (fun _ => ?_)
                clear hK K
                (try simp only [Act.put]); (try simp only [List.setIfInBounds_toArray]); (try simp only [List.set_cons_succ]); (try simp only [List.set_cons_zero])
                refine wpAnyH_done (by kernel_rfl) ?_ _
                refine NoPanic.normal ?_
                go_wp2_with fail
                go_meet
                case rel => exact ⟨m149, m148, rfl, rfl, j149.fin L1 H1 L2 H2⟩
      · skip
        refine stepAllocR ?_ ?_ ?_
        · rfl
        · rfl
        intro m150 x150 hm150 hx150
        have j150 := j144.nF hm150 hx150
        clear hm150 hx150
        refine hK.out _ _ (B2.up j150.1 HB2.out) (fun _ => ?_)
        clear hK K
        (try simp only [Act.put]); (try simp only [List.setIfInBounds_toArray]); (try simp only [List.set_cons_succ]); (try simp only [List.set_cons_zero])
        refine wpAnyH_ready (rs := [3, 5]) (by kernel_rfl) (by simp) ?_
        refine AllReadyH.cons (o := { dst := some 15, op := Op.call { callee := Callee.value (Operand.func 16), args := #[Operand.tmp 14], argTypes := #[31] }, type := 35, pos := "law.go:124", after := #[{ on := 2, ground := Ground.data }, { on := 1, ground := Ground.chain }], guard := none }) rfl (fun K hK => ?_) (AllReadyH.cons (o := { dst := some 6, op := Op.alloc 35, type := 0, pos := "law.go:124", after := #[], guard := none }) rfl (fun K hK => ?_) AllReadyH.nil)
        · skip
          refine stepCall1 ?_ 16 (.tmp 14) #[31] ?_ (.agg #[.float .f64 c, .float .f64 d, .bool r, .bool s]) ?_ ?_ (ent_of _ _) ?_
          · rfl
          · rfl
          · rfl
          · rfl
          refine (HOb.out _).mono ?_
          rintro o x151 ⟨rfl, b151⟩
          refine ⟨_, rfl, ?_⟩
          have j151 := j150.up b151
          refine hK.out _ _ (B2.up j151.1 HB2.out) (fun _ => ?_)
          clear hK K
          (try simp only [Act.put]); (try simp only [List.setIfInBounds_toArray]); (try simp only [List.set_cons_succ]); (try simp only [List.set_cons_zero])
          refine wpAnyH_ready (rs := [5]) (by kernel_rfl) (by simp) ?_
          refine AllReadyH.cons (o := { dst := some 6, op := Op.alloc 35, type := 0, pos := "law.go:124", after := #[], guard := none }) rfl (fun K hK => ?_) AllReadyH.nil
          · skip
            refine stepAllocR ?_ ?_ ?_
            · rfl
            · rfl
            intro m152 x152 hm152 hx152
            have j152 := j151.nG hm152 hx152
            clear hm152 hx152
            refine hK.out _ _ (B2.up j152.1 HB2.out) (fun _ => ?_)
            clear hK K
            (try simp only [Act.put]); (try simp only [List.setIfInBounds_toArray]); (try simp only [List.set_cons_succ]); (try simp only [List.set_cons_zero])
            refine wpAnyH_ready (rs := [6]) (by kernel_rfl) (by simp) ?_
            refine AllReadyH.cons (o := { dst := none, op := Op.store 35 (Operand.tmp 5) (Operand.tmp 13), type := 0, pos := "law.go:124", after := #[{ on := 4, ground := Ground.data }, { on := 1, ground := Ground.data }, { on := 3, ground := Ground.chain }, { on := 0, ground := Ground.phase }, { on := 1, ground := Ground.phase }, { on := 2, ground := Ground.textOnly Departure.lateStores }, { on := 3, ground := Ground.textOnly Departure.lateStoresUnsure }, { on := 4, ground := Ground.phase }, { on := 5, ground := Ground.phase }], guard := none }) rfl (fun K hK => ?_) AllReadyH.nil
            · skip
              refine stepStoreR ?_ (.tmp 5) (.tmp 13) ?_ m150 L1 H1 ?_ ?_ j152.thereF ?_
              · rfl
              · rfl
              · rfl
              · rfl
              refine hK.out _ _ (B2.up (j152.upF _) HB2.out) (fun _ => ?_)
              clear hK K
              (try simp only [Act.put]); (try simp only [List.setIfInBounds_toArray]); (try simp only [List.set_cons_succ]); (try simp only [List.set_cons_zero])
              refine wpAnyH_ready (rs := [7]) (by kernel_rfl) (by simp) ?_
              refine AllReadyH.cons (o := { dst := none, op := Op.store 35 (Operand.tmp 6) (Operand.tmp 15), type := 0, pos := "law.go:124", after := #[{ on := 5, ground := Ground.data }, { on := 3, ground := Ground.data }, { on := 6, ground := Ground.chain }, { on := 0, ground := Ground.phase }, { on := 1, ground := Ground.phase }, { on := 2, ground := Ground.phase }, { on := 3, ground := Ground.phase }, { on := 4, ground := Ground.phase }, { on := 5, ground := Ground.phase }, { on := 6, ground := Ground.phase }], guard := none }) rfl (fun K hK => ?_) AllReadyH.nil
              · skip
                refine stepStoreR ?_ (.tmp 6) (.tmp 15) ?_ m152 L2 H2 ?_ ?_ (j152.thereG _) ?_
                · rfl
                · rfl
                · rfl
                · rfl
                refine hK.out _ _ (B2.up (j152.fin L1 H1 L2 H2).2.2 HB2.out) (fun _ => ?_)
                clear hK K
                (try simp only [Act.put]); (try simp only [List.setIfInBounds_toArray]); (try simp only [List.set_cons_succ]); (try simp only [List.set_cons_zero])
                refine wpAnyH_done (by kernel_rfl) ?_ _
                refine NoPanic.normal ?_
                go_wp2_with fail
                go_meet
                case rel => exact ⟨m150, m152, rfl, rfl, j152.fin L1 H1 L2 H2⟩
        · skip
          refine stepAllocR ?_ ?_ ?_
          · rfl
          · rfl
          intro m153 x153 hm153 hx153
          have j153 := j150.nG hm153 hx153
          clear hm153 hx153
          refine hK.out _ _ (B2.up j153.1 HB2.out) (fun _ => ?_)
          clear hK K
          (try simp only [Act.put]); (try simp only [List.setIfInBounds_toArray]); (try simp only [List.set_cons_succ]); (try simp only [List.set_cons_zero])
          refine wpAnyH_ready (rs := [3]) (by kernel_rfl) (by simp) ?_
          refine AllReadyH.cons (o := { dst := some 15, op := Op.call { callee := Callee.value (Operand.func 16), args := #[Operand.tmp 14], argTypes := #[31] }, type := 35, pos := "law.go:124", after := #[{ on := 2, ground := Ground.data }, { on := 1, ground := Ground.chain }], guard := none }) rfl (fun K hK => ?_) AllReadyH.nil
          · skip
            refine stepCall1 ?_ 16 (.tmp 14) #[31] ?_ (.agg #[.float .f64 c, .float .f64 d, .bool r, .bool s]) ?_ ?_ (ent_of _ _) ?_
            · rfl
            · rfl
            · rfl
            · rfl
            refine (HOb.out _).mono ?_
            rintro o x154 ⟨rfl, b154⟩
            refine ⟨_, rfl, ?_⟩
            have j154 := j153.up b154
            refine hK.out _ _ (B2.up j154.1 HB2.out) (fun _ => ?_)
            clear hK K
            (try simp only [Act.put]); (try simp only [List.setIfInBounds_toArray]); (try simp only [List.set_cons_succ]); (try simp only [List.set_cons_zero])
            refine wpAnyH_ready (rs := [6]) (by kernel_rfl) (by simp) ?_
            refine AllReadyH.cons (o := { dst := none, op := Op.store 35 (Operand.tmp 5) (Operand.tmp 13), type := 0, pos := "law.go:124", after := #[{ on := 4, ground := Ground.data }, { on := 1, ground := Ground.data }, { on := 3, ground := Ground.chain }, { on := 0, ground := Ground.phase }, { on := 1, ground := Ground.phase }, { on := 2, ground := Ground.textOnly Departure.lateStores }, { on := 3, ground := Ground.textOnly Departure.lateStoresUnsure }, { on := 4, ground := Ground.phase }, { on := 5, ground := Ground.phase }], guard := none }) rfl (fun K hK => ?_) AllReadyH.nil
            · skip
              refine stepStoreR ?_ (.tmp 5) (.tmp 13) ?_ m150 L1 H1 ?_ ?_ j154.thereF ?_
              · rfl
              · rfl
              · rfl
              · rfl
              refine hK.out _ _ (B2.up (j154.upF _) HB2.out) (fun _ => ?_)
              clear hK K
              (try simp only [Act.put]); (try simp only [List.setIfInBounds_toArray]); (try simp only [List.set_cons_succ]); (try simp only [List.set_cons_zero])
              refine wpAnyH_ready (rs := [7]) (by kernel_rfl) (by simp) ?_
              refine AllReadyH.cons (o := { dst := none, op := Op.store 35 (Operand.tmp 6) (Operand.tmp 15), type := 0, pos := "law.go:124", after := #[{ on := 5, ground := Ground.data }, { on := 3, ground := Ground.data }, { on := 6, ground := Ground.chain }, { on := 0, ground := Ground.phase }, { on := 1, ground := Ground.phase }, { on := 2, ground := Ground.phase }, { on := 3, ground := Ground.phase }, { on := 4, ground := Ground.phase }, { on := 5, ground := Ground.phase }, { on := 6, ground := Ground.phase }], guard := none }) rfl (fun K hK => ?_) AllReadyH.nil
              · skip
                refine stepStoreR ?_ (.tmp 6) (.tmp 15) ?_ m153 L2 H2 ?_ ?_ (j154.thereG _) ?_
                · rfl
                · rfl
                · rfl
                · rfl
                refine hK.out _ _ (B2.up (j154.fin L1 H1 L2 H2).2.2 HB2.out) (fun _ => ?_)
                clear hK K
                (try simp only [Act.put]); (try simp only [List.setIfInBounds_toArray]); (try simp only [List.set_cons_succ]); (try simp only [List.set_cons_zero])
                refine wpAnyH_done (by kernel_rfl) ?_ _
                refine NoPanic.normal ?_
                go_wp2_with fail
                go_meet
                case rel => exact ⟨m150, m153, rfl, rfl, j154.fin L1 H1 L2 H2⟩
      · skip
        refine stepAllocR ?_ ?_ ?_
        · rfl
        · rfl
        intro m155 x155 hm155 hx155
        have j155 := j144.nG hm155 hx155
        clear hm155 hx155
        refine hK.out _ _ (B2.up j155.1 HB2.out) (fun _ => ?_)
        clear hK K
        (try simp only [Act.put]); (try simp only [List.setIfInBounds_toArray]); (try simp only [List.set_cons_succ]); (try simp only [List.set_cons_zero])
        refine wpAnyH_ready (rs := [3, 4]) (by kernel_rfl) (by simp) ?_
        refine AllReadyH.cons (o := { dst := some 15, op := Op.call { callee := Callee.value (Operand.func 16), args := #[Operand.tmp 14], argTypes := #[31] }, type := 35, pos := "law.go:124", after := #[{ on := 2, ground := Ground.data }, { on := 1, ground := Ground.chain }], guard := none }) rfl (fun K hK => ?_) (AllReadyH.cons (o := { dst := some 5, op := Op.alloc 35, type := 0, pos := "law.go:124", after := #[], guard := none }) rfl (fun K hK => ?_) AllReadyH.nil)
        · skip
          refine stepCall1 ?_ 16 (.tmp 14) #[31] ?_ (.agg #[.float .f64 c, .float .f64 d, .bool r, .bool s]) ?_ ?_ (ent_of _ _) ?_
          · rfl
          · rfl
          · rfl
          · rfl
          refine (HOb.out _).mono ?_
          rintro o x156 ⟨rfl, b156⟩
          refine ⟨_, rfl, ?_⟩
          have j156 := j155.up b156
          refine hK.out _ _ (B2.up j156.1 HB2.out) (fun _ => ?_)
          clear hK K
          (try simp only [Act.put]); (try simp only [List.setIfInBounds_toArray]); (try simp only [List.set_cons_succ]); (try simp only [List.set_cons_zero])
          refine wpAnyH_ready (rs := [4]) (by kernel_rfl) (by simp) ?_
          refine AllReadyH.cons (o := { dst := some 5, op := Op.alloc 35, type := 0, pos := "law.go:124", after := #[], guard := none }) rfl (fun K hK => ?_) AllReadyH.nil
          · skip
            refine stepAllocR ?_ ?_ ?_
            · rfl
            · rfl
            intro m157 x157 hm157 hx157
            have j157 := j156.nF hm157 hx157
            clear hm157 hx157
            refine hK.out _ _ (B2.up j157.1 HB2.out) (fun _ => ?_)
            clear hK K
            (try simp only [Act.put]); (try simp only [List.setIfInBounds_toArray]); (try simp only [List.set_cons_succ]); (try simp only [List.set_cons_zero])
            refine wpAnyH_ready (rs := [6]) (by kernel_rfl) (by simp) ?_
            refine AllReadyH.cons (o := { dst := none, op := Op.store 35 (Operand.tmp 5) (Operand.tmp 13), type := 0, pos := "law.go:124", after := #[{ on := 4, ground := Ground.data }, { on := 1, ground := Ground.data }, { on := 3, ground := Ground.chain }, { on := 0, ground := Ground.phase }, { on := 1, ground := Ground.phase }, { on := 2, ground := Ground.textOnly Departure.lateStores }, { on := 3, ground := Ground.textOnly Departure.lateStoresUnsure }, { on := 4, ground := Ground.phase }, { on := 5, ground := Ground.phase }], guard := none }) rfl (fun K hK => ?_) AllReadyH.nil
            · skip
              refine stepStoreR ?_ (.tmp 5) (.tmp 13) ?_ m157 L1 H1 ?_ ?_ j157.thereF ?_
              · rfl
              · rfl
              · rfl
              · rfl
              refine hK.out _ _ (B2.up (j157.upF _) HB2.out) (fun _ => ?_)
              clear hK K
              (try simp only [Act.put]); (try simp only [List.setIfInBounds_toArray]); (try simp only [List.set_cons_succ]); (try simp only [List.set_cons_zero])
              refine wpAnyH_ready (rs := [7]) (by kernel_rfl) (by simp) ?_
              refine AllReadyH.cons (o := { dst := none, op := Op.store 35 (Operand.tmp 6) (Operand.tmp 15), type := 0, pos := "law.go:124", after := #[{ on := 5, ground := Ground.data }, { on := 3, ground := Ground.data }, { on := 6, ground := Ground.chain }, { on := 0, ground := Ground.phase }, { on := 1, ground := Ground.phase }, { on := 2, ground := Ground.phase }, { on := 3, ground := Ground.phase }, { on := 4, ground := Ground.phase }, { on := 5, ground := Ground.phase }, { on := 6, ground := Ground.phase }], guard := none }) rfl (fun K hK => ?_) AllReadyH.nil
              · skip
                refine stepStoreR ?_ (.tmp 6) (.tmp 15) ?_ m155 L2 H2 ?_ ?_ (j157.thereG _) ?_
                · rfl
                · rfl
                · rfl
                · rfl
                refine hK.out _ _ (B2.up (j157.fin L1 H1 L2 H2).2.2 HB2.out) (fun _ => ?_)
                clear hK K
                (try simp only [Act.put]); (try simp only [List.setIfInBounds_toArray]); (try simp only [List.set_cons_succ]); (try simp only [List.set_cons_zero])
                refine wpAnyH_done (by kernel_rfl) ?_ _
                refine NoPanic.normal ?_
                go_wp2_with fail
                go_meet
                case rel => exact ⟨m157, m155, rfl, rfl, j157.fin L1 H1 L2 H2⟩
        · skip
          refine stepAllocR ?_ ?_ ?_
          · rfl
          · rfl
          intro m158 x158 hm158 hx158
          have j158 := j155.nF hm158 hx158
          clear hm158 hx158
          refine hK.out _ _ (B2.up j158.1 HB2.out) (fun _ => ?_)
          clear hK K
          (try simp only [Act.put]); (try simp only [List.setIfInBounds_toArray]); (try simp only [List.set_cons_succ]); (try simp only [List.set_cons_zero])
          refine wpAnyH_ready (rs := [3]) (by kernel_rfl) (by simp) ?_
          refine AllReadyH.cons (o := { dst := some 15, op := Op.call { callee := Callee.value (Operand.func 16), args := #[Operand.tmp 14], argTypes := #[31] }, type := 35, pos := "law.go:124", after := #[{ on := 2, ground := Ground.data }, { on := 1, ground := Ground.chain }], guard := none }) rfl (fun K hK => ?_) AllReadyH.nil
          · skip
            refine stepCall1 ?_ 16 (.tmp 14) #[31] ?_ (.agg #[.float .f64 c, .float .f64 d, .bool r, .bool s]) ?_ ?_ (ent_of _ _) ?_
            · rfl
            · rfl
            · rfl
            · rfl
            refine (HOb.out _).mono ?_
            rintro o x159 ⟨rfl, b159⟩
            refine ⟨_, rfl, ?_⟩
            have j159 := j158.up b159
            refine hK.out _ _ (B2.up j159.1 HB2.out) (fun _ => ?_)
            clear hK K
            (try simp only [Act.put]); (try simp only [List.setIfInBounds_toArray]); (try simp only [List.set_cons_succ]); (try simp only [List.set_cons_zero])
            refine wpAnyH_ready (rs := [6]) (by kernel_rfl) (by simp) ?_
            refine AllReadyH.cons (o := { dst := none, op := Op.store 35 (Operand.tmp 5) (Operand.tmp 13), type := 0, pos := "law.go:124", after := #[{ on := 4, ground := Ground.data }, { on := 1, ground := Ground.data }, { on := 3, ground := Ground.chain }, { on := 0, ground := Ground.phase }, { on := 1, ground := Ground.phase }, { on := 2, ground := Ground.textOnly Departure.lateStores }, { on := 3, ground := Ground.textOnly Departure.lateStoresUnsure }, { on := 4, ground := Ground.phase }, { on := 5, ground := Ground.phase }], guard := none }) rfl (fun K hK => ?_) AllReadyH.nil
            · skip
              refine stepStoreR ?_ (.tmp 5) (.tmp 13) ?_ m158 L1 H1 ?_ ?_ j159.thereF ?_
              · rfl
              · rfl
              · rfl
              · rfl
              refine hK.out _ _ (B2.up (j159.upF _) HB2.out) (fun _ => ?_)
              clear hK K
              (try simp only [Act.put]); (try simp only [List.setIfInBounds_toArray]); (try simp only [List.set_cons_succ]); (try simp only [List.set_cons_zero])
              refine wpAnyH_ready (rs := [7]) (by kernel_rfl) (by simp) ?_
              refine AllReadyH.cons (o := { dst := none, op := Op.store 35 (Operand.tmp 6) (Operand.tmp 15), type := 0, pos := "law.go:124", after := #[{ on := 5, ground := Ground.data }, { on := 3, ground := Ground.data }, { on := 6, ground := Ground.chain }, { on := 0, ground := Ground.phase }, { on := 1, ground := Ground.phase }, { on := 2, ground := Ground.phase }, { on := 3, ground := Ground.phase }, { on := 4, ground := Ground.phase }, { on := 5, ground := Ground.phase }, { on := 6, ground := Ground.phase }], guard := none }) rfl (fun K hK => ?_) AllReadyH.nil
              · skip
                refine stepStoreR ?_ (.tmp 6) (.tmp 15) ?_ m155 L2 H2 ?_ ?_ (j159.thereG _) ?_
                · rfl
                · rfl
                · rfl
                · rfl
                refine hK.out _ _ (B2.up (j159.fin L1 H1 L2 H2).2.2 HB2.out) (fun _ => ?_)
                clear hK K
                (try simp only [Act.put]); (try simp only [List.setIfInBounds_toArray]); (try simp only [List.set_cons_succ]); (try simp only [List.set_cons_zero])
                refine wpAnyH_done (by kernel_rfl) ?_ _
                refine NoPanic.normal ?_
                go_wp2_with fail
                go_meet
                case rel => exact ⟨m158, m155, rfl, rfl, j159.fin L1 H1 L2 H2⟩
    · skip
      refine stepAllocR ?_ ?_ ?_
      · rfl
      · rfl
      intro m160 x160 hm160 hx160
      have j160 := (J2r.start w2).nF hm160 hx160
      clear hm160 hx160
      refine hK.out _ _ (B2.up j160.1 HB2.out) (fun _ => ?_)
      clear hK K
      (try simp only [Act.put]); (try simp only [List.setIfInBounds_toArray]); (try simp only [List.set_cons_succ]); (try simp only [List.set_cons_zero])
      refine wpAnyH_ready (rs := [1, 5]) (by kernel_rfl) (by simp) ?_
      refine AllReadyH.cons (o := { dst := some 13, op := Op.call { callee := Callee.value (Operand.func 16), args := #[Operand.tmp 12], argTypes := #[31] }, type := 35, pos := "law.go:124", after := #[{ on := 0, ground := Ground.data }], guard := none }) rfl (fun K hK => ?_) (AllReadyH.cons (o := { dst := some 6, op := Op.alloc 35, type := 0, pos := "law.go:124", after := #[], guard := none }) rfl (fun K hK => ?_) AllReadyH.nil)
      · skip
        refine stepCall1 ?_ 16 (.tmp 12) #[31] ?_ (.agg #[.float .f64 a, .float .f64 b, .bool p, .bool q]) ?_ ?_ (ent_of _ _) ?_
        · rfl
        · rfl
        · rfl
        · rfl
        refine (HOa.out _).mono ?_
        rintro o x161 ⟨rfl, b161⟩
        refine ⟨_, rfl, ?_⟩
        have j161 := j160.up b161
        refine hK.out _ _ (B2.up j161.1 HB2.out) (fun _ => ?_)
        clear hK K
        (try simp only [Act.put]); (try simp only [List.setIfInBounds_toArray]); (try simp only [List.set_cons_succ]); (try simp only [List.set_cons_zero])
        refine wpAnyH_ready (rs := [3, 5]) (by kernel_rfl) (by simp) ?_
        refine AllReadyH.cons (o := { dst := some 15, op := Op.call { callee := Callee.value (Operand.func 16), args := #[Operand.tmp 14], argTypes := #[31] }, type := 35, pos := "law.go:124", after := #[{ on := 2, ground := Ground.data }, { on := 1, ground := Ground.chain }], guard := none }) rfl (fun K hK => ?_) (AllReadyH.cons (o := { dst := some 6, op := Op.alloc 35, type := 0, pos := "law.go:124", after := #[], guard := none }) rfl (fun K hK => ?_) AllReadyH.nil)
        · skip
          refine stepCall1 ?_ 16 (.tmp 14) #[31] ?_ (.agg #[.float .f64 c, .float .f64 d, .bool r, .bool s]) ?_ ?_ (ent_of _ _) ?_
          · rfl
          · rfl
          · rfl
          · rfl
          refine (HOb.out _).mono ?_
          rintro o x162 ⟨rfl, b162⟩
          refine ⟨_, rfl, ?_⟩
          have j162 := j161.up b162
          refine hK.out _ _ (B2.up j162.1 HB2.out) (fun _ => ?_)
          clear hK K
          (try simp only [Act.put]); (try simp only [List.setIfInBounds_toArray]); (try simp only [List.set_cons_succ]); (try simp only [List.set_cons_zero])
          refine wpAnyH_ready (rs := [5]) (by kernel_rfl) (by simp) ?_
          refine AllReadyH.cons (o := { dst := some 6, op := Op.alloc 35, type := 0, pos := "law.go:124", after := #[], guard := none }) rfl (fun K hK => ?_) AllReadyH.nil
          · skip
            refine stepAllocR ?_ ?_ ?_
            · rfl
            · rfl
            intro m163 x163 hm163 hx163
            have j163 := j162.nG hm163 hx163
            clear hm163 hx163
            refine hK.out _ _ (B2.up j163.1 HB2.out) (fun _ => ?_)
            clear hK K
            (try simp only [Act.put]); (try simp only [List.setIfInBounds_toArray]); (try simp only [List.set_cons_succ]); (try simp only [List.set_cons_zero])
            refine wpAnyH_ready (rs := [6]) (by kernel_rfl) (by simp) ?_
            refine AllReadyH.cons (o := { dst := none, op := Op.store 35 (Operand.tmp 5) (Operand.tmp 13), type := 0, pos := "law.go:124", after := #[{ on := 4, ground := Ground.data }, { on := 1, ground := Ground.data }, { on := 3, ground := Ground.chain }, { on := 0, ground := Ground.phase }, { on := 1, ground := Ground.phase }, { on := 2, ground := Ground.textOnly Departure.lateStores }, { on := 3, ground := Ground.textOnly Departure.lateStoresUnsure }, { on := 4, ground := Ground.phase }, { on := 5, ground := Ground.phase }], guard := none }) rfl (fun K hK => ?_) AllReadyH.nil
            · skip
              refine stepStoreR ?_ (.tmp 5) (.tmp 13) ?_ m160 L1 H1 ?_ ?_ j163.thereF ?_
              · rfl
              · rfl
              · rfl
              · rfl
              refine hK.out _ _ (B2.up (j163.upF _) HB2.out) (fun _ => ?_)
              clear hK K
              (try simp only [Act.put]); (try simp only [List.setIfInBounds_toArray]); (try simp only [List.set_cons_succ]); (try simp only [List.set_cons_zero])
              refine wpAnyH_ready (rs := [7]) (by kernel_rfl) (by simp) ?_
              refine AllReadyH.cons (o := { dst := none, op := Op.store 35 (Operand.tmp 6) (Operand.tmp 15), type := 0, pos := "law.go:124", after := #[{ on := 5, ground := Ground.data }, { on := 3, ground := Ground.data }, { on := 6, ground := Ground.chain }, { on := 0, ground := Ground.phase }, { on := 1, ground := Ground.phase }, { on := 2, ground := Ground.phase }, { on := 3, ground := Ground.phase }, { on := 4, ground := Ground.phase }, { on := 5, ground := Ground.phase }, { on := 6, ground := Ground.phase }], guard := none }) rfl (fun K hK => ?_) AllReadyH.nil
              · skip
                refine stepStoreR ?_ (.tmp 6) (.tmp 15) ?_ m163 L2 H2 ?_ ?_ (j163.thereG _) ?_
                · rfl
                · rfl
                · rfl
                · rfl
                refine hK.out _ _ (B2.up (j163.fin L1 H1 L2 H2).2.2 HB2.out) (fun _ => ?_)
                clear hK K
                (try simp only [Act.put]); (try simp only [List.setIfInBounds_toArray]); (try simp only [List.set_cons_succ]); (try simp only [List.set_cons_zero])
                refine wpAnyH_done (by kernel_rfl) ?_ _
                refine NoPanic.normal ?_
                go_wp2_with fail
                go_meet
                case rel => exact ⟨m160, m163, rfl, rfl, j163.fin L1 H1 L2 H2⟩
        · skip
          refine stepAllocR ?_ ?_ ?_
          · rfl
          · rfl
          intro m164 x164 hm164 hx164
          have j164 := j161.nG hm164 hx164
          clear hm164 hx164
          refine hK.out _ _ (B2.up j164.1 HB2.out) (fun _ => ?_)
          clear hK K
          (try simp only [Act.put]); (try simp only [List.setIfInBounds_toArray]); (try simp only [List.set_cons_succ]); (try simp only [List.set_cons_zero])
          refine wpAnyH_ready (rs := [3]) (by kernel_rfl) (by simp) ?_
          refine AllReadyH.cons (o := { dst := some 15, op := Op.call { callee := Callee.value (Operand.func 16), args := #[Operand.tmp 14], argTypes := #[31] }, type := 35, pos := "law.go:124", after := #[{ on := 2, ground := Ground.data }, { on := 1, ground := Ground.chain }], guard := none }) rfl (fun K hK => ?_) AllReadyH.nil
          · skip
            refine stepCall1 ?_ 16 (.tmp 14) #[31] ?_ (.agg #[.float .f64 c, .float .f64 d, .bool r, .bool s]) ?_ ?_ (ent_of _ _) ?_
            · rfl
            · rfl
            · rfl
            · rfl
            refine (HOb.out _).mono ?_
            rintro o x165 ⟨rfl, b165⟩
            refine ⟨_, rfl, ?_⟩
            have j165 := j164.up b165
            refine hK.out _ _ (B2.up j165.1 HB2.out) (fun _ => ?_)
            clear hK K
            (try simp only [Act.put]); (try simp only [List.setIfInBounds_toArray]); (try simp only [List.set_cons_succ]); (try simp only [List.set_cons_zero])
            refine wpAnyH_ready (rs := [6]) (by kernel_rfl) (by simp) ?_
            refine AllReadyH.cons (o := { dst := none, op := Op.store 35 (Operand.tmp 5) (Operand.tmp 13), type := 0, pos := "law.go:124", after := #[{ on := 4, ground := Ground.data }, { on := 1, ground := Ground.data }, { on := 3, ground := Ground.chain }, { on := 0, ground := Ground.phase }, { on := 1, ground := Ground.phase }, { on := 2, ground := Ground.textOnly Departure.lateStores }, { on := 3, ground := Ground.textOnly Departure.lateStoresUnsure }, { on := 4, ground := Ground.phase }, { on := 5, ground := Ground.phase }], guard := none }) rfl (fun K hK => ?_) AllReadyH.nil
            · skip
              refine stepStoreR ?_ (.tmp 5) (.tmp 13) ?_ m160 L1 H1 ?_ ?_ j165.thereF ?_
              · rfl
              · rfl
              · rfl
              · rfl
              refine hK.out _ _ (B2.up (j165.upF _) HB2.out) (fun _ => ?_)
              clear hK K
              (try simp only [Act.put]); (try simp only [List.setIfInBounds_toArray]); (try simp only [List.set_cons_succ]); (try simp only [List.set_cons_zero])
              refine wpAnyH_ready (rs := [7]) (by kernel_rfl) (by simp) ?_
              refine AllReadyH.cons (o := { dst := none, op := Op.store 35 (Operand.tmp 6) (Operand.tmp 15), type := 0, pos := "law.go:124", after := #[{ on := 5, ground := Ground.data }, { on := 3, ground := Ground.data }, { on := 6, ground := Ground.chain }, { on := 0, ground := Ground.phase }, { on := 1, ground := Ground.phase }, { on := 2, ground := Ground.phase }, { on := 3, ground := Ground.phase }, { on := 4, ground := Ground.phase }, { on := 5, ground := Ground.phase }, { on := 6, ground := Ground.phase }], guard := none }) rfl (fun K hK => ?_) AllReadyH.nil
              · skip
                refine stepStoreR ?_ (.tmp 6) (.tmp 15) ?_ m164 L2 H2 ?_ ?_ (j165.thereG _) ?_
                · rfl
                · rfl
                · rfl
                · rfl
                refine hK.out _ _ (B2.up (j165.fin L1 H1 L2 H2).2.2 HB2.out) (fun _ => ?_)
                clear hK K
                (try simp only [Act.put]); (try simp only [List.setIfInBounds_toArray]); (try simp only [List.set_cons_succ]); (try simp only [List.set_cons_zero])
                refine wpAnyH_done (by kernel_rfl) ?_ _
                refine NoPanic.normal ?_
                go_wp2_with fail
                go_meet
                case rel => exact ⟨m160, m164, rfl, rfl, j165.fin L1 H1 L2 H2⟩
      · skip
        refine stepAllocR ?_ ?_ ?_
        · rfl
        · rfl
        intro m166 x166 hm166 hx166
        have j166 := j160.nG hm166 hx166
        clear hm166 hx166
        refine hK.out _ _ (B2.up j166.1 HB2.out) (fun _ => ?_)
        clear hK K
        (try simp only [Act.put]); (try simp only [List.setIfInBounds_toArray]); (try simp only [List.set_cons_succ]); (try simp only [List.set_cons_zero])
        refine wpAnyH_ready (rs := [1]) (by kernel_rfl) (by simp) ?_
        refine AllReadyH.cons (o := { dst := some 13, op := Op.call { callee := Callee.value (Operand.func 16), args := #[Operand.tmp 12], argTypes := #[31] }, type := 35, pos := "law.go:124", after := #[{ on := 0, ground := Ground.data }], guard := none }) rfl (fun K hK => ?_) AllReadyH.nil
        · skip
          refine stepCall1 ?_ 16 (.tmp 12) #[31] ?_ (.agg #[.float .f64 a, .float .f64 b, .bool p, .bool q]) ?_ ?_ (ent_of _ _) ?_
          · rfl
          · rfl
          · rfl
          · rfl
          refine (HOa.out _).mono ?_
          rintro o x167 ⟨rfl, b167⟩
          refine ⟨_, rfl, ?_⟩
          have j167 := j166.up b167
          refine hK.out _ _ (B2.up j167.1 HB2.out) (fun _ => ?_)
          clear hK K
          (try simp only [Act.put]); (try simp only [List.setIfInBounds_toArray]); (try simp only [List.set_cons_succ]); (try simp only [List.set_cons_zero])
          refine wpAnyH_ready (rs := [3]) (by kernel_rfl) (by simp) ?_
          refine AllReadyH.cons (o := { dst := some 15, op := Op.call { callee := Callee.value (Operand.func 16), args := #[Operand.tmp 14], argTypes := #[31] }, type := 35, pos := "law.go:124", after := #[{ on := 2, ground := Ground.data }, { on := 1, ground := Ground.chain }], guard := none }) rfl (fun K hK => ?_) AllReadyH.nil
          · skip
            refine stepCall1 ?_ 16 (.tmp 14) #[31] ?_ (.agg #[.float .f64 c, .float .f64 d, .bool r, .bool s]) ?_ ?_ (ent_of _ _) ?_
            · rfl
            · rfl
            · rfl
            · rfl
            refine (HOb.out _).mono ?_
            rintro o x168 ⟨rfl, b168⟩
            refine ⟨_, rfl, ?_⟩
            have j168 := j167.up b168
            refine hK.out _ _ (B2.up j168.1 HB2.out) (fun _ => ?_)
            clear hK K
            (try simp only [Act.put]); (try simp only [List.setIfInBounds_toArray]); (try simp only [List.set_cons_succ]); (try simp only [List.set_cons_zero])
            refine wpAnyH_ready (rs := [6]) (by kernel_rfl) (by simp) ?_
            refine AllReadyH.cons (o := { dst := none, op := Op.store 35 (Operand.tmp 5) (Operand.tmp 13), type := 0, pos := "law.go:124", after := #[{ on := 4, ground := Ground.data }, { on := 1, ground := Ground.data }, { on := 3, ground := Ground.chain }, { on := 0, ground := Ground.phase }, { on := 1, ground := Ground.phase }, { on := 2, ground := Ground.textOnly Departure.lateStores }, { on := 3, ground := Ground.textOnly Departure.lateStoresUnsure }, { on := 4, ground := Ground.phase }, { on := 5, ground := Ground.phase }], guard := none }) rfl (fun K hK => ?_) AllReadyH.nil
            · skip
              refine stepStoreR ?_ (.tmp 5) (.tmp 13) ?_ m160 L1 H1 ?_ ?_ j168.thereF ?_
              · rfl
              · rfl
              · rfl
              · rfl
              refine hK.out _ _ (B2.up (j168.upF _) HB2.out) (fun _ => ?_)
              clear hK K
              (try simp only [Act.put]); (try simp only [List.setIfInBounds_toArray]); (try simp only [List.set_cons_succ]); (try simp only [List.set_cons_zero])
              refine wpAnyH_ready (rs := [7]) (by kernel_rfl) (by simp) ?_
              refine AllReadyH.cons (o := { dst := none, op := Op.store 35 (Operand.tmp 6) (Operand.tmp 15), type := 0, pos := "law.go:124", after := #[{ on := 5, ground := Ground.data }, { on := 3, ground := Ground.data }, { on := 6, ground := Ground.chain }, { on := 0, ground := Ground.phase }, { on := 1, ground := Ground.phase }, { on := 2, ground := Ground.phase }, { on := 3, ground := Ground.phase }, { on := 4, ground := Ground.phase }, { on := 5, ground := Ground.phase }, { on := 6, ground := Ground.phase }], guard := none }) rfl (fun K hK => ?_) AllReadyH.nil
              · skip
                refine stepStoreR ?_ (.tmp 6) (.tmp 15) ?_ m166 L2 H2 ?_ ?_ (j168.thereG _) ?_
                · rfl
                · rfl
                · rfl
                · rfl
                refine hK.out _ _ (B2.up (j168.fin L1 H1 L2 H2).2.2 HB2.out) (fun _ => ?_)
                clear hK K
                (try simp only [Act.put]); (try simp only [List.setIfInBounds_toArray]); (try simp only [List.set_cons_succ]); (try simp only [List.set_cons_zero])
                refine wpAnyH_done (by kernel_rfl) ?_ _
                refine NoPanic.normal ?_
                go_wp2_with fail
                go_meet
                case rel => exact ⟨m160, m166, rfl, rfl, j168.fin L1 H1 L2 H2⟩
    · skip
      refine stepAllocR ?_ ?_ ?_
      · rfl
      · rfl
      intro m169 x169 hm169 hx169
      have j169 := (J2r.start w2).nG hm169 hx169
      clear hm169 hx169
      refine hK.out _ _ (B2.up j169.1 HB2.out) (fun _ => ?_)
      clear hK K
      (try simp only [Act.put]); (try simp only [List.setIfInBounds_toArray]); (try simp only [List.set_cons_succ]); (try simp only [List.set_cons_zero])
      refine wpAnyH_ready (rs := [1, 4]) (by kernel_rfl) (by simp) ?_
      refine AllReadyH.cons (o := { dst := some 13, op := Op.call { callee := Callee.value (Operand.func 16), args := #[Operand.tmp 12], argTypes := #[31] }, type := 35, pos := "law.go:124", after := #[{ on := 0, ground := Ground.data }], guard := none }) rfl (fun K hK => ?_) (AllReadyH.cons (o := { dst := some 5, op := Op.alloc 35, type := 0, pos := "law.go:124", after := #[], guard := none }) rfl (fun K hK => ?_) AllReadyH.nil)
      · skip
        refine stepCall1 ?_ 16 (.tmp 12) #[31] ?_ (.agg #[.float .f64 a, .float .f64 b, .bool p, .bool q]) ?_ ?_ (ent_of _ _) ?_
        · rfl
        · rfl
        · rfl
        · rfl
        refine (HOa.out _).mono ?_
        rintro o x170 ⟨rfl, b170⟩
        refine ⟨_, rfl, ?_⟩
        have j170 := j169.up b170
        refine hK.out _ _ (B2.up j170.1 HB2.out) (fun _ => ?_)
        clear hK K
        (try simp only [Act.put]); (try simp only [List.setIfInBounds_toArray]); (try simp only [List.set_cons_succ]); (try simp only [List.set_cons_zero])
        refine wpAnyH_ready (rs := [3, 4]) (by kernel_rfl) (by simp) ?_
        refine AllReadyH.cons (o := { dst := some 15, op := Op.call { callee := Callee.value (Operand.func 16), args := #[Operand.tmp 14], argTypes := #[31] }, type := 35, pos := "law.go:124", after := #[{ on := 2, ground := Ground.data }, { on := 1, ground := Ground.chain }], guard := none }) rfl (fun K hK => ?_) (AllReadyH.cons (o := { dst := some 5, op := Op.alloc 35, type := 0, pos := "law.go:124", after := #[], guard := none }) rfl (fun K hK => ?_) AllReadyH.nil)
        · skip
          refine stepCall1 ?_ 16 (.tmp 14) #[31] ?_ (.agg #[.float .f64 c, .float .f64 d, .bool r, .bool s]) ?_ ?_ (ent_of _ _) ?_
          · rfl
          · rfl
          · rfl
          · rfl
          refine (HOb.out _).mono ?_
          rintro o x171 ⟨rfl, b171⟩
          refine ⟨_, rfl, ?_⟩
          have j171 := j170.up b171
          refine hK.out _ _ (B2.up j171.1 HB2.out) (fun _ => ?_)
          clear hK K
          (try simp only [Act.put]); (try simp only [List.setIfInBounds_toArray]); (try simp only [List.set_cons_succ]); (try simp only [List.set_cons_zero])
          refine wpAnyH_ready (rs := [4]) (by kernel_rfl) (by simp) ?_
          refine AllReadyH.cons (o := { dst := some 5, op := Op.alloc 35, type := 0, pos := "law.go:124", after := #[], guard := none }) rfl (fun K hK => ?_) AllReadyH.nil
          · skip
            refine stepAllocR ?_ ?_ ?_
            · rfl
            · rfl
            intro m172 x172 hm172 hx172
            have j172 := j171.nF hm172 hx172
            clear hm172 hx172
            refine hK.out _ _ (B2.up j172.1 HB2.out) (fun _ => ?_)
            clear hK K
            (try simp only [Act.put]); (try simp only [List.setIfInBounds_toArray]); (try simp only [List.set_cons_succ]); (try simp only [List.set_cons_zero])
            refine wpAnyH_ready (rs := [6]) (by kernel_rfl) (by simp) ?_
            refine AllReadyH.cons (o := { dst := none, op := Op.store 35 (Operand.tmp 5) (Operand.tmp 13), type := 0, pos := "law.go:124", after := #[{ on := 4, ground := Ground.data }, { on := 1, ground := Ground.data }, { on := 3, ground := Ground.chain }, { on := 0, ground := Ground.phase }, { on := 1, ground := Ground.phase }, { on := 2, ground := Ground.textOnly Departure.lateStores }, { on := 3, ground := Ground.textOnly Departure.lateStoresUnsure }, { on := 4, ground := Ground.phase }, { on := 5, ground := Ground.phase }], guard := none }) rfl (fun K hK => ?_) AllReadyH.nil
            · skip
              refine stepStoreR ?_ (.tmp 5) (.tmp 13) ?_ m172 L1 H1 ?_ ?_ j172.thereF ?_
              · rfl
              · rfl
              · rfl
              · rfl
              refine hK.out _ _ (B2.up (j172.upF _) HB2.out) (fun _ => ?_)
              clear hK K
              (try simp only [Act.put]); (try simp only [List.setIfInBounds_toArray]); (try simp only [List.set_cons_succ]); (try simp only [List.set_cons_zero])
              refine wpAnyH_ready (rs := [7]) (by kernel_rfl) (by simp) ?_
              refine AllReadyH.cons (o := { dst := none, op := Op.store 35 (Operand.tmp 6) (Operand.tmp 15), type := 0, pos := "law.go:124", after := #[{ on := 5, ground := Ground.data }, { on := 3, ground := Ground.data }, { on := 6, ground := Ground.chain }, { on := 0, ground := Ground.phase }, { on := 1, ground := Ground.phase }, { on := 2, ground := Ground.phase }, { on := 3, ground := Ground.phase }, { on := 4, ground := Ground.phase }, { on := 5, ground := Ground.phase }, { on := 6, ground := Ground.phase }], guard := none }) rfl (fun K hK => ?_) AllReadyH.nil
              · skip
                refine stepStoreR ?_ (.tmp 6) (.tmp 15) ?_ m169 L2 H2 ?_ ?_ (j172.thereG _) ?_
                · rfl
                · rfl
                · rfl
                · rfl
                refine hK.out _ _ (B2.up (j172.fin L1 H1 L2 H2).2.2 HB2.out) (fun _ => ?_)
                clear hK K
                (try simp only [Act.put]); (try simp only [List.setIfInBounds_toArray]); (try simp only [List.set_cons_succ]); (try simp only [List.set_cons_zero])
                refine wpAnyH_done (by kernel_rfl) ?_ _
                refine NoPanic.normal ?_
                go_wp2_with fail
                go_meet
                case rel => exact ⟨m172, m169, rfl, rfl, j172.fin L1 H1 L2 H2⟩
        · skip
          refine stepAllocR ?_ ?_ ?_
          · rfl
          · rfl
          intro m173 x173 hm173 hx173
          have j173 := j170.nF hm173 hx173
          clear hm173 hx173
          refine hK.out _ _ (B2.up j173.1 HB2.out) (fun _ => ?_)
          clear hK K
          (try simp only [Act.put]); (try simp only [List.setIfInBounds_toArray]); (try simp only [List.set_cons_succ]); (try simp only [List.set_cons_zero])
          refine wpAnyH_ready (rs := [3]) (by kernel_rfl) (by simp) ?_
          refine AllReadyH.cons (o := { dst := some 15, op := Op.call { callee := Callee.value (Operand.func 16), args := #[Operand.tmp 14], argTypes := #[31] }, type := 35, pos := "law.go:124", after := #[{ on := 2, ground := Ground.data }, { on := 1, ground := Ground.chain }], guard := none }) rfl (fun K hK => ?_) AllReadyH.nil
          · skip
            refine stepCall1 ?_ 16 (.tmp 14) #[31] ?_ (.agg #[.float .f64 c, .float .f64 d, .bool r, .bool s]) ?_ ?_ (ent_of _ _) ?_
            · rfl
            · rfl
            · rfl
            · rfl
            refine (HOb.out _).mono ?_
            rintro o x174 ⟨rfl, b174⟩
            refine ⟨_, rfl, ?_⟩
            have j174 := j173.up b174
            refine hK.out _ _ (B2.up j174.1 HB2.out) (fun _ => ?_)
            clear hK K
            (try simp only [Act.put]); (try simp only [List.setIfInBounds_toArray]); (try simp only [List.set_cons_succ]); (try simp only [List.set_cons_zero])
            refine wpAnyH_ready (rs := [6]) (by kernel_rfl) (by simp) ?_
            refine AllReadyH.cons (o := { dst := none, op := Op.store 35 (Operand.tmp 5) (Operand.tmp 13), type := 0, pos := "law.go:124", after := #[{ on := 4, ground := Ground.data }, { on := 1, ground := Ground.data }, { on := 3, ground := Ground.chain }, { on := 0, ground := Ground.phase }, { on := 1, ground := Ground.phase }, { on := 2, ground := Ground.textOnly Departure.lateStores }, { on := 3, ground := Ground.textOnly Departure.lateStoresUnsure }, { on := 4, ground := Ground.phase }, { on := 5, ground := Ground.phase }], guard := none }) rfl (fun K hK => ?_) AllReadyH.nil
            · skip
              refine stepStoreR ?_ (.tmp 5) (.tmp 13) ?_ m173 L1 H1 ?_ ?_ j174.thereF ?_
              · rfl
              · rfl
              · rfl
              · rfl
              refine hK.out _ _ (B2.up (j174.upF _) HB2.out) (fun _ => ?_)
              clear hK K
              (try simp only [Act.put]); (try simp only [List.setIfInBounds_toArray]); (try simp only [List.set_cons_succ]); (try simp only [List.set_cons_zero])
              refine wpAnyH_ready (rs := [7]) (by kernel_rfl) (by simp) ?_
              refine AllReadyH.cons (o := { dst := none, op := Op.store 35 (Operand.tmp 6) (Operand.tmp 15), type := 0, pos := "law.go:124", after := #[{ on := 5, ground := Ground.data }, { on := 3, ground := Ground.data }, { on := 6, ground := Ground.chain }, { on := 0, ground := Ground.phase }, { on := 1, ground := Ground.phase }, { on := 2, ground := Ground.phase }, { on := 3, ground := Ground.phase }, { on := 4, ground := Ground.phase }, { on := 5, ground := Ground.phase }, { on := 6, ground := Ground.phase }], guard := none }) rfl (fun K hK => ?_) AllReadyH.nil
              · skip
                refine stepStoreR ?_ (.tmp 6) (.tmp 15) ?_ m169 L2 H2 ?_ ?_ (j174.thereG _) ?_
                · rfl
                · rfl
                · rfl
                · rfl
                refine hK.out _ _ (B2.up (j174.fin L1 H1 L2 H2).2.2 HB2.out) (fun _ => ?_)
                clear hK K
                (try simp only [Act.put]); (try simp only [List.setIfInBounds_toArray]); (try simp only [List.set_cons_succ]); (try simp only [List.set_cons_zero])
                refine wpAnyH_done (by kernel_rfl) ?_ _
                refine NoPanic.normal ?_
                go_wp2_with fail
                go_meet
                case rel => exact ⟨m173, m169, rfl, rfl, j174.fin L1 H1 L2 H2⟩
      · skip
        refine stepAllocR ?_ ?_ ?_
        · rfl
        · rfl
        intro m175 x175 hm175 hx175
        have j175 := j169.nF hm175 hx175
        clear hm175 hx175
        refine hK.out _ _ (B2.up j175.1 HB2.out) (fun _ => ?_)
        clear hK K
        (try simp only [Act.put]); (try simp only [List.setIfInBounds_toArray]); (try simp only [List.set_cons_succ]); (try simp only [List.set_cons_zero])
        refine wpAnyH_ready (rs := [1]) (by kernel_rfl) (by simp) ?_
        refine AllReadyH.cons (o := { dst := some 13, op := Op.call { callee := Callee.value (Operand.func 16), args := #[Operand.tmp 12], argTypes := #[31] }, type := 35, pos := "law.go:124", after := #[{ on := 0, ground := Ground.data }], guard := none }) rfl (fun K hK => ?_) AllReadyH.nil
        · skip
          refine stepCall1 ?_ 16 (.tmp 12) #[31] ?_ (.agg #[.float .f64 a, .float .f64 b, .bool p, .bool q]) ?_ ?_ (ent_of _ _) ?_
          · rfl
          · rfl
          · rfl
          · rfl
          refine (HOa.out _).mono ?_
          rintro o x176 ⟨rfl, b176⟩
          refine ⟨_, rfl, ?_⟩
          have j176 := j175.up b176
          refine hK.out _ _ (B2.up j176.1 HB2.out) (fun _ => ?_)
          clear hK K
          (try simp only [Act.put]); (try simp only [List.setIfInBounds_toArray]); (try simp only [List.set_cons_succ]); (try simp only [List.set_cons_zero])
          refine wpAnyH_ready (rs := [3]) (by kernel_rfl) (by simp) ?_
          refine AllReadyH.cons (o := { dst := some 15, op := Op.call { callee := Callee.value (Operand.func 16), args := #[Operand.tmp 14], argTypes := #[31] }, type := 35, pos := "law.go:124", after := #[{ on := 2, ground := Ground.data }, { on := 1, ground := Ground.chain }], guard := none }) rfl (fun K hK => ?_) AllReadyH.nil
          · skip
            refine stepCall1 ?_ 16 (.tmp 14) #[31] ?_ (.agg #[.float .f64 c, .float .f64 d, .bool r, .bool s]) ?_ ?_ (ent_of _ _) ?_
            · rfl
            · rfl
            · rfl
            · rfl
            refine (HOb.out _).mono ?_
            rintro o x177 ⟨rfl, b177⟩
            refine ⟨_, rfl, ?_⟩
            have j177 := j176.up b177
            refine hK.out _ _ (B2.up j177.1 HB2.out) (fun _ => ?_)
            clear hK K
            (try simp only [Act.put]); (try simp only [List.setIfInBounds_toArray]); (try simp only [List.set_cons_succ]); (try simp only [List.set_cons_zero])
            refine wpAnyH_ready (rs := [6]) (by kernel_rfl) (by simp) ?_
            refine AllReadyH.cons (o := { dst := none, op := Op.store 35 (Operand.tmp 5) (Operand.tmp 13), type := 0, pos := "law.go:124", after := #[{ on := 4, ground := Ground.data }, { on := 1, ground := Ground.data }, { on := 3, ground := Ground.chain }, { on := 0, ground := Ground.phase }, { on := 1, ground := Ground.phase }, { on := 2, ground := Ground.textOnly Departure.lateStores }, { on := 3, ground := Ground.textOnly Departure.lateStoresUnsure }, { on := 4, ground := Ground.phase }, { on := 5, ground := Ground.phase }], guard := none }) rfl (fun K hK => ?_) AllReadyH.nil
            · skip
              refine stepStoreR ?_ (.tmp 5) (.tmp 13) ?_ m175 L1 H1 ?_ ?_ j177.thereF ?_
              · rfl
              · rfl
              · rfl
              · rfl
              refine hK.out _ _ (B2.up (j177.upF _) HB2.out) (fun _ => ?_)
              clear hK K
              (try simp only [Act.put]); (try simp only [List.setIfInBounds_toArray]); (try simp only [List.set_cons_succ]); (try simp only [List.set_cons_zero])
              refine wpAnyH_ready (rs := [7]) (by kernel_rfl) (by simp) ?_
              refine AllReadyH.cons (o := { dst := none, op := Op.store 35 (Operand.tmp 6) (Operand.tmp 15), type := 0, pos := "law.go:124", after := #[{ on := 5, ground := Ground.data }, { on := 3, ground := Ground.data }, { on := 6, ground := Ground.chain }, { on := 0, ground := Ground.phase }, { on := 1, ground := Ground.phase }, { on := 2, ground := Ground.phase }, { on := 3, ground := Ground.phase }, { on := 4, ground := Ground.phase }, { on := 5, ground := Ground.phase }, { on := 6, ground := Ground.phase }], guard := none }) rfl (fun K hK => ?_) AllReadyH.nil
              · skip
                refine stepStoreR ?_ (.tmp 6) (.tmp 15) ?_ m169 L2 H2 ?_ ?_ (j177.thereG _) ?_
                · rfl
                · rfl
                · rfl
                · rfl
                refine hK.out _ _ (B2.up (j177.fin L1 H1 L2 H2).2.2 HB2.out) (fun _ => ?_)
                clear hK K
                (try simp only [Act.put]); (try simp only [List.setIfInBounds_toArray]); (try simp only [List.set_cons_succ]); (try simp only [List.set_cons_zero])
                refine wpAnyH_done (by kernel_rfl) ?_ _
                refine NoPanic.normal ?_
                go_wp2_with fail
                go_meet
                case rel => exact ⟨m175, m169, rfl, rfl, j177.fin L1 H1 L2 H2⟩
  case rest =>
    obtain ⟨m, n, rfl, rfl, sm, sn, U1⟩ := hcut
    have UW : Up w wc := U2.trans U1
    have sB : B2 w.heap.size a b p q (w.heap.size + 1) c d r s wc := B2.up U1 HB2.out
    clear HB2 s2 s3 hb2 hb3 HC0 HOa HOb
    go_upto_region 5 with (go_at_call 27; refine (HCab.out _).mono ?_; rintro o w8 ⟨rfl, hb8⟩)
    have UB : Up w w8 := UW.trans hb8
    have hB4 : B4 w.heap.size a b p q (w.heap.size + 1) c d r s m L1 H1 n L2 H2 w8 := ⟨B2.up hb8 sB, RgAt.up hb8 sm, RgAt.up hb8 sn⟩
    clear sm sn sB U1 U2 UW hb8 HCab
    rcases HR.out with ⟨rfl, rfl, rfl⟩ | ⟨rfl, rfl, rfl⟩ | ⟨rfl, rfl, rfl⟩
    · clear HR
      refine wp_region_noPanic ?_
      refine wp_region_held_drew (S := B4 w.heap.size a b p q (w.heap.size + 1) c d r s m L1 H1 n L2 H2) (by kernel_rfl) ?_ (fun hHeld => ?_)
      · exact B4.up ((Up.refl _).drew) hB4
      (try simp only [Act.put]); (try simp only [List.setIfInBounds_toArray]); (try simp only [List.set_cons_succ]); (try simp only [List.set_cons_zero])
      clear hHeld
      refine wpAnyH_take (i := 0) (oi := { dst := some 19, op := Op.move (Operand.tmp 7), type := 3, pos := "law.go:126", after := #[], guard := none }) (v := ?vk178) rfl (by kernel_rfl) (by kernel_rfl) (by kernel_rfl) (fun _ _ _ h => h) (Or.inl ⟨by rfl, ?hk178⟩) (B4.up ((Up.refl w8).drew) hB4) ?rk178
      case hk178 => (intro wz hSw; (try dsimp only at hSw); go_simp; try with_reducible rfl)
      (try simp only [Act.put]); (try simp only [List.setIfInBounds_toArray]); (try simp only [List.set_cons_succ]); (try simp only [List.set_cons_zero])
      refine wpAnyH_take (i := 1) (oi := { dst := some 20, op := Op.load 35 (Operand.tmp 5), type := 35, pos := "law.go:126", after := #[], guard := none }) (v := ?vk179) rfl (by kernel_rfl) (by kernel_rfl) (by kernel_rfl) (fun _ _ _ h => h) (Or.inl ⟨by rfl, ?hk179⟩) (B4.up ((Up.refl w8).drew) hB4) ?rk179
      case hk179 => (intro wz hSw; (try dsimp only at hSw); go_simp; try with_reducible rfl)
      (try simp only [Act.put]); (try simp only [List.setIfInBounds_toArray]); (try simp only [List.set_cons_succ]); (try simp only [List.set_cons_zero])
      refine wpAnyH_take (i := 2) (oi := { dst := some 21, op := Op.load 35 (Operand.tmp 6), type := 35, pos := "law.go:126", after := #[], guard := none }) (v := ?vk180) rfl (by kernel_rfl) (by kernel_rfl) (by kernel_rfl) (fun _ _ _ h => h) (Or.inl ⟨by rfl, ?hk180⟩) (B4.up ((Up.refl w8).drew) hB4) ?rk180
      case hk180 => (intro wz hSw; (try dsimp only at hSw); go_simp; try with_reducible rfl)
      (try simp only [Act.put]); (try simp only [List.setIfInBounds_toArray]); (try simp only [List.set_cons_succ]); (try simp only [List.set_cons_zero])
      refine wpAnyH_ready (rs := [3]) (by kernel_rfl) (by simp) ?_
      refine AllReadyH.cons (o := { dst := some 22, op := Op.call { callee := Callee.value (Operand.func 28), args := #[Operand.tmp 20, Operand.tmp 21], argTypes := #[35, 35] }, type := 3, pos := "law.go:126", after := #[{ on := 1, ground := Ground.data }, { on := 2, ground := Ground.data }], guard := none }) rfl (fun K hK => ?_) AllReadyH.nil
      refine wantCall2 ?_ 28 (.tmp 20) (.tmp 21) #[35, 35] ?_ (.agg #[.int .u64 (L1 : Nat), .int .u64 (H1 : Nat)]) (.agg #[.int .u64 (L2 : Nat), .int .u64 (H2 : Nat)]) ?_ ?_ ?_ (ent_rcmp _ _) ?_
      · rfl
      · rfl
      · rfl
      · rfl
      · rfl
      refine (HRC.out _).mono ?_
      rintro o x181 ⟨rfl, b181⟩
      refine ⟨_, rfl, ?_⟩
      have U181 := ((Up.refl w8).drew).trans b181
      refine hK.out _ _ (B4.up U181 hB4) (fun _ => ?_)
      clear hK K
      (try simp only [Act.put]); (try simp only [List.setIfInBounds_toArray]); (try simp only [List.set_cons_succ]); (try simp only [List.set_cons_zero])
      refine wpAnyH_take (i := 4) (oi := { dst := some 23, op := Op.binOp BinOp.eql 3 (Operand.tmp 19) (Operand.tmp 22) 3, type := 4, pos := "law.go:126", after := #[{ on := 0, ground := Ground.data }, { on := 3, ground := Ground.data }], guard := none }) (v := ?vk182) rfl (by kernel_rfl) (by kernel_rfl) (by kernel_rfl) (fun _ _ _ h => h) (Or.inl ⟨by rfl, ?hk182⟩) (B4.up U181 hB4) ?rk182
      case hk182 => (intro wz hSw; (try dsimp only at hSw); go_simp; try with_reducible rfl)
      (try simp only [Act.put]); (try simp only [List.setIfInBounds_toArray]); (try simp only [List.set_cons_succ]); (try simp only [List.set_cons_zero])
      refine wpAnyH_take (i := 5) (oi := { dst := some 24, op := Op.move (Operand.tmp 23), type := 4, pos := "law.go:126", after := #[{ on := 4, ground := Ground.data }, { on := 3, ground := Ground.chain }], guard := none }) (v := ?vk183) rfl (by kernel_rfl) (by kernel_rfl) (by kernel_rfl) (fun _ _ _ h => h) (Or.inl ⟨by rfl, ?hk183⟩) (B4.up U181 hB4) ?rk183
      case hk183 => (intro wz hSw; (try dsimp only at hSw); go_simp; try with_reducible rfl)
      (try simp only [Act.put]); (try simp only [List.setIfInBounds_toArray]); (try simp only [List.set_cons_succ]); (try simp only [List.set_cons_zero])
      refine wpAnyH_take (i := 6) (oi := { dst := some 25, op := Op.move (Operand.tmp 7), type := 3, pos := "law.go:126", after := #[{ on := 5, ground := Ground.guard }], guard := some (5, true) }) (v := ?vk184) rfl (by kernel_rfl) (by kernel_rfl) (by kernel_rfl) (fun _ _ _ h => h) (Or.inl ⟨by rfl, ?hk184⟩) (B4.up U181 hB4) ?rk184
      case hk184 => (intro wz hSw; (try dsimp only at hSw); go_simp; try with_reducible rfl)
      (try simp only [Act.put]); (try simp only [List.setIfInBounds_toArray]); (try simp only [List.set_cons_succ]); (try simp only [List.set_cons_zero])
      refine wpAnyH_take (i := 7) (oi := { dst := some 26, op := Op.load 31 (Operand.tmp 3), type := 31, pos := "law.go:126", after := #[{ on := 5, ground := Ground.guard }], guard := some (5, true) }) (v := ?vk185) rfl (by kernel_rfl) (by kernel_rfl) (by kernel_rfl) (fun _ _ _ h => h) (Or.inl ⟨by rfl, ?hk185⟩) (B4.up U181 hB4) ?rk185
      case hk185 => (intro wz hSw; (try dsimp only at hSw); go_simp; try with_reducible rfl)
      (try simp only [Act.put]); (try simp only [List.setIfInBounds_toArray]); (try simp only [List.set_cons_succ]); (try simp only [List.set_cons_zero])
      refine wpAnyH_take (i := 8) (oi := { dst := some 27, op := Op.load 31 (Operand.tmp 2), type := 31, pos := "law.go:126", after := #[{ on := 5, ground := Ground.guard }], guard := some (5, true) }) (v := ?vk186) rfl (by kernel_rfl) (by kernel_rfl) (by kernel_rfl) (fun _ _ _ h => h) (Or.inl ⟨by rfl, ?hk186⟩) (B4.up U181 hB4) ?rk186
      case hk186 => (intro wz hSw; (try dsimp only at hSw); go_simp; try with_reducible rfl)
      (try simp only [Act.put]); (try simp only [List.setIfInBounds_toArray]); (try simp only [List.set_cons_succ]); (try simp only [List.set_cons_zero])
      refine wpAnyH_ready (rs := [9]) (by kernel_rfl) (by simp) ?_
      refine AllReadyH.cons (o := { dst := some 28, op := Op.call { callee := Callee.value (Operand.func 27), args := #[Operand.tmp 26, Operand.tmp 27], argTypes := #[31, 31] }, type := 3, pos := "law.go:126", after := #[{ on := 7, ground := Ground.data }, { on := 8, ground := Ground.data }, { on := 5, ground := Ground.chain }, { on := 5, ground := Ground.guard }], guard := some (5, true) }) rfl (fun K hK => ?_) AllReadyH.nil
      refine wantCall2 ?_ 27 (.tmp 26) (.tmp 27) #[31, 31] ?_ (.agg #[.float .f64 c, .float .f64 d, .bool r, .bool s]) (.agg #[.float .f64 a, .float .f64 b, .bool p, .bool q]) ?_ ?_ ?_ (ent_cmp _ _) ?_
      · rfl
      · rfl
      · rfl
      · rfl
      · rfl
      refine (HCba.out _).mono ?_
      rintro o x187 ⟨rfl, b187⟩
      refine ⟨_, rfl, ?_⟩
      have U187 := U181.trans b187
      refine hK.out _ _ (B4.up U187 hB4) (fun _ => ?_)
      clear hK K
      (try simp only [Act.put]); (try simp only [List.setIfInBounds_toArray]); (try simp only [List.set_cons_succ]); (try simp only [List.set_cons_zero])
      refine wpAnyH_take (i := 10) (oi := { dst := some 29, op := Op.unOp UnOp.neg 3 (Operand.tmp 28), type := 3, pos := "law.go:126", after := #[{ on := 9, ground := Ground.data }, { on := 5, ground := Ground.guard }], guard := some (5, true) }) (v := ?vk188) rfl (by kernel_rfl) (by kernel_rfl) (by kernel_rfl) (fun _ _ _ h => h) (Or.inl ⟨by rfl, ?hk188⟩) (B4.up U187 hB4) ?rk188
      case hk188 => (intro wz hSw; (try dsimp only at hSw); go_simp; try with_reducible rfl)
      (try simp only [Act.put]); (try simp only [List.setIfInBounds_toArray]); (try simp only [List.set_cons_succ]); (try simp only [List.set_cons_zero])
      refine wpAnyH_take (i := 11) (oi := { dst := some 30, op := Op.binOp BinOp.eql 3 (Operand.tmp 25) (Operand.tmp 29) 3, type := 4, pos := "law.go:126", after := #[{ on := 6, ground := Ground.data }, { on := 10, ground := Ground.data }, { on := 5, ground := Ground.guard }], guard := some (5, true) }) (v := ?vk189) rfl (by kernel_rfl) (by kernel_rfl) (by kernel_rfl) (fun _ _ _ h => h) (Or.inl ⟨by rfl, ?hk189⟩) (B4.up U187 hB4) ?rk189
      case hk189 => (intro wz hSw; (try dsimp only at hSw); go_simp; try with_reducible rfl)
      (try simp only [Act.put]); (try simp only [List.setIfInBounds_toArray]); (try simp only [List.set_cons_succ]); (try simp only [List.set_cons_zero])
      refine wpAnyH_take (i := 12) (oi := { dst := some 31, op := Op.pick (Operand.tmp 24) (Operand.tmp 30) (Operand.const (Value.bool false)), type := 4, pos := "law.go:126", after := #[{ on := 5, ground := Ground.data }, { on := 11, ground := Ground.data }], guard := none }) (v := ?vk190) rfl (by kernel_rfl) (by kernel_rfl) (by kernel_rfl) (fun _ _ _ h => h) (Or.inl ⟨by rfl, ?hk190⟩) (B4.up U187 hB4) ?rk190
      case hk190 => (intro wz hSw; (try dsimp only at hSw); go_simp; try with_reducible rfl)
      (try simp only [Act.put]); (try simp only [List.setIfInBounds_toArray]); (try simp only [List.set_cons_succ]); (try simp only [List.set_cons_zero])
      refine wpAnyH_take (i := 13) (oi := { dst := some 32, op := Op.move (Operand.tmp 31), type := 4, pos := "law.go:126", after := #[{ on := 12, ground := Ground.data }, { on := 9, ground := Ground.chain }], guard := none }) (v := ?vk191) rfl (by kernel_rfl) (by kernel_rfl) (by kernel_rfl) (fun _ _ _ h => h) (Or.inl ⟨by rfl, ?hk191⟩) (B4.up U187 hB4) ?rk191
      case hk191 => (intro wz hSw; (try dsimp only at hSw); go_simp; try with_reducible rfl)
      (try simp only [Act.put]); (try simp only [List.setIfInBounds_toArray]); (try simp only [List.set_cons_succ]); (try simp only [List.set_cons_zero])
      refine wpAnyH_take (i := 14) (oi := { dst := some 33, op := Op.move (Operand.tmp 7), type := 3, pos := "law.go:126", after := #[{ on := 13, ground := Ground.guard }], guard := some (13, true) }) (v := ?vk192) rfl (by kernel_rfl) (by kernel_rfl) (by kernel_rfl) (fun _ _ _ h => h) (Or.inl ⟨by rfl, ?hk192⟩) (B4.up U187 hB4) ?rk192
      case hk192 => (intro wz hSw; (try dsimp only at hSw); go_simp; try with_reducible rfl)
      (try simp only [Act.put]); (try simp only [List.setIfInBounds_toArray]); (try simp only [List.set_cons_succ]); (try simp only [List.set_cons_zero])
      refine wpAnyH_take (i := 15) (oi := { dst := some 34, op := Op.binOp BinOp.eql 3 (Operand.tmp 33) (Operand.const (Value.int IntKind.i64 0)) 3, type := 4, pos := "law.go:126", after := #[{ on := 14, ground := Ground.data }, { on := 13, ground := Ground.guard }], guard := some (13, true) }) (v := ?vk193) rfl (by kernel_rfl) (by kernel_rfl) (by kernel_rfl) (fun _ _ _ h => h) (Or.inl ⟨by rfl, ?hk193⟩) (B4.up U187 hB4) ?rk193
      case hk193 => (intro wz hSw; (try dsimp only at hSw); go_simp; try with_reducible rfl)
      (try simp only [Act.put]); (try simp only [List.setIfInBounds_toArray]); (try simp only [List.set_cons_succ]); (try simp only [List.set_cons_zero])
      refine wpAnyH_take (i := 16) (oi := { dst := some 35, op := Op.load 31 (Operand.tmp 2), type := 31, pos := "law.go:126", after := #[{ on := 13, ground := Ground.guard }], guard := some (13, true) }) (v := ?vk194) rfl (by kernel_rfl) (by kernel_rfl) (by kernel_rfl) (fun _ _ _ h => h) (Or.inl ⟨by rfl, ?hk194⟩) (B4.up U187 hB4) ?rk194
      case hk194 => (intro wz hSw; (try dsimp only at hSw); go_simp; try with_reducible rfl)
      (try simp only [Act.put]); (try simp only [List.setIfInBounds_toArray]); (try simp only [List.set_cons_succ]); (try simp only [List.set_cons_zero])
      refine wpAnyH_take (i := 18) (oi := { dst := some 37, op := Op.load 31 (Operand.tmp 3), type := 31, pos := "law.go:126", after := #[{ on := 13, ground := Ground.guard }], guard := some (13, true) }) (v := ?vk195) rfl (by kernel_rfl) (by kernel_rfl) (by kernel_rfl) (fun _ _ _ h => h) (Or.inl ⟨by rfl, ?hk195⟩) (B4.up U187 hB4) ?rk195
      case hk195 => (intro wz hSw; (try dsimp only at hSw); go_simp; try with_reducible rfl)
      (try simp only [Act.put]); (try simp only [List.setIfInBounds_toArray]); (try simp only [List.set_cons_succ]); (try simp only [List.set_cons_zero])
      refine wpAnyH_ready (rs := [17]) (by kernel_rfl) (by simp) ?_
      refine AllReadyH.cons (o := { dst := some 36, op := Op.call { callee := Callee.value (Operand.func 29), args := #[Operand.tmp 35], argTypes := #[31] }, type := 31, pos := "law.go:126", after := #[{ on := 16, ground := Ground.data }, { on := 13, ground := Ground.chain }, { on := 13, ground := Ground.guard }], guard := some (13, true) }) rfl (fun K hK => ?_) AllReadyH.nil
      refine wantCall1 ?_ 29 (.tmp 35) #[31] ?_ (.agg #[.float .f64 a, .float .f64 b, .bool p, .bool q]) ?_ ?_ (enter_canonS _ _) ?_
      · rfl
      · rfl
      · rfl
      · rfl
      refine (HA.out _).mono ?_
      rintro o x196 ⟨rfl, b196⟩
      refine ⟨_, rfl, ?_⟩
      have U196 := U187.trans b196
      refine hK.out _ _ (B4.up U196 hB4) (fun _ => ?_)
      clear hK K
      (try simp only [Act.put]); (try simp only [List.setIfInBounds_toArray]); (try simp only [List.set_cons_succ]); (try simp only [List.set_cons_zero])
      refine wpAnyH_ready (rs := [19]) (by kernel_rfl) (by simp) ?_
      refine AllReadyH.cons (o := { dst := some 38, op := Op.call { callee := Callee.value (Operand.func 29), args := #[Operand.tmp 37], argTypes := #[31] }, type := 31, pos := "law.go:126", after := #[{ on := 18, ground := Ground.data }, { on := 17, ground := Ground.chain }, { on := 13, ground := Ground.guard }], guard := some (13, true) }) rfl (fun K hK => ?_) AllReadyH.nil
      refine wantCall1 ?_ 29 (.tmp 37) #[31] ?_ (.agg #[.float .f64 c, .float .f64 d, .bool r, .bool s]) ?_ ?_ (enter_canonS _ _) ?_
      · rfl
      · rfl
      · rfl
      · rfl
      refine (HB.out _).mono ?_
      rintro o x197 ⟨rfl, b197⟩
      refine ⟨_, rfl, ?_⟩
      have U197 := U196.trans b197
      refine hK.out _ _ (B4.up U197 hB4) (fun _ => ?_)
      clear hK K
      (try simp only [Act.put]); (try simp only [List.setIfInBounds_toArray]); (try simp only [List.set_cons_succ]); (try simp only [List.set_cons_zero])
      refine wpAnyH_ready (rs := [20]) (by kernel_rfl) (by simp) ?_
      refine AllReadyH.cons (o := { dst := some 39, op := Op.call { callee := Callee.value (Operand.func 18), args := #[Operand.tmp 36, Operand.tmp 38], argTypes := #[31, 31] }, type := 4, pos := "law.go:126", after := #[{ on := 17, ground := Ground.data }, { on := 19, ground := Ground.data }, { on := 19, ground := Ground.chain }, { on := 13, ground := Ground.guard }], guard := some (13, true) }) rfl (fun K hK => ?_) AllReadyH.nil
      refine wantCall2 ?_ 18 (.tmp 36) (.tmp 38) #[31, 31] ?_ (.agg #[.float .f64 u1, .float .f64 v1, .bool e1, .bool e1]) (.agg #[.float .f64 u2, .float .f64 v2, .bool e2, .bool e2]) ?_ ?_ ?_ (ent_same _ _) ?_
      · rfl
      · rfl
      · rfl
      · rfl
      · rfl
      refine (HSS.out _).mono ?_
      rintro o x198 ⟨rfl, b198⟩
      refine ⟨_, rfl, ?_⟩
      have U198 := U197.trans b198
      refine hK.out _ _ (B4.up U198 hB4) (fun _ => ?_)
      clear hK K
      (try simp only [Act.put]); (try simp only [List.setIfInBounds_toArray]); (try simp only [List.set_cons_succ]); (try simp only [List.set_cons_zero])
      refine wpAnyH_take (i := 21) (oi := { dst := some 40, op := Op.binOp BinOp.eql 4 (Operand.tmp 34) (Operand.tmp 39) 4, type := 4, pos := "law.go:126", after := #[{ on := 15, ground := Ground.data }, { on := 20, ground := Ground.data }, { on := 13, ground := Ground.guard }], guard := some (13, true) }) (v := ?vk199) rfl (by kernel_rfl) (by kernel_rfl) (by kernel_rfl) (fun _ _ _ h => h) (Or.inl ⟨by rfl, ?hk199⟩) (B4.up U198 hB4) ?rk199
      case hk199 => (intro wz hSw; (try dsimp only at hSw); go_simp; try with_reducible rfl)
      (try simp only [Act.put]); (try simp only [List.setIfInBounds_toArray]); (try simp only [List.set_cons_succ]); (try simp only [List.set_cons_zero])
      refine wpAnyH_take (i := 22) (oi := { dst := some 41, op := Op.pick (Operand.tmp 32) (Operand.tmp 40) (Operand.const (Value.bool false)), type := 4, pos := "law.go:126", after := #[{ on := 13, ground := Ground.data }, { on := 21, ground := Ground.data }], guard := none }) (v := ?vk200) rfl (by kernel_rfl) (by kernel_rfl) (by kernel_rfl) (fun _ _ _ h => h) (Or.inl ⟨by rfl, ?hk200⟩) (B4.up U198 hB4) ?rk200
      case hk200 => (intro wz hSw; (try dsimp only at hSw); go_simp; try with_reducible rfl)
      (try simp only [Act.put]); (try simp only [List.setIfInBounds_toArray]); (try simp only [List.set_cons_succ]); (try simp only [List.set_cons_zero])
      refine wpAnyH_ready (rs := [23]) (by kernel_rfl) (by simp) ?_
      refine AllReadyH.cons (o := { dst := some 4, op := Op.assign (Operand.tmp 41), type := 4, pos := "law.go:126", after := #[{ on := 22, ground := Ground.data }, { on := 20, ground := Ground.chain }, { on := 0, ground := Ground.phase }, { on := 1, ground := Ground.phase }, { on := 2, ground := Ground.phase }, { on := 3, ground := Ground.phase }, { on := 4, ground := Ground.phase }, { on := 5, ground := Ground.phase }, { on := 6, ground := Ground.phase }, { on := 7, ground := Ground.phase }, { on := 8, ground := Ground.phase }, { on := 9, ground := Ground.phase }, { on := 10, ground := Ground.phase }, { on := 11, ground := Ground.phase }, { on := 12, ground := Ground.phase }, { on := 13, ground := Ground.phase }, { on := 14, ground := Ground.phase }, { on := 15, ground := Ground.phase }, { on := 16, ground := Ground.phase }, { on := 17, ground := Ground.phase }, { on := 18, ground := Ground.phase }, { on := 19, ground := Ground.phase }, { on := 20, ground := Ground.phase }, { on := 21, ground := Ground.phase }, { on := 22, ground := Ground.phase }], guard := none }) rfl (fun K hK => ?_) AllReadyH.nil
      go_simp
      refine hK.out _ _ (B4.up U198 hB4) (fun _ => ?_)
      clear hK K
      (try simp only [Act.put]); (try simp only [List.setIfInBounds_toArray]); (try simp only [List.set_cons_succ]); (try simp only [List.set_cons_zero])
      refine wpAnyH_done (by kernel_rfl) ?_ _
      refine NoPanic.normal ?_
      go_wp2
      go_ret
      exact ⟨rfl, UB.trans U198⟩
    · clear HR
      refine wp_region_noPanic ?_
      refine wp_region_held_drew (S := B4 w.heap.size a b p q (w.heap.size + 1) c d r s m L1 H1 n L2 H2) (by kernel_rfl) ?_ (fun hHeld => ?_)
      · exact B4.up ((Up.refl _).drew) hB4
      (try simp only [Act.put]); (try simp only [List.setIfInBounds_toArray]); (try simp only [List.set_cons_succ]); (try simp only [List.set_cons_zero])
      clear hHeld
      refine wpAnyH_take (i := 0) (oi := { dst := some 19, op := Op.move (Operand.tmp 7), type := 3, pos := "law.go:126", after := #[], guard := none }) (v := ?vk201) rfl (by kernel_rfl) (by kernel_rfl) (by kernel_rfl) (fun _ _ _ h => h) (Or.inl ⟨by rfl, ?hk201⟩) (B4.up ((Up.refl w8).drew) hB4) ?rk201
      case hk201 => (intro wz hSw; (try dsimp only at hSw); go_simp; try with_reducible rfl)
      (try simp only [Act.put]); (try simp only [List.setIfInBounds_toArray]); (try simp only [List.set_cons_succ]); (try simp only [List.set_cons_zero])
      refine wpAnyH_take (i := 1) (oi := { dst := some 20, op := Op.load 35 (Operand.tmp 5), type := 35, pos := "law.go:126", after := #[], guard := none }) (v := ?vk202) rfl (by kernel_rfl) (by kernel_rfl) (by kernel_rfl) (fun _ _ _ h => h) (Or.inl ⟨by rfl, ?hk202⟩) (B4.up ((Up.refl w8).drew) hB4) ?rk202
      case hk202 => (intro wz hSw; (try dsimp only at hSw); go_simp; try with_reducible rfl)
      (try simp only [Act.put]); (try simp only [List.setIfInBounds_toArray]); (try simp only [List.set_cons_succ]); (try simp only [List.set_cons_zero])
      refine wpAnyH_take (i := 2) (oi := { dst := some 21, op := Op.load 35 (Operand.tmp 6), type := 35, pos := "law.go:126", after := #[], guard := none }) (v := ?vk203) rfl (by kernel_rfl) (by kernel_rfl) (by kernel_rfl) (fun _ _ _ h => h) (Or.inl ⟨by rfl, ?hk203⟩) (B4.up ((Up.refl w8).drew) hB4) ?rk203
      case hk203 => (intro wz hSw; (try dsimp only at hSw); go_simp; try with_reducible rfl)
      (try simp only [Act.put]); (try simp only [List.setIfInBounds_toArray]); (try simp only [List.set_cons_succ]); (try simp only [List.set_cons_zero])
      refine wpAnyH_ready (rs := [3]) (by kernel_rfl) (by simp) ?_
      refine AllReadyH.cons (o := { dst := some 22, op := Op.call { callee := Callee.value (Operand.func 28), args := #[Operand.tmp 20, Operand.tmp 21], argTypes := #[35, 35] }, type := 3, pos := "law.go:126", after := #[{ on := 1, ground := Ground.data }, { on := 2, ground := Ground.data }], guard := none }) rfl (fun K hK => ?_) AllReadyH.nil
      refine wantCall2 ?_ 28 (.tmp 20) (.tmp 21) #[35, 35] ?_ (.agg #[.int .u64 (L1 : Nat), .int .u64 (H1 : Nat)]) (.agg #[.int .u64 (L2 : Nat), .int .u64 (H2 : Nat)]) ?_ ?_ ?_ (ent_rcmp _ _) ?_
      · rfl
      · rfl
      · rfl
      · rfl
      · rfl
      refine (HRC.out _).mono ?_
      rintro o x204 ⟨rfl, b204⟩
      refine ⟨_, rfl, ?_⟩
      have U204 := ((Up.refl w8).drew).trans b204
      refine hK.out _ _ (B4.up U204 hB4) (fun _ => ?_)
      clear hK K
      (try simp only [Act.put]); (try simp only [List.setIfInBounds_toArray]); (try simp only [List.set_cons_succ]); (try simp only [List.set_cons_zero])
      refine wpAnyH_take (i := 4) (oi := { dst := some 23, op := Op.binOp BinOp.eql 3 (Operand.tmp 19) (Operand.tmp 22) 3, type := 4, pos := "law.go:126", after := #[{ on := 0, ground := Ground.data }, { on := 3, ground := Ground.data }], guard := none }) (v := ?vk205) rfl (by kernel_rfl) (by kernel_rfl) (by kernel_rfl) (fun _ _ _ h => h) (Or.inl ⟨by rfl, ?hk205⟩) (B4.up U204 hB4) ?rk205
      case hk205 => (intro wz hSw; (try dsimp only at hSw); go_simp; try with_reducible rfl)
      (try simp only [Act.put]); (try simp only [List.setIfInBounds_toArray]); (try simp only [List.set_cons_succ]); (try simp only [List.set_cons_zero])
      refine wpAnyH_take (i := 5) (oi := { dst := some 24, op := Op.move (Operand.tmp 23), type := 4, pos := "law.go:126", after := #[{ on := 4, ground := Ground.data }, { on := 3, ground := Ground.chain }], guard := none }) (v := ?vk206) rfl (by kernel_rfl) (by kernel_rfl) (by kernel_rfl) (fun _ _ _ h => h) (Or.inl ⟨by rfl, ?hk206⟩) (B4.up U204 hB4) ?rk206
      case hk206 => (intro wz hSw; (try dsimp only at hSw); go_simp; try with_reducible rfl)
      (try simp only [Act.put]); (try simp only [List.setIfInBounds_toArray]); (try simp only [List.set_cons_succ]); (try simp only [List.set_cons_zero])
      refine wpAnyH_take (i := 6) (oi := { dst := some 25, op := Op.move (Operand.tmp 7), type := 3, pos := "law.go:126", after := #[{ on := 5, ground := Ground.guard }], guard := some (5, true) }) (v := ?vk207) rfl (by kernel_rfl) (by kernel_rfl) (by kernel_rfl) (fun _ _ _ h => h) (Or.inl ⟨by rfl, ?hk207⟩) (B4.up U204 hB4) ?rk207
      case hk207 => (intro wz hSw; (try dsimp only at hSw); go_simp; try with_reducible rfl)
      (try simp only [Act.put]); (try simp only [List.setIfInBounds_toArray]); (try simp only [List.set_cons_succ]); (try simp only [List.set_cons_zero])
      refine wpAnyH_take (i := 7) (oi := { dst := some 26, op := Op.load 31 (Operand.tmp 3), type := 31, pos := "law.go:126", after := #[{ on := 5, ground := Ground.guard }], guard := some (5, true) }) (v := ?vk208) rfl (by kernel_rfl) (by kernel_rfl) (by kernel_rfl) (fun _ _ _ h => h) (Or.inl ⟨by rfl, ?hk208⟩) (B4.up U204 hB4) ?rk208
      case hk208 => (intro wz hSw; (try dsimp only at hSw); go_simp; try with_reducible rfl)
      (try simp only [Act.put]); (try simp only [List.setIfInBounds_toArray]); (try simp only [List.set_cons_succ]); (try simp only [List.set_cons_zero])
      refine wpAnyH_take (i := 8) (oi := { dst := some 27, op := Op.load 31 (Operand.tmp 2), type := 31, pos := "law.go:126", after := #[{ on := 5, ground := Ground.guard }], guard := some (5, true) }) (v := ?vk209) rfl (by kernel_rfl) (by kernel_rfl) (by kernel_rfl) (fun _ _ _ h => h) (Or.inl ⟨by rfl, ?hk209⟩) (B4.up U204 hB4) ?rk209
      case hk209 => (intro wz hSw; (try dsimp only at hSw); go_simp; try with_reducible rfl)
      (try simp only [Act.put]); (try simp only [List.setIfInBounds_toArray]); (try simp only [List.set_cons_succ]); (try simp only [List.set_cons_zero])
      refine wpAnyH_ready (rs := [9]) (by kernel_rfl) (by simp) ?_
      refine AllReadyH.cons (o := { dst := some 28, op := Op.call { callee := Callee.value (Operand.func 27), args := #[Operand.tmp 26, Operand.tmp 27], argTypes := #[31, 31] }, type := 3, pos := "law.go:126", after := #[{ on := 7, ground := Ground.data }, { on := 8, ground := Ground.data }, { on := 5, ground := Ground.chain }, { on := 5, ground := Ground.guard }], guard := some (5, true) }) rfl (fun K hK => ?_) AllReadyH.nil
      refine wantCall2 ?_ 27 (.tmp 26) (.tmp 27) #[31, 31] ?_ (.agg #[.float .f64 c, .float .f64 d, .bool r, .bool s]) (.agg #[.float .f64 a, .float .f64 b, .bool p, .bool q]) ?_ ?_ ?_ (ent_cmp _ _) ?_
      · rfl
      · rfl
      · rfl
      · rfl
      · rfl
      refine (HCba.out _).mono ?_
      rintro o x210 ⟨rfl, b210⟩
      refine ⟨_, rfl, ?_⟩
      have U210 := U204.trans b210
      refine hK.out _ _ (B4.up U210 hB4) (fun _ => ?_)
      clear hK K
      (try simp only [Act.put]); (try simp only [List.setIfInBounds_toArray]); (try simp only [List.set_cons_succ]); (try simp only [List.set_cons_zero])
      refine wpAnyH_take (i := 10) (oi := { dst := some 29, op := Op.unOp UnOp.neg 3 (Operand.tmp 28), type := 3, pos := "law.go:126", after := #[{ on := 9, ground := Ground.data }, { on := 5, ground := Ground.guard }], guard := some (5, true) }) (v := ?vk211) rfl (by kernel_rfl) (by kernel_rfl) (by kernel_rfl) (fun _ _ _ h => h) (Or.inl ⟨by rfl, ?hk211⟩) (B4.up U210 hB4) ?rk211
      case hk211 => (intro wz hSw; (try dsimp only at hSw); go_simp; try with_reducible rfl)
      (try simp only [Act.put]); (try simp only [List.setIfInBounds_toArray]); (try simp only [List.set_cons_succ]); (try simp only [List.set_cons_zero])
      refine wpAnyH_take (i := 11) (oi := { dst := some 30, op := Op.binOp BinOp.eql 3 (Operand.tmp 25) (Operand.tmp 29) 3, type := 4, pos := "law.go:126", after := #[{ on := 6, ground := Ground.data }, { on := 10, ground := Ground.data }, { on := 5, ground := Ground.guard }], guard := some (5, true) }) (v := ?vk212) rfl (by kernel_rfl) (by kernel_rfl) (by kernel_rfl) (fun _ _ _ h => h) (Or.inl ⟨by rfl, ?hk212⟩) (B4.up U210 hB4) ?rk212
      case hk212 => (intro wz hSw; (try dsimp only at hSw); go_simp; try with_reducible rfl)
      (try simp only [Act.put]); (try simp only [List.setIfInBounds_toArray]); (try simp only [List.set_cons_succ]); (try simp only [List.set_cons_zero])
      refine wpAnyH_take (i := 12) (oi := { dst := some 31, op := Op.pick (Operand.tmp 24) (Operand.tmp 30) (Operand.const (Value.bool false)), type := 4, pos := "law.go:126", after := #[{ on := 5, ground := Ground.data }, { on := 11, ground := Ground.data }], guard := none }) (v := ?vk213) rfl (by kernel_rfl) (by kernel_rfl) (by kernel_rfl) (fun _ _ _ h => h) (Or.inl ⟨by rfl, ?hk213⟩) (B4.up U210 hB4) ?rk213
      case hk213 => (intro wz hSw; (try dsimp only at hSw); go_simp; try with_reducible rfl)
      (try simp only [Act.put]); (try simp only [List.setIfInBounds_toArray]); (try simp only [List.set_cons_succ]); (try simp only [List.set_cons_zero])
      refine wpAnyH_take (i := 13) (oi := { dst := some 32, op := Op.move (Operand.tmp 31), type := 4, pos := "law.go:126", after := #[{ on := 12, ground := Ground.data }, { on := 9, ground := Ground.chain }], guard := none }) (v := ?vk214) rfl (by kernel_rfl) (by kernel_rfl) (by kernel_rfl) (fun _ _ _ h => h) (Or.inl ⟨by rfl, ?hk214⟩) (B4.up U210 hB4) ?rk214
      case hk214 => (intro wz hSw; (try dsimp only at hSw); go_simp; try with_reducible rfl)
      (try simp only [Act.put]); (try simp only [List.setIfInBounds_toArray]); (try simp only [List.set_cons_succ]); (try simp only [List.set_cons_zero])
      refine wpAnyH_take (i := 14) (oi := { dst := some 33, op := Op.move (Operand.tmp 7), type := 3, pos := "law.go:126", after := #[{ on := 13, ground := Ground.guard }], guard := some (13, true) }) (v := ?vk215) rfl (by kernel_rfl) (by kernel_rfl) (by kernel_rfl) (fun _ _ _ h => h) (Or.inl ⟨by rfl, ?hk215⟩) (B4.up U210 hB4) ?rk215
      case hk215 => (intro wz hSw; (try dsimp only at hSw); go_simp; try with_reducible rfl)
      (try simp only [Act.put]); (try simp only [List.setIfInBounds_toArray]); (try simp only [List.set_cons_succ]); (try simp only [List.set_cons_zero])
      refine wpAnyH_take (i := 15) (oi := { dst := some 34, op := Op.binOp BinOp.eql 3 (Operand.tmp 33) (Operand.const (Value.int IntKind.i64 0)) 3, type := 4, pos := "law.go:126", after := #[{ on := 14, ground := Ground.data }, { on := 13, ground := Ground.guard }], guard := some (13, true) }) (v := ?vk216) rfl (by kernel_rfl) (by kernel_rfl) (by kernel_rfl) (fun _ _ _ h => h) (Or.inl ⟨by rfl, ?hk216⟩) (B4.up U210 hB4) ?rk216
      case hk216 => (intro wz hSw; (try dsimp only at hSw); go_simp; try with_reducible rfl)
      (try simp only [Act.put]); (try simp only [List.setIfInBounds_toArray]); (try simp only [List.set_cons_succ]); (try simp only [List.set_cons_zero])
      refine wpAnyH_take (i := 16) (oi := { dst := some 35, op := Op.load 31 (Operand.tmp 2), type := 31, pos := "law.go:126", after := #[{ on := 13, ground := Ground.guard }], guard := some (13, true) }) (v := ?vk217) rfl (by kernel_rfl) (by kernel_rfl) (by kernel_rfl) (fun _ _ _ h => h) (Or.inl ⟨by rfl, ?hk217⟩) (B4.up U210 hB4) ?rk217
      case hk217 => (intro wz hSw; (try dsimp only at hSw); go_simp; try with_reducible rfl)
      (try simp only [Act.put]); (try simp only [List.setIfInBounds_toArray]); (try simp only [List.set_cons_succ]); (try simp only [List.set_cons_zero])
      refine wpAnyH_take (i := 18) (oi := { dst := some 37, op := Op.load 31 (Operand.tmp 3), type := 31, pos := "law.go:126", after := #[{ on := 13, ground := Ground.guard }], guard := some (13, true) }) (v := ?vk218) rfl (by kernel_rfl) (by kernel_rfl) (by kernel_rfl) (fun _ _ _ h => h) (Or.inl ⟨by rfl, ?hk218⟩) (B4.up U210 hB4) ?rk218
      case hk218 => (intro wz hSw; (try dsimp only at hSw); go_simp; try with_reducible rfl)
      (try simp only [Act.put]); (try simp only [List.setIfInBounds_toArray]); (try simp only [List.set_cons_succ]); (try simp only [List.set_cons_zero])
      refine wpAnyH_ready (rs := [17]) (by kernel_rfl) (by simp) ?_
      refine AllReadyH.cons (o := { dst := some 36, op := Op.call { callee := Callee.value (Operand.func 29), args := #[Operand.tmp 35], argTypes := #[31] }, type := 31, pos := "law.go:126", after := #[{ on := 16, ground := Ground.data }, { on := 13, ground := Ground.chain }, { on := 13, ground := Ground.guard }], guard := some (13, true) }) rfl (fun K hK => ?_) AllReadyH.nil
      refine wantCall1 ?_ 29 (.tmp 35) #[31] ?_ (.agg #[.float .f64 a, .float .f64 b, .bool p, .bool q]) ?_ ?_ (enter_canonS _ _) ?_
      · rfl
      · rfl
      · rfl
      · rfl
      refine (HA.out _).mono ?_
      rintro o x219 ⟨rfl, b219⟩
      refine ⟨_, rfl, ?_⟩
      have U219 := U210.trans b219
      refine hK.out _ _ (B4.up U219 hB4) (fun _ => ?_)
      clear hK K
      (try simp only [Act.put]); (try simp only [List.setIfInBounds_toArray]); (try simp only [List.set_cons_succ]); (try simp only [List.set_cons_zero])
      refine wpAnyH_ready (rs := [19]) (by kernel_rfl) (by simp) ?_
      refine AllReadyH.cons (o := { dst := some 38, op := Op.call { callee := Callee.value (Operand.func 29), args := #[Operand.tmp 37], argTypes := #[31] }, type := 31, pos := "law.go:126", after := #[{ on := 18, ground := Ground.data }, { on := 17, ground := Ground.chain }, { on := 13, ground := Ground.guard }], guard := some (13, true) }) rfl (fun K hK => ?_) AllReadyH.nil
      refine wantCall1 ?_ 29 (.tmp 37) #[31] ?_ (.agg #[.float .f64 c, .float .f64 d, .bool r, .bool s]) ?_ ?_ (enter_canonS _ _) ?_
      · rfl
      · rfl
      · rfl
      · rfl
      refine (HB.out _).mono ?_
      rintro o x220 ⟨rfl, b220⟩
      refine ⟨_, rfl, ?_⟩
      have U220 := U219.trans b220
      refine hK.out _ _ (B4.up U220 hB4) (fun _ => ?_)
      clear hK K
      (try simp only [Act.put]); (try simp only [List.setIfInBounds_toArray]); (try simp only [List.set_cons_succ]); (try simp only [List.set_cons_zero])
      refine wpAnyH_ready (rs := [20]) (by kernel_rfl) (by simp) ?_
      refine AllReadyH.cons (o := { dst := some 39, op := Op.call { callee := Callee.value (Operand.func 18), args := #[Operand.tmp 36, Operand.tmp 38], argTypes := #[31, 31] }, type := 4, pos := "law.go:126", after := #[{ on := 17, ground := Ground.data }, { on := 19, ground := Ground.data }, { on := 19, ground := Ground.chain }, { on := 13, ground := Ground.guard }], guard := some (13, true) }) rfl (fun K hK => ?_) AllReadyH.nil
      refine wantCall2 ?_ 18 (.tmp 36) (.tmp 38) #[31, 31] ?_ (.agg #[.float .f64 u1, .float .f64 v1, .bool e1, .bool e1]) (.agg #[.float .f64 u2, .float .f64 v2, .bool e2, .bool e2]) ?_ ?_ ?_ (ent_same _ _) ?_
      · rfl
      · rfl
      · rfl
      · rfl
      · rfl
      refine (HSS.out _).mono ?_
      rintro o x221 ⟨rfl, b221⟩
      refine ⟨_, rfl, ?_⟩
      have U221 := U220.trans b221
      refine hK.out _ _ (B4.up U221 hB4) (fun _ => ?_)
      clear hK K
      (try simp only [Act.put]); (try simp only [List.setIfInBounds_toArray]); (try simp only [List.set_cons_succ]); (try simp only [List.set_cons_zero])
      refine wpAnyH_take (i := 21) (oi := { dst := some 40, op := Op.binOp BinOp.eql 4 (Operand.tmp 34) (Operand.tmp 39) 4, type := 4, pos := "law.go:126", after := #[{ on := 15, ground := Ground.data }, { on := 20, ground := Ground.data }, { on := 13, ground := Ground.guard }], guard := some (13, true) }) (v := ?vk222) rfl (by kernel_rfl) (by kernel_rfl) (by kernel_rfl) (fun _ _ _ h => h) (Or.inl ⟨by rfl, ?hk222⟩) (B4.up U221 hB4) ?rk222
      case hk222 => (intro wz hSw; (try dsimp only at hSw); go_simp; try with_reducible rfl)
      (try simp only [Act.put]); (try simp only [List.setIfInBounds_toArray]); (try simp only [List.set_cons_succ]); (try simp only [List.set_cons_zero])
      refine wpAnyH_take (i := 22) (oi := { dst := some 41, op := Op.pick (Operand.tmp 32) (Operand.tmp 40) (Operand.const (Value.bool false)), type := 4, pos := "law.go:126", after := #[{ on := 13, ground := Ground.data }, { on := 21, ground := Ground.data }], guard := none }) (v := ?vk223) rfl (by kernel_rfl) (by kernel_rfl) (by kernel_rfl) (fun _ _ _ h => h) (Or.inl ⟨by rfl, ?hk223⟩) (B4.up U221 hB4) ?rk223
      case hk223 => (intro wz hSw; (try dsimp only at hSw); go_simp; try with_reducible rfl)
      (try simp only [Act.put]); (try simp only [List.setIfInBounds_toArray]); (try simp only [List.set_cons_succ]); (try simp only [List.set_cons_zero])
      refine wpAnyH_ready (rs := [23]) (by kernel_rfl) (by simp) ?_
      refine AllReadyH.cons (o := { dst := some 4, op := Op.assign (Operand.tmp 41), type := 4, pos := "law.go:126", after := #[{ on := 22, ground := Ground.data }, { on := 20, ground := Ground.chain }, { on := 0, ground := Ground.phase }, { on := 1, ground := Ground.phase }, { on := 2, ground := Ground.phase }, { on := 3, ground := Ground.phase }, { on := 4, ground := Ground.phase }, { on := 5, ground := Ground.phase }, { on := 6, ground := Ground.phase }, { on := 7, ground := Ground.phase }, { on := 8, ground := Ground.phase }, { on := 9, ground := Ground.phase }, { on := 10, ground := Ground.phase }, { on := 11, ground := Ground.phase }, { on := 12, ground := Ground.phase }, { on := 13, ground := Ground.phase }, { on := 14, ground := Ground.phase }, { on := 15, ground := Ground.phase }, { on := 16, ground := Ground.phase }, { on := 17, ground := Ground.phase }, { on := 18, ground := Ground.phase }, { on := 19, ground := Ground.phase }, { on := 20, ground := Ground.phase }, { on := 21, ground := Ground.phase }, { on := 22, ground := Ground.phase }], guard := none }) rfl (fun K hK => ?_) AllReadyH.nil
      go_simp
      refine hK.out _ _ (B4.up U221 hB4) (fun _ => ?_)
      clear hK K
      (try simp only [Act.put]); (try simp only [List.setIfInBounds_toArray]); (try simp only [List.set_cons_succ]); (try simp only [List.set_cons_zero])
      refine wpAnyH_done (by kernel_rfl) ?_ _
      refine NoPanic.normal ?_
      go_wp2
      go_ret
      exact ⟨rfl, UB.trans U221⟩
    · clear HR
      refine wp_region_noPanic ?_
      refine wp_region_held_drew (S := B4 w.heap.size a b p q (w.heap.size + 1) c d r s m L1 H1 n L2 H2) (by kernel_rfl) ?_ (fun hHeld => ?_)
      · exact B4.up ((Up.refl _).drew) hB4
      (try simp only [Act.put]); (try simp only [List.setIfInBounds_toArray]); (try simp only [List.set_cons_succ]); (try simp only [List.set_cons_zero])
      clear hHeld
      refine wpAnyH_take (i := 0) (oi := { dst := some 19, op := Op.move (Operand.tmp 7), type := 3, pos := "law.go:126", after := #[], guard := none }) (v := ?vk224) rfl (by kernel_rfl) (by kernel_rfl) (by kernel_rfl) (fun _ _ _ h => h) (Or.inl ⟨by rfl, ?hk224⟩) (B4.up ((Up.refl w8).drew) hB4) ?rk224
      case hk224 => (intro wz hSw; (try dsimp only at hSw); go_simp; try with_reducible rfl)
      (try simp only [Act.put]); (try simp only [List.setIfInBounds_toArray]); (try simp only [List.set_cons_succ]); (try simp only [List.set_cons_zero])
      refine wpAnyH_take (i := 1) (oi := { dst := some 20, op := Op.load 35 (Operand.tmp 5), type := 35, pos := "law.go:126", after := #[], guard := none }) (v := ?vk225) rfl (by kernel_rfl) (by kernel_rfl) (by kernel_rfl) (fun _ _ _ h => h) (Or.inl ⟨by rfl, ?hk225⟩) (B4.up ((Up.refl w8).drew) hB4) ?rk225
      case hk225 => (intro wz hSw; (try dsimp only at hSw); go_simp; try with_reducible rfl)
      (try simp only [Act.put]); (try simp only [List.setIfInBounds_toArray]); (try simp only [List.set_cons_succ]); (try simp only [List.set_cons_zero])
      refine wpAnyH_take (i := 2) (oi := { dst := some 21, op := Op.load 35 (Operand.tmp 6), type := 35, pos := "law.go:126", after := #[], guard := none }) (v := ?vk226) rfl (by kernel_rfl) (by kernel_rfl) (by kernel_rfl) (fun _ _ _ h => h) (Or.inl ⟨by rfl, ?hk226⟩) (B4.up ((Up.refl w8).drew) hB4) ?rk226
      case hk226 => (intro wz hSw; (try dsimp only at hSw); go_simp; try with_reducible rfl)
      (try simp only [Act.put]); (try simp only [List.setIfInBounds_toArray]); (try simp only [List.set_cons_succ]); (try simp only [List.set_cons_zero])
      refine wpAnyH_ready (rs := [3]) (by kernel_rfl) (by simp) ?_
      refine AllReadyH.cons (o := { dst := some 22, op := Op.call { callee := Callee.value (Operand.func 28), args := #[Operand.tmp 20, Operand.tmp 21], argTypes := #[35, 35] }, type := 3, pos := "law.go:126", after := #[{ on := 1, ground := Ground.data }, { on := 2, ground := Ground.data }], guard := none }) rfl (fun K hK => ?_) AllReadyH.nil
      refine wantCall2 ?_ 28 (.tmp 20) (.tmp 21) #[35, 35] ?_ (.agg #[.int .u64 (L1 : Nat), .int .u64 (H1 : Nat)]) (.agg #[.int .u64 (L2 : Nat), .int .u64 (H2 : Nat)]) ?_ ?_ ?_ (ent_rcmp _ _) ?_
      · rfl
      · rfl
      · rfl
      · rfl
      · rfl
      refine (HRC.out _).mono ?_
      rintro o x227 ⟨rfl, b227⟩
      refine ⟨_, rfl, ?_⟩
      have U227 := ((Up.refl w8).drew).trans b227
      refine hK.out _ _ (B4.up U227 hB4) (fun _ => ?_)
      clear hK K
      (try simp only [Act.put]); (try simp only [List.setIfInBounds_toArray]); (try simp only [List.set_cons_succ]); (try simp only [List.set_cons_zero])
      refine wpAnyH_take (i := 4) (oi := { dst := some 23, op := Op.binOp BinOp.eql 3 (Operand.tmp 19) (Operand.tmp 22) 3, type := 4, pos := "law.go:126", after := #[{ on := 0, ground := Ground.data }, { on := 3, ground := Ground.data }], guard := none }) (v := ?vk228) rfl (by kernel_rfl) (by kernel_rfl) (by kernel_rfl) (fun _ _ _ h => h) (Or.inl ⟨by rfl, ?hk228⟩) (B4.up U227 hB4) ?rk228
      case hk228 => (intro wz hSw; (try dsimp only at hSw); go_simp; try with_reducible rfl)
      (try simp only [Act.put]); (try simp only [List.setIfInBounds_toArray]); (try simp only [List.set_cons_succ]); (try simp only [List.set_cons_zero])
      refine wpAnyH_take (i := 5) (oi := { dst := some 24, op := Op.move (Operand.tmp 23), type := 4, pos := "law.go:126", after := #[{ on := 4, ground := Ground.data }, { on := 3, ground := Ground.chain }], guard := none }) (v := ?vk229) rfl (by kernel_rfl) (by kernel_rfl) (by kernel_rfl) (fun _ _ _ h => h) (Or.inl ⟨by rfl, ?hk229⟩) (B4.up U227 hB4) ?rk229
      case hk229 => (intro wz hSw; (try dsimp only at hSw); go_simp; try with_reducible rfl)
      (try simp only [Act.put]); (try simp only [List.setIfInBounds_toArray]); (try simp only [List.set_cons_succ]); (try simp only [List.set_cons_zero])
      refine wpAnyH_take (i := 6) (oi := { dst := some 25, op := Op.move (Operand.tmp 7), type := 3, pos := "law.go:126", after := #[{ on := 5, ground := Ground.guard }], guard := some (5, true) }) (v := ?vk230) rfl (by kernel_rfl) (by kernel_rfl) (by kernel_rfl) (fun _ _ _ h => h) (Or.inl ⟨by rfl, ?hk230⟩) (B4.up U227 hB4) ?rk230
      case hk230 => (intro wz hSw; (try dsimp only at hSw); go_simp; try with_reducible rfl)
      (try simp only [Act.put]); (try simp only [List.setIfInBounds_toArray]); (try simp only [List.set_cons_succ]); (try simp only [List.set_cons_zero])
      refine wpAnyH_take (i := 7) (oi := { dst := some 26, op := Op.load 31 (Operand.tmp 3), type := 31, pos := "law.go:126", after := #[{ on := 5, ground := Ground.guard }], guard := some (5, true) }) (v := ?vk231) rfl (by kernel_rfl) (by kernel_rfl) (by kernel_rfl) (fun _ _ _ h => h) (Or.inl ⟨by rfl, ?hk231⟩) (B4.up U227 hB4) ?rk231
      case hk231 => (intro wz hSw; (try dsimp only at hSw); go_simp; try with_reducible rfl)
      (try simp only [Act.put]); (try simp only [List.setIfInBounds_toArray]); (try simp only [List.set_cons_succ]); (try simp only [List.set_cons_zero])
      refine wpAnyH_take (i := 8) (oi := { dst := some 27, op := Op.load 31 (Operand.tmp 2), type := 31, pos := "law.go:126", after := #[{ on := 5, ground := Ground.guard }], guard := some (5, true) }) (v := ?vk232) rfl (by kernel_rfl) (by kernel_rfl) (by kernel_rfl) (fun _ _ _ h => h) (Or.inl ⟨by rfl, ?hk232⟩) (B4.up U227 hB4) ?rk232
      case hk232 => (intro wz hSw; (try dsimp only at hSw); go_simp; try with_reducible rfl)
      (try simp only [Act.put]); (try simp only [List.setIfInBounds_toArray]); (try simp only [List.set_cons_succ]); (try simp only [List.set_cons_zero])
      refine wpAnyH_ready (rs := [9]) (by kernel_rfl) (by simp) ?_
      refine AllReadyH.cons (o := { dst := some 28, op := Op.call { callee := Callee.value (Operand.func 27), args := #[Operand.tmp 26, Operand.tmp 27], argTypes := #[31, 31] }, type := 3, pos := "law.go:126", after := #[{ on := 7, ground := Ground.data }, { on := 8, ground := Ground.data }, { on := 5, ground := Ground.chain }, { on := 5, ground := Ground.guard }], guard := some (5, true) }) rfl (fun K hK => ?_) AllReadyH.nil
      refine wantCall2 ?_ 27 (.tmp 26) (.tmp 27) #[31, 31] ?_ (.agg #[.float .f64 c, .float .f64 d, .bool r, .bool s]) (.agg #[.float .f64 a, .float .f64 b, .bool p, .bool q]) ?_ ?_ ?_ (ent_cmp _ _) ?_
      · rfl
      · rfl
      · rfl
      · rfl
      · rfl
      refine (HCba.out _).mono ?_
      rintro o x233 ⟨rfl, b233⟩
      refine ⟨_, rfl, ?_⟩
      have U233 := U227.trans b233
      refine hK.out _ _ (B4.up U233 hB4) (fun _ => ?_)
      clear hK K
      (try simp only [Act.put]); (try simp only [List.setIfInBounds_toArray]); (try simp only [List.set_cons_succ]); (try simp only [List.set_cons_zero])
      refine wpAnyH_take (i := 10) (oi := { dst := some 29, op := Op.unOp UnOp.neg 3 (Operand.tmp 28), type := 3, pos := "law.go:126", after := #[{ on := 9, ground := Ground.data }, { on := 5, ground := Ground.guard }], guard := some (5, true) }) (v := ?vk234) rfl (by kernel_rfl) (by kernel_rfl) (by kernel_rfl) (fun _ _ _ h => h) (Or.inl ⟨by rfl, ?hk234⟩) (B4.up U233 hB4) ?rk234
      case hk234 => (intro wz hSw; (try dsimp only at hSw); go_simp; try with_reducible rfl)
      (try simp only [Act.put]); (try simp only [List.setIfInBounds_toArray]); (try simp only [List.set_cons_succ]); (try simp only [List.set_cons_zero])
      refine wpAnyH_take (i := 11) (oi := { dst := some 30, op := Op.binOp BinOp.eql 3 (Operand.tmp 25) (Operand.tmp 29) 3, type := 4, pos := "law.go:126", after := #[{ on := 6, ground := Ground.data }, { on := 10, ground := Ground.data }, { on := 5, ground := Ground.guard }], guard := some (5, true) }) (v := ?vk235) rfl (by kernel_rfl) (by kernel_rfl) (by kernel_rfl) (fun _ _ _ h => h) (Or.inl ⟨by rfl, ?hk235⟩) (B4.up U233 hB4) ?rk235
      case hk235 => (intro wz hSw; (try dsimp only at hSw); go_simp; try with_reducible rfl)
      (try simp only [Act.put]); (try simp only [List.setIfInBounds_toArray]); (try simp only [List.set_cons_succ]); (try simp only [List.set_cons_zero])
      refine wpAnyH_take (i := 12) (oi := { dst := some 31, op := Op.pick (Operand.tmp 24) (Operand.tmp 30) (Operand.const (Value.bool false)), type := 4, pos := "law.go:126", after := #[{ on := 5, ground := Ground.data }, { on := 11, ground := Ground.data }], guard := none }) (v := ?vk236) rfl (by kernel_rfl) (by kernel_rfl) (by kernel_rfl) (fun _ _ _ h => h) (Or.inl ⟨by rfl, ?hk236⟩) (B4.up U233 hB4) ?rk236
      case hk236 => (intro wz hSw; (try dsimp only at hSw); go_simp; try with_reducible rfl)
      (try simp only [Act.put]); (try simp only [List.setIfInBounds_toArray]); (try simp only [List.set_cons_succ]); (try simp only [List.set_cons_zero])
      refine wpAnyH_take (i := 13) (oi := { dst := some 32, op := Op.move (Operand.tmp 31), type := 4, pos := "law.go:126", after := #[{ on := 12, ground := Ground.data }, { on := 9, ground := Ground.chain }], guard := none }) (v := ?vk237) rfl (by kernel_rfl) (by kernel_rfl) (by kernel_rfl) (fun _ _ _ h => h) (Or.inl ⟨by rfl, ?hk237⟩) (B4.up U233 hB4) ?rk237
      case hk237 => (intro wz hSw; (try dsimp only at hSw); go_simp; try with_reducible rfl)
      (try simp only [Act.put]); (try simp only [List.setIfInBounds_toArray]); (try simp only [List.set_cons_succ]); (try simp only [List.set_cons_zero])
      refine wpAnyH_take (i := 14) (oi := { dst := some 33, op := Op.move (Operand.tmp 7), type := 3, pos := "law.go:126", after := #[{ on := 13, ground := Ground.guard }], guard := some (13, true) }) (v := ?vk238) rfl (by kernel_rfl) (by kernel_rfl) (by kernel_rfl) (fun _ _ _ h => h) (Or.inl ⟨by rfl, ?hk238⟩) (B4.up U233 hB4) ?rk238
      case hk238 => (intro wz hSw; (try dsimp only at hSw); go_simp; try with_reducible rfl)
      (try simp only [Act.put]); (try simp only [List.setIfInBounds_toArray]); (try simp only [List.set_cons_succ]); (try simp only [List.set_cons_zero])
      refine wpAnyH_take (i := 15) (oi := { dst := some 34, op := Op.binOp BinOp.eql 3 (Operand.tmp 33) (Operand.const (Value.int IntKind.i64 0)) 3, type := 4, pos := "law.go:126", after := #[{ on := 14, ground := Ground.data }, { on := 13, ground := Ground.guard }], guard := some (13, true) }) (v := ?vk239) rfl (by kernel_rfl) (by kernel_rfl) (by kernel_rfl) (fun _ _ _ h => h) (Or.inl ⟨by rfl, ?hk239⟩) (B4.up U233 hB4) ?rk239
      case hk239 => (intro wz hSw; (try dsimp only at hSw); go_simp; try with_reducible rfl)
      (try simp only [Act.put]); (try simp only [List.setIfInBounds_toArray]); (try simp only [List.set_cons_succ]); (try simp only [List.set_cons_zero])
      refine wpAnyH_take (i := 16) (oi := { dst := some 35, op := Op.load 31 (Operand.tmp 2), type := 31, pos := "law.go:126", after := #[{ on := 13, ground := Ground.guard }], guard := some (13, true) }) (v := ?vk240) rfl (by kernel_rfl) (by kernel_rfl) (by kernel_rfl) (fun _ _ _ h => h) (Or.inl ⟨by rfl, ?hk240⟩) (B4.up U233 hB4) ?rk240
      case hk240 => (intro wz hSw; (try dsimp only at hSw); go_simp; try with_reducible rfl)
      (try simp only [Act.put]); (try simp only [List.setIfInBounds_toArray]); (try simp only [List.set_cons_succ]); (try simp only [List.set_cons_zero])
      refine wpAnyH_take (i := 18) (oi := { dst := some 37, op := Op.load 31 (Operand.tmp 3), type := 31, pos := "law.go:126", after := #[{ on := 13, ground := Ground.guard }], guard := some (13, true) }) (v := ?vk241) rfl (by kernel_rfl) (by kernel_rfl) (by kernel_rfl) (fun _ _ _ h => h) (Or.inl ⟨by rfl, ?hk241⟩) (B4.up U233 hB4) ?rk241
      case hk241 => (intro wz hSw; (try dsimp only at hSw); go_simp; try with_reducible rfl)
      (try simp only [Act.put]); (try simp only [List.setIfInBounds_toArray]); (try simp only [List.set_cons_succ]); (try simp only [List.set_cons_zero])
      refine wpAnyH_ready (rs := [17]) (by kernel_rfl) (by simp) ?_
      refine AllReadyH.cons (o := { dst := some 36, op := Op.call { callee := Callee.value (Operand.func 29), args := #[Operand.tmp 35], argTypes := #[31] }, type := 31, pos := "law.go:126", after := #[{ on := 16, ground := Ground.data }, { on := 13, ground := Ground.chain }, { on := 13, ground := Ground.guard }], guard := some (13, true) }) rfl (fun K hK => ?_) AllReadyH.nil
      refine wantCall1 ?_ 29 (.tmp 35) #[31] ?_ (.agg #[.float .f64 a, .float .f64 b, .bool p, .bool q]) ?_ ?_ (enter_canonS _ _) ?_
      · rfl
      · rfl
      · rfl
      · rfl
      refine (HA.out _).mono ?_
      rintro o x242 ⟨rfl, b242⟩
      refine ⟨_, rfl, ?_⟩
      have U242 := U233.trans b242
      refine hK.out _ _ (B4.up U242 hB4) (fun _ => ?_)
      clear hK K
      (try simp only [Act.put]); (try simp only [List.setIfInBounds_toArray]); (try simp only [List.set_cons_succ]); (try simp only [List.set_cons_zero])
      refine wpAnyH_ready (rs := [19]) (by kernel_rfl) (by simp) ?_
      refine AllReadyH.cons (o := { dst := some 38, op := Op.call { callee := Callee.value (Operand.func 29), args := #[Operand.tmp 37], argTypes := #[31] }, type := 31, pos := "law.go:126", after := #[{ on := 18, ground := Ground.data }, { on := 17, ground := Ground.chain }, { on := 13, ground := Ground.guard }], guard := some (13, true) }) rfl (fun K hK => ?_) AllReadyH.nil
      refine wantCall1 ?_ 29 (.tmp 37) #[31] ?_ (.agg #[.float .f64 c, .float .f64 d, .bool r, .bool s]) ?_ ?_ (enter_canonS _ _) ?_
      · rfl
      · rfl
      · rfl
      · rfl
      refine (HB.out _).mono ?_
      rintro o x243 ⟨rfl, b243⟩
      refine ⟨_, rfl, ?_⟩
      have U243 := U242.trans b243
      refine hK.out _ _ (B4.up U243 hB4) (fun _ => ?_)
      clear hK K
      (try simp only [Act.put]); (try simp only [List.setIfInBounds_toArray]); (try simp only [List.set_cons_succ]); (try simp only [List.set_cons_zero])
      refine wpAnyH_ready (rs := [20]) (by kernel_rfl) (by simp) ?_
      refine AllReadyH.cons (o := { dst := some 39, op := Op.call { callee := Callee.value (Operand.func 18), args := #[Operand.tmp 36, Operand.tmp 38], argTypes := #[31, 31] }, type := 4, pos := "law.go:126", after := #[{ on := 17, ground := Ground.data }, { on := 19, ground := Ground.data }, { on := 19, ground := Ground.chain }, { on := 13, ground := Ground.guard }], guard := some (13, true) }) rfl (fun K hK => ?_) AllReadyH.nil
      refine wantCall2 ?_ 18 (.tmp 36) (.tmp 38) #[31, 31] ?_ (.agg #[.float .f64 u1, .float .f64 v1, .bool e1, .bool e1]) (.agg #[.float .f64 u2, .float .f64 v2, .bool e2, .bool e2]) ?_ ?_ ?_ (ent_same _ _) ?_
      · rfl
      · rfl
      · rfl
      · rfl
      · rfl
      refine (HSS.out _).mono ?_
      rintro o x244 ⟨rfl, b244⟩
      refine ⟨_, rfl, ?_⟩
      have U244 := U243.trans b244
      refine hK.out _ _ (B4.up U244 hB4) (fun _ => ?_)
      clear hK K
      (try simp only [Act.put]); (try simp only [List.setIfInBounds_toArray]); (try simp only [List.set_cons_succ]); (try simp only [List.set_cons_zero])
      refine wpAnyH_take (i := 21) (oi := { dst := some 40, op := Op.binOp BinOp.eql 4 (Operand.tmp 34) (Operand.tmp 39) 4, type := 4, pos := "law.go:126", after := #[{ on := 15, ground := Ground.data }, { on := 20, ground := Ground.data }, { on := 13, ground := Ground.guard }], guard := some (13, true) }) (v := ?vk245) rfl (by kernel_rfl) (by kernel_rfl) (by kernel_rfl) (fun _ _ _ h => h) (Or.inl ⟨by rfl, ?hk245⟩) (B4.up U244 hB4) ?rk245
      case hk245 => (intro wz hSw; (try dsimp only at hSw); go_simp; try with_reducible rfl)
      (try simp only [Act.put]); (try simp only [List.setIfInBounds_toArray]); (try simp only [List.set_cons_succ]); (try simp only [List.set_cons_zero])
      refine wpAnyH_take (i := 22) (oi := { dst := some 41, op := Op.pick (Operand.tmp 32) (Operand.tmp 40) (Operand.const (Value.bool false)), type := 4, pos := "law.go:126", after := #[{ on := 13, ground := Ground.data }, { on := 21, ground := Ground.data }], guard := none }) (v := ?vk246) rfl (by kernel_rfl) (by kernel_rfl) (by kernel_rfl) (fun _ _ _ h => h) (Or.inl ⟨by rfl, ?hk246⟩) (B4.up U244 hB4) ?rk246
      case hk246 => (intro wz hSw; (try dsimp only at hSw); go_simp; try with_reducible rfl)
      (try simp only [Act.put]); (try simp only [List.setIfInBounds_toArray]); (try simp only [List.set_cons_succ]); (try simp only [List.set_cons_zero])
      refine wpAnyH_ready (rs := [23]) (by kernel_rfl) (by simp) ?_
      refine AllReadyH.cons (o := { dst := some 4, op := Op.assign (Operand.tmp 41), type := 4, pos := "law.go:126", after := #[{ on := 22, ground := Ground.data }, { on := 20, ground := Ground.chain }, { on := 0, ground := Ground.phase }, { on := 1, ground := Ground.phase }, { on := 2, ground := Ground.phase }, { on := 3, ground := Ground.phase }, { on := 4, ground := Ground.phase }, { on := 5, ground := Ground.phase }, { on := 6, ground := Ground.phase }, { on := 7, ground := Ground.phase }, { on := 8, ground := Ground.phase }, { on := 9, ground := Ground.phase }, { on := 10, ground := Ground.phase }, { on := 11, ground := Ground.phase }, { on := 12, ground := Ground.phase }, { on := 13, ground := Ground.phase }, { on := 14, ground := Ground.phase }, { on := 15, ground := Ground.phase }, { on := 16, ground := Ground.phase }, { on := 17, ground := Ground.phase }, { on := 18, ground := Ground.phase }, { on := 19, ground := Ground.phase }, { on := 20, ground := Ground.phase }, { on := 21, ground := Ground.phase }, { on := 22, ground := Ground.phase }], guard := none }) rfl (fun K hK => ?_) AllReadyH.nil
      go_simp
      refine hK.out _ _ (B4.up U244 hB4) (fun _ => ?_)
      clear hK K
      (try simp only [Act.put]); (try simp only [List.setIfInBounds_toArray]); (try simp only [List.set_cons_succ]); (try simp only [List.set_cons_zero])
      refine wpAnyH_done (by kernel_rfl) ?_ _
      refine NoPanic.normal ?_
      go_wp2
      go_ret
      exact ⟨rfl, UB.trans U244⟩

namespace Fl
theorem fc_facts {u1 v1 u2 v2 : Nat} {e1 e2 : Bool} (h1 : Fl.IsForm u1 v1 e1) (h2 : Fl.IsForm u2 v2 e2) (z : Bool) (hz : z = ((e1 == e2) && (e1 == e2) && (decide (u1 = u2) && decide (v1 = v2)))) :
    (Fl.fc u1 v1 e1 u2 v2 e2 = -1 ∧ Fl.fc u2 v2 e2 u1 v1 e1 = 1 ∧ z = false) ∨ (Fl.fc u1 v1 e1 u2 v2 e2 = 0 ∧ Fl.fc u2 v2 e2 u1 v1 e1 = 0 ∧ z = true) ∨ (Fl.fc u1 v1 e1 u2 v2 e2 = 1 ∧ Fl.fc u2 v2 e2 u1 v1 e1 = -1 ∧ z = false) := by
  have n1 := Fl.form_nan h1
  have n2 := Fl.form_nan h2
  rcases Fl.form_rng h1 with ⟨rfl, rfl, rfl, r1, r2⟩ | ⟨rfl, r1, r2, r3, r4, r5⟩ <;> rcases Fl.form_rng h2 with ⟨rfl, rfl, rfl, s1, s2⟩ | ⟨rfl, s1, s2, s3, s4, s5⟩
  · right; left; exact ⟨rfl, rfl, by rw [hz]; rfl⟩
  · left; exact ⟨rfl, rfl, by rw [hz]; rfl⟩
  · right; right; exact ⟨rfl, rfl, by rw [hz]; rfl⟩
  · have e0 : ∀ a b c d : Nat, Fl.fc a b false c d false = if Fl.code a < Fl.code c then -1 else if Fl.code c < Fl.code a then 1 else if Fl.code b < Fl.code d then -1 else if Fl.code d < Fl.code b then 1 else 0 := fun _ _ _ _ => rfl
    rw [e0, e0]
    have zf : ¬ (u1 = u2 ∧ v1 = v2) → z = false := by
      intro h; rw [hz]; simp; intro k; exact fun k' => h ⟨k, k'⟩
    by_cases c1 : Fl.code u1 < Fl.code u2
    · left; rw [if_pos c1, if_neg (by omega), if_pos c1]; exact ⟨rfl, rfl, zf (fun k => by rw [k.1] at c1; omega)⟩
    · by_cases c2 : Fl.code u2 < Fl.code u1
      · right; right; rw [if_neg c1, if_pos c2, if_pos c2]; exact ⟨rfl, rfl, zf (fun k => by rw [k.1] at c2; omega)⟩
      · rw [if_neg c1, if_neg c2, if_neg c2, if_neg c1]
        by_cases c3 : Fl.code v1 < Fl.code v2
        · left; rw [if_pos c3, if_neg (by omega), if_pos c3]; exact ⟨rfl, rfl, zf (fun k => by rw [k.2] at c3; omega)⟩
        · by_cases c4 : Fl.code v2 < Fl.code v1
          · right; right; rw [if_neg c3, if_pos c4, if_pos c4]; exact ⟨rfl, rfl, zf (fun k => by rw [k.2] at c4; omega)⟩
          · right; left; rw [if_neg c3, if_neg c4, if_neg c4, if_neg c3]
            refine ⟨rfl, rfl, ?_⟩
            have q1 := Fl.code_canon_inj _ _ h1.1 h2.1 n1.2.2.1 n2.2.2.1 (by omega)
            have q2 := Fl.code_canon_inj _ _ h1.2.1 h2.2.1 n1.2.2.2 n2.2.2.2 (by omega)
            rw [hz, q1, q2]; simp
end Fl

theorem walk (a0 b0 : Nat) (p0 q0 : Bool) (a1 b1 : Nat) (p1 q1 : Bool) (w : World) (w0 : Fl.W a0) (x0 : Fl.W b0) (w1 : Fl.W a1) (x1 : Fl.W b1) :
    Calls Try.prog 7 #[.agg #[.float .f64 a0, .float .f64 b0, .bool p0, .bool q0], .agg #[.float .f64 a1, .float .f64 b1, .bool p1, .bool q1]] w fun e w' => e = .returned (.bool true) ∧ Up w w' := by
  have F12 : Fl.IsForm 4607182418800017408 4611686018427387904 false := ⟨by unfold Fl.W; decide, by unfold Fl.W; decide, fun h => (by cases h), fun _ => by decide +kernel⟩
  have F13 : Fl.IsForm 4607182418800017408 4613937818241073152 false := ⟨by unfold Fl.W; decide, by unfold Fl.W; decide, fun h => (by cases h), fun _ => by decide +kernel⟩
  have HC0 := fun w => cmp_at F12 F13 4607182418800017408 4611686018427387904 4607182418800017408 4613937818241073152 false false false false (fun w => canon_form _ _ _ F12 w) (fun w => canon_form _ _ _ F13 w) w
  rw [show Fl.fc 4607182418800017408 4611686018427387904 false 4607182418800017408 4613937818241073152 false = -1 by decide +kernel] at HC0
  have f1 := Fl.cs_isForm a0 b0 p0 q0 w0 x0
  have f2 := Fl.cs_isForm a1 b1 p1 q1 w1 x1
  have HOa := fun w => rOf_any a0 b0 w0 x0 p0 q0 w
  have HOb := fun w => rOf_any a1 b1 w1 x1 p1 q1 w
  have HA := fun w => canonS_any a0 b0 w0 x0 p0 q0 w
  have HB := fun w => canonS_any a1 b1 w1 x1 p1 q1 w
  exact core a0 b0 a1 b1 _ _ _ _ _ _ _ _ _ _ p0 q0 p1 q1 _ _ _ HC0 HOa HOb (fun w => rCmp_form f1 f2 w) (fun w => cmp_at f1 f2 a0 b0 a1 b1 p0 q0 p1 q1 HA HB w) (fun w => cmp_at f2 f1 a1 b1 a0 b0 p1 q1 p0 q0 HB HA w) HA HB (fun w => sameSpan_any _ _ _ _ _ _ _ _ w) (Fl.fc_facts f1 f2 _ rfl) w

set_option maxRecDepth 100000 in
theorem lifted (os : Os) (started : os.Started) (H : Type) (enc : TypeId × Value → H) :
    ReturnsInHanded {} Try.checked os 7 .any (Rows.spanOrderSpec.pre6 enc Try.prog Try.f7 Rows.spanOrderRow.domain false) (Rows.spanOrderSpec.post enc Try.prog Try.f7 false true false false) := by
  refine returnsInHanded_of_change (C := Try.checked) own started (by kernel_rfl) Try.func7
    (ChangeSpec.witness6 (enc := enc) (C := Try.checked) false ⟨#[], #[.agg #[.float .f64 0, .float .f64 0, .bool false, .bool false], .agg #[.float .f64 0, .float .f64 0, .bool false, .bool false]], []⟩ 8 (by kernel_rfl) (by kernel_rfl) (by kernel_rfl) (by kernel_rfl)) ?_
  intro W base args ds gs before hval0 hW hcnd _
  have hval : ∀ (j : Nat) t v, Try.f7.params[j]? = some t → args[j]? = some v → Value.okWide Try.prog W .any base t v := hval0
  have hW' := hW
  obtain ⟨p, q, hA0, hV, rfl, hfz, hnd⟩ := hW
  have hA : DataW.TrodAll enc Try.prog W 0 (fun _ => true) true Try.f7.params.toList args.toList ds p := hA0
  rw [Try.params7] at hA hval
  obtain ⟨v0, vs0, d0, ds0, p0, q0, hargs, rfl, rfl, h0, r0⟩ := trodAll_cons hA
  obtain ⟨v1, vs1, d1, ds1, p1, q1, rfl, rfl, rfl, h1, r1⟩ := trodAll_cons r0
  obtain ⟨rfl, rfl, rfl⟩ := trodAll_nil r1
  obtain rfl : args = #[v0, v1] := by cases args; simp_all
  obtain ⟨rfl, rfl⟩ := trodVars_none hV
  have k0 := h0
  have lt0 : ∀ x ∈ p0, x.block < W.heap.size := by obtain ⟨m, hm⟩ := k0; exact DataW.trod_lt m _ _ _ hm
  obtain ⟨a0, b0, bp0, bq0, rfl, w0, x0⟩ := open_span (hval 0 31 v0 rfl rfl) h0
  have k1 := h1
  have lt1 : ∀ x ∈ p1, x.block < W.heap.size := by obtain ⟨m, hm⟩ := k1; exact DataW.trod_lt m _ _ _ hm
  obtain ⟨a1, b1, bp1, bq1, rfl, w1, x1⟩ := open_span (hval 1 31 v1 rfl rfl) h1
  clear hA0 hval0
  refine (walk a0 b0 bp0 bq0 a1 b1 bp1 bq1 W w0 x0 w1 x1).mono fun e W' ⟨he, bel⟩ => ?_
  subst he
  exact ⟨_, rfl, _, _, _, [], _, [], hW', trodAll_mk1 (shut_bool Try.underlying4 _), (trodAll_cons_mk (Below.trod laidOut (by kernel_rfl) (of_decide_eq_true (by kernel_rfl)) k0 bel lt0) (trodAll_cons_mk (Below.trod laidOut (by kernel_rfl) (of_decide_eq_true (by kernel_rfl)) k1 bel lt1) trodAll_mk0)), rfl, Below.frame bel _, fun h => by cases h⟩

theorem proved : Rows.SpanOrderSaid :=
  OpenClaim.holds_of_wide 7 Try.f7 rfl rfl rfl rfl rfl rfl rfl ⟨rfl, rfl, rfl, rfl, rfl⟩ rfl rfl rfl rfl rfl (by kernel_rfl) Try.func7 (by kernel_rfl)
    (of_decide_eq_true (by kernel_rfl)) (by unfold Func.isWrapper; first | (rw [if_pos (by decide +kernel)]; kernel_rfl) | (rw [if_neg (by decide +kernel)]; exact ⟨rfl, rfl⟩))
    (fun os started H enc _ => lifted os started H enc)
end Go.Proofs.Ytnggkncmcbcceaa.spanOrderDone
namespace Go.Proofs.Ytnggkncmcbcceaa
theorem spanOrder_holds : Rows.SpanOrderSaid := spanOrderDone.proved
#print axioms spanOrder_holds
end Go.Proofs.Ytnggkncmcbcceaa
