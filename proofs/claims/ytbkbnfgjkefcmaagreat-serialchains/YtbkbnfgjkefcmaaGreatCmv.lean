/- span.Cmp at every two spans; no condition. -/
import Derived.Test.YtbkbnfgjkefcmaaGreatMv
namespace Go.Proofs.YtbkbnfgjkefcmaaGreat
open Go.RowKit
set_option linter.unusedVariables false
set_option maxHeartbeats 400000 in
set_option maxRecDepth 20000 in
theorem or_first (m c : Nat) (x y : Int) (hx : (x != 0) = true) (W : World) (h0 : W.cell? ⟨m, 0, none⟩ = some (.int .i64 x)) (h1 : W.cell? ⟨m, 1, none⟩ = some (.int .i64 y)) :
    Calls Tryz.prog 132 #[.slice (some ⟨m, 0, none⟩) 2 c] W fun e w' => e = .returned (.int .i64 x) ∧ w' = W := by
  go_enter Tryz.func132, Tryz.ntmps132
  go_wp2
  refine wp_loop_rounds 1 ?_
  rw [rounds_succ]
  go_wp2
  all_goals go_ret
  all_goals exact ⟨rfl, rfl⟩
set_option maxHeartbeats 400000 in
set_option maxRecDepth 20000 in
theorem or_second (m c : Nat) (y : Int) (hy : (y != 0) = true) (W : World) (h0 : W.cell? ⟨m, 0, none⟩ = some (.int .i64 0)) (h1 : W.cell? ⟨m, 1, none⟩ = some (.int .i64 y)) :
    Calls Tryz.prog 132 #[.slice (some ⟨m, 0, none⟩) 2 c] W fun e w' => e = .returned (.int .i64 y) ∧ w' = W := by
  go_enter Tryz.func132, Tryz.ntmps132
  go_wp2
  refine wp_loop_rounds 2 ?_
  rw [rounds_succ]
  go_wp2
  rw [rounds_succ]
  go_wp2
  all_goals go_ret
  all_goals exact ⟨rfl, rfl⟩
set_option maxHeartbeats 400000 in
set_option maxRecDepth 20000 in
theorem or_none (m c : Nat) (W : World) (h0 : W.cell? ⟨m, 0, none⟩ = some (.int .i64 0)) (h1 : W.cell? ⟨m, 1, none⟩ = some (.int .i64 0)) :
    Calls Tryz.prog 132 #[.slice (some ⟨m, 0, none⟩) 2 c] W fun e w' => e = .returned (.int .i64 0) ∧ w' = W := by
  go_enter Tryz.func132, Tryz.ntmps132
  go_wp2
  refine wp_loop_rounds 3 ?_
  rw [rounds_succ]
  go_wp2
  rw [rounds_succ]
  go_wp2
  rw [rounds_succ]
  go_wp2
  all_goals go_ret
  all_goals exact ⟨rfl, rfl⟩

theorem R2i_new {m : Nat} {u v : Int} {w w' : World} (hm : m = w.heap.size) (hw : w' = w.alloc (.cells #[.int .i64 u, .int .i64 v] 3)) : w'.cell? ⟨m, 0, none⟩ = some (.int .i64 u) ∧ w'.cell? ⟨m, 1, none⟩ = some (.int .i64 v) ∧ Up w w' := by subst hm hw; exact ⟨by simp, by simp, (Up.refl _).alloc _⟩
theorem stepBuild2i {ops : Array Oper} {o : Oper} {a : Act} {w : World} {K : Act → World → Prop} {Q : Exit → Act → World → Prop} {E : Prop} (hg : o.guard = none) (x y : Operand) (hop : o.op = Op.buildSlice 81 2 #[(0, x), (1, y)]) (u v : Int)
    (hx : a.eval x = .int .i64 u) (hy : a.eval y = .int .i64 v)
    (hK : ∀ m w', m = w.heap.size → w' = w.alloc (.cells #[.int .i64 u, .int .i64 v] 3) → K (a.put o.dst (.slice (some ⟨m, 0, none⟩) 2 2)) w') :
    if Region.wanted o (yielded ops a.tmps) = true then Oper.wp Tryz.prog o a w K Q else E := by
  have hw : Region.wanted o (yielded ops a.tmps) = true := by simp [Region.wanted, hg]
  rw [if_pos hw]
  obtain ⟨d, p, t, ps, af, gd⟩ := o
  subst hop
  unfold Oper.wp execOp
  simp only [List.map_toArray, List.map_cons, List.map_nil, hx, hy]
  go_simp
  exact hK _ _ rfl rfl
theorem ent_fcmp (args : Array Value) (w : World) : (callFunc 100 args).run Tryz.prog w = .ok (.enter 100 args) w := by kernel_rfl
theorem ent_or (args : Array Value) (w : World) : (callFunc 132 args).run Tryz.prog w = .ok (.enter 132 args) w := by kernel_rfl
attribute [local go_sem] run_bits run_frombits run_store_float eqF
set_option maxHeartbeats 4000000 in
set_option maxRecDepth 20000 in
theorem cmp_core (a b c d u1 v1 u2 v2 : Nat) (x y R : Int) (p q r s e1 e2 q1 q2 : Bool) (h1 : e1 = true → u1 = 0 ∧ v1 = 0) (h2 : e2 = true → u2 = 0 ∧ v2 = 0)
    (g1 : (FloatKind.f64.format.order u1 u2 == some .eq) = q1) (g2 : (FloatKind.f64.format.order v1 v2 == some .eq) = q2)
    (HA : Hid (∀ w, Calls Tryz.prog 78 #[.agg #[.float .f64 a, .float .f64 b, .bool p, .bool q]] w fun o w' => o = .returned (.agg #[.float .f64 u1, .float .f64 v1, .bool e1, .bool e1]) ∧ Up w w')) (HB : Hid (∀ w, Calls Tryz.prog 78 #[.agg #[.float .f64 c, .float .f64 d, .bool r, .bool s]] w fun o w' => o = .returned (.agg #[.float .f64 u2, .float .f64 v2, .bool e2, .bool e2]) ∧ Up w w'))
    (HX : Hid (∀ w, Calls Tryz.prog 100 #[.float .f64 u1, .float .f64 u2] w fun o w' => o = .returned (.int .i64 x) ∧ w' = w)) (HY : Hid (∀ w, Calls Tryz.prog 100 #[.float .f64 v1, .float .f64 v2] w fun o w' => o = .returned (.int .i64 y) ∧ w' = w))
    (HOr : Hid ((e1 || e2) = false → ∀ m c W, W.cell? ⟨m, 0, none⟩ = some (.int .i64 x) → W.cell? ⟨m, 1, none⟩ = some (.int .i64 y) → Calls Tryz.prog 132 #[.slice (some ⟨m, 0, none⟩) 2 c] W fun o w' => o = .returned (.int .i64 R) ∧ w' = W))
    (hR : Hid (((e1 && e2) = true → R = 0) ∧ ((e1 && !e2) = true → R = -1) ∧ ((!e1 && e2) = true → R = 1) ∧ ((q1 && q2 && (!e1 && !e2)) = true → R = 0))) (w : World) :
    Calls Tryz.prog 117 #[.agg #[.float .f64 a, .float .f64 b, .bool p, .bool q], .agg #[.float .f64 c, .float .f64 d, .bool r, .bool s]] w fun o w' => o = .returned (.int .i64 R) ∧ Up w w' := by
  have o0 : FloatKind.f64.format.order 0 0 = some .eq := by decide +kernel
  go_enter Tryz.func117, Tryz.ntmps117
  go_upto_region 1 with fail
  obtain ⟨w0, hw0⟩ : ∃ w0, w0 = ((w.alloc (Obj.cells #[Value.float FloatKind.f64 a, Value.float FloatKind.f64 b, Value.bool p, Value.bool q] 67)).alloc (Obj.cells #[Value.float FloatKind.f64 c, Value.float FloatKind.f64 d, Value.bool r, Value.bool s] 67)) := ⟨_, rfl⟩
  have s0 : B2 w.heap.size a b p q (w.heap.size + 1) c d r s w0 := by rw [hw0]; simp [B2, SpAt]
  have U0 : Up w w0 := by rw [hw0]; exact ((Up.refl w).alloc _).alloc _
  rw [← hw0]
  clear hw0
  have HB0 := hid s0
  clear s0
  go_cut [5, 6] (fun f g wx => ∃ m n : Nat, f = .pointer (some ⟨m, 0, none⟩) ∧ g = .pointer (some ⟨n, 0, none⟩) ∧ SpAt m u1 v1 e1 e1 wx ∧ SpAt n u2 v2 e2 e2 wx ∧ Up w0 wx)
  case first =>
    refine wp_region_noPanic ?_
    refine wp_region_held_drew (S := B2 w.heap.size a b p q (w.heap.size + 1) c d r s) (by kernel_rfl) ?_ (fun hHeld => ?_)
    · exact B2.up ((Up.refl _).drew) HB0.out
    (try simp only [Act.put]); (try simp only [List.setIfInBounds_toArray]); (try simp only [List.set_cons_succ]); (try simp only [List.set_cons_zero])
    clear hHeld
    refine wpAnyH_take (i := 0) (oi := { dst := some 7, op := Op.load 67 (Operand.tmp 2), type := 67, pos := "span.go:138", after := #[], guard := none }) (v := ?vk1) rfl (by kernel_rfl) (by kernel_rfl) (by kernel_rfl) (fun _ _ _ h => h) (Or.inl ⟨by rfl, ?hk1⟩) (B2.up (J2.start w0).1 HB0.out) ?rk1
    case hk1 => (intro wz hSw; (try dsimp only at hSw); go_simp; try with_reducible rfl)
    (try simp only [Act.put]); (try simp only [List.setIfInBounds_toArray]); (try simp only [List.set_cons_succ]); (try simp only [List.set_cons_zero])
    refine wpAnyH_take (i := 2) (oi := { dst := some 9, op := Op.load 67 (Operand.tmp 3), type := 67, pos := "span.go:138", after := #[], guard := none }) (v := ?vk2) rfl (by kernel_rfl) (by kernel_rfl) (by kernel_rfl) (fun _ _ _ h => h) (Or.inl ⟨by rfl, ?hk2⟩) (B2.up (J2.start w0).1 HB0.out) ?rk2
    case hk2 => (intro wz hSw; (try dsimp only at hSw); go_simp; try with_reducible rfl)
    (try simp only [Act.put]); (try simp only [List.setIfInBounds_toArray]); (try simp only [List.set_cons_succ]); (try simp only [List.set_cons_zero])
    refine wpAnyH_ready (rs := [1, 4, 5]) (by kernel_rfl) (by simp) ?_
    refine AllReadyH.cons (o := { dst := some 8, op := Op.call { callee := Callee.value (Operand.func 78), args := #[Operand.tmp 7], argTypes := #[67] }, type := 67, pos := "span.go:138", after := #[{ on := 0, ground := Ground.data }], guard := none }) rfl (fun K hK => ?_) (AllReadyH.cons (o := { dst := some 5, op := Op.alloc 67, type := 0, pos := "span.go:138", after := #[], guard := none }) rfl (fun K hK => ?_) (AllReadyH.cons (o := { dst := some 6, op := Op.alloc 67, type := 0, pos := "span.go:138", after := #[], guard := none }) rfl (fun K hK => ?_) AllReadyH.nil))
    · skip
      refine stepCall1 ?_ 78 (.tmp 7) #[67] ?_ (.agg #[.float .f64 a, .float .f64 b, .bool p, .bool q]) ?_ ?_ (enter_canonS _ _) ?_
      · rfl
      · rfl
      · rfl
      · rfl
      refine (HA.out _).mono ?_
      rintro o x3 ⟨rfl, b3⟩
      refine ⟨_, rfl, ?_⟩
      have j3 := (J2.start w0).up b3
      refine hK.out _ _ (B2.up j3.1 HB0.out) (fun _ => ?_)
      clear hK K
      (try simp only [Act.put]); (try simp only [List.setIfInBounds_toArray]); (try simp only [List.set_cons_succ]); (try simp only [List.set_cons_zero])
      refine wpAnyH_ready (rs := [3, 4, 5]) (by kernel_rfl) (by simp) ?_
      refine AllReadyH.cons (o := { dst := some 10, op := Op.call { callee := Callee.value (Operand.func 78), args := #[Operand.tmp 9], argTypes := #[67] }, type := 67, pos := "span.go:138", after := #[{ on := 2, ground := Ground.data }, { on := 1, ground := Ground.chain }], guard := none }) rfl (fun K hK => ?_) (AllReadyH.cons (o := { dst := some 5, op := Op.alloc 67, type := 0, pos := "span.go:138", after := #[], guard := none }) rfl (fun K hK => ?_) (AllReadyH.cons (o := { dst := some 6, op := Op.alloc 67, type := 0, pos := "span.go:138", after := #[], guard := none }) rfl (fun K hK => ?_) AllReadyH.nil))
      · skip
        refine stepCall1 ?_ 78 (.tmp 9) #[67] ?_ (.agg #[.float .f64 c, .float .f64 d, .bool r, .bool s]) ?_ ?_ (enter_canonS _ _) ?_
        · rfl
        · rfl
        · rfl
        · rfl
        refine (HB.out _).mono ?_
        rintro o x4 ⟨rfl, b4⟩
        refine ⟨_, rfl, ?_⟩
        have j4 := j3.up b4
        refine hK.out _ _ (B2.up j4.1 HB0.out) (fun _ => ?_)
        clear hK K
        (try simp only [Act.put]); (try simp only [List.setIfInBounds_toArray]); (try simp only [List.set_cons_succ]); (try simp only [List.set_cons_zero])
        refine wpAnyH_ready (rs := [4, 5]) (by kernel_rfl) (by simp) ?_
        refine AllReadyH.cons (o := { dst := some 5, op := Op.alloc 67, type := 0, pos := "span.go:138", after := #[], guard := none }) rfl (fun K hK => ?_) (AllReadyH.cons (o := { dst := some 6, op := Op.alloc 67, type := 0, pos := "span.go:138", after := #[], guard := none }) rfl (fun K hK => ?_) AllReadyH.nil)
        · skip
          refine stepAlloc ?_ ?_ ?_
          · rfl
          · rfl
          intro m5 x5 hm5 hx5
          have j5 := j4.nF hm5 hx5
          clear hm5 hx5
          refine hK.out _ _ (B2.up j5.1 HB0.out) (fun _ => ?_)
          clear hK K
          (try simp only [Act.put]); (try simp only [List.setIfInBounds_toArray]); (try simp only [List.set_cons_succ]); (try simp only [List.set_cons_zero])
          refine wpAnyH_ready (rs := [5]) (by kernel_rfl) (by simp) ?_
          refine AllReadyH.cons (o := { dst := some 6, op := Op.alloc 67, type := 0, pos := "span.go:138", after := #[], guard := none }) rfl (fun K hK => ?_) AllReadyH.nil
          · skip
            refine stepAlloc ?_ ?_ ?_
            · rfl
            · rfl
            intro m6 x6 hm6 hx6
            have j6 := j5.nG hm6 hx6
            clear hm6 hx6
            refine hK.out _ _ (B2.up j6.1 HB0.out) (fun _ => ?_)
            clear hK K
            (try simp only [Act.put]); (try simp only [List.setIfInBounds_toArray]); (try simp only [List.set_cons_succ]); (try simp only [List.set_cons_zero])
            refine wpAnyH_ready (rs := [6]) (by kernel_rfl) (by simp) ?_
            refine AllReadyH.cons (o := { dst := none, op := Op.store 67 (Operand.tmp 5) (Operand.tmp 8), type := 0, pos := "span.go:138", after := #[{ on := 4, ground := Ground.data }, { on := 1, ground := Ground.data }, { on := 3, ground := Ground.chain }, { on := 0, ground := Ground.phase }, { on := 1, ground := Ground.phase }, { on := 2, ground := Ground.textOnly Departure.lateStores }, { on := 3, ground := Ground.textOnly Departure.lateStoresUnsure }, { on := 4, ground := Ground.phase }, { on := 5, ground := Ground.phase }], guard := none }) rfl (fun K hK => ?_) AllReadyH.nil
            · skip
              refine stepStore ?_ (.tmp 5) (.tmp 8) ?_ m5 u1 v1 e1 e1 ?_ ?_ j6.thereF ?_
              · rfl
              · rfl
              · rfl
              · rfl
              refine hK.out _ _ (B2.up (j6.upF _) HB0.out) (fun _ => ?_)
              clear hK K
              (try simp only [Act.put]); (try simp only [List.setIfInBounds_toArray]); (try simp only [List.set_cons_succ]); (try simp only [List.set_cons_zero])
              refine wpAnyH_ready (rs := [7]) (by kernel_rfl) (by simp) ?_
              refine AllReadyH.cons (o := { dst := none, op := Op.store 67 (Operand.tmp 6) (Operand.tmp 10), type := 0, pos := "span.go:138", after := #[{ on := 5, ground := Ground.data }, { on := 3, ground := Ground.data }, { on := 6, ground := Ground.chain }, { on := 0, ground := Ground.phase }, { on := 1, ground := Ground.phase }, { on := 2, ground := Ground.phase }, { on := 3, ground := Ground.phase }, { on := 4, ground := Ground.phase }, { on := 5, ground := Ground.phase }, { on := 6, ground := Ground.phase }], guard := none }) rfl (fun K hK => ?_) AllReadyH.nil
              · skip
                refine stepStore ?_ (.tmp 6) (.tmp 10) ?_ m6 u2 v2 e2 e2 ?_ ?_ (j6.thereG _) ?_
                · rfl
                · rfl
                · rfl
                · rfl
                refine hK.out _ _ (B2.up (j6.fin u1 v1 u2 v2 e1 e1 e2 e2).2.2 HB0.out) (fun _ => ?_)
                clear hK K
                (try simp only [Act.put]); (try simp only [List.setIfInBounds_toArray]); (try simp only [List.set_cons_succ]); (try simp only [List.set_cons_zero])
                refine wpAnyH_done (by kernel_rfl) ?_ _
                refine NoPanic.normal ?_
                go_wp2_with fail
                go_meet
                case rel => exact ⟨m5, m6, rfl, rfl, (j6.fin u1 v1 u2 v2 e1 e1 e2 e2).1, (j6.fin u1 v1 u2 v2 e1 e1 e2 e2).2.1, (j6.fin u1 v1 u2 v2 e1 e1 e2 e2).2.2⟩
        · skip
          refine stepAlloc ?_ ?_ ?_
          · rfl
          · rfl
          intro m7 x7 hm7 hx7
          have j7 := j4.nG hm7 hx7
          clear hm7 hx7
          refine hK.out _ _ (B2.up j7.1 HB0.out) (fun _ => ?_)
          clear hK K
          (try simp only [Act.put]); (try simp only [List.setIfInBounds_toArray]); (try simp only [List.set_cons_succ]); (try simp only [List.set_cons_zero])
          refine wpAnyH_ready (rs := [4]) (by kernel_rfl) (by simp) ?_
          refine AllReadyH.cons (o := { dst := some 5, op := Op.alloc 67, type := 0, pos := "span.go:138", after := #[], guard := none }) rfl (fun K hK => ?_) AllReadyH.nil
          · skip
            refine stepAlloc ?_ ?_ ?_
            · rfl
            · rfl
            intro m8 x8 hm8 hx8
            have j8 := j7.nF hm8 hx8
            clear hm8 hx8
            refine hK.out _ _ (B2.up j8.1 HB0.out) (fun _ => ?_)
            clear hK K
            (try simp only [Act.put]); (try simp only [List.setIfInBounds_toArray]); (try simp only [List.set_cons_succ]); (try simp only [List.set_cons_zero])
            refine wpAnyH_ready (rs := [6]) (by kernel_rfl) (by simp) ?_
            refine AllReadyH.cons (o := { dst := none, op := Op.store 67 (Operand.tmp 5) (Operand.tmp 8), type := 0, pos := "span.go:138", after := #[{ on := 4, ground := Ground.data }, { on := 1, ground := Ground.data }, { on := 3, ground := Ground.chain }, { on := 0, ground := Ground.phase }, { on := 1, ground := Ground.phase }, { on := 2, ground := Ground.textOnly Departure.lateStores }, { on := 3, ground := Ground.textOnly Departure.lateStoresUnsure }, { on := 4, ground := Ground.phase }, { on := 5, ground := Ground.phase }], guard := none }) rfl (fun K hK => ?_) AllReadyH.nil
            · skip
              refine stepStore ?_ (.tmp 5) (.tmp 8) ?_ m8 u1 v1 e1 e1 ?_ ?_ j8.thereF ?_
              · rfl
              · rfl
              · rfl
              · rfl
              refine hK.out _ _ (B2.up (j8.upF _) HB0.out) (fun _ => ?_)
              clear hK K
              (try simp only [Act.put]); (try simp only [List.setIfInBounds_toArray]); (try simp only [List.set_cons_succ]); (try simp only [List.set_cons_zero])
              refine wpAnyH_ready (rs := [7]) (by kernel_rfl) (by simp) ?_
              refine AllReadyH.cons (o := { dst := none, op := Op.store 67 (Operand.tmp 6) (Operand.tmp 10), type := 0, pos := "span.go:138", after := #[{ on := 5, ground := Ground.data }, { on := 3, ground := Ground.data }, { on := 6, ground := Ground.chain }, { on := 0, ground := Ground.phase }, { on := 1, ground := Ground.phase }, { on := 2, ground := Ground.phase }, { on := 3, ground := Ground.phase }, { on := 4, ground := Ground.phase }, { on := 5, ground := Ground.phase }, { on := 6, ground := Ground.phase }], guard := none }) rfl (fun K hK => ?_) AllReadyH.nil
              · skip
                refine stepStore ?_ (.tmp 6) (.tmp 10) ?_ m7 u2 v2 e2 e2 ?_ ?_ (j8.thereG _) ?_
                · rfl
                · rfl
                · rfl
                · rfl
                refine hK.out _ _ (B2.up (j8.fin u1 v1 u2 v2 e1 e1 e2 e2).2.2 HB0.out) (fun _ => ?_)
                clear hK K
                (try simp only [Act.put]); (try simp only [List.setIfInBounds_toArray]); (try simp only [List.set_cons_succ]); (try simp only [List.set_cons_zero])
                refine wpAnyH_done (by kernel_rfl) ?_ _
                refine NoPanic.normal ?_
                go_wp2_with fail
                go_meet
                case rel => exact ⟨m8, m7, rfl, rfl, (j8.fin u1 v1 u2 v2 e1 e1 e2 e2).1, (j8.fin u1 v1 u2 v2 e1 e1 e2 e2).2.1, (j8.fin u1 v1 u2 v2 e1 e1 e2 e2).2.2⟩
      · skip
        refine stepAlloc ?_ ?_ ?_
        · rfl
        · rfl
        intro m9 x9 hm9 hx9
        have j9 := j3.nF hm9 hx9
        clear hm9 hx9
        refine hK.out _ _ (B2.up j9.1 HB0.out) (fun _ => ?_)
        clear hK K
        (try simp only [Act.put]); (try simp only [List.setIfInBounds_toArray]); (try simp only [List.set_cons_succ]); (try simp only [List.set_cons_zero])
        refine wpAnyH_ready (rs := [3, 5]) (by kernel_rfl) (by simp) ?_
        refine AllReadyH.cons (o := { dst := some 10, op := Op.call { callee := Callee.value (Operand.func 78), args := #[Operand.tmp 9], argTypes := #[67] }, type := 67, pos := "span.go:138", after := #[{ on := 2, ground := Ground.data }, { on := 1, ground := Ground.chain }], guard := none }) rfl (fun K hK => ?_) (AllReadyH.cons (o := { dst := some 6, op := Op.alloc 67, type := 0, pos := "span.go:138", after := #[], guard := none }) rfl (fun K hK => ?_) AllReadyH.nil)
        · skip
          refine stepCall1 ?_ 78 (.tmp 9) #[67] ?_ (.agg #[.float .f64 c, .float .f64 d, .bool r, .bool s]) ?_ ?_ (enter_canonS _ _) ?_
          · rfl
          · rfl
          · rfl
          · rfl
          refine (HB.out _).mono ?_
          rintro o x10 ⟨rfl, b10⟩
          refine ⟨_, rfl, ?_⟩
          have j10 := j9.up b10
          refine hK.out _ _ (B2.up j10.1 HB0.out) (fun _ => ?_)
          clear hK K
          (try simp only [Act.put]); (try simp only [List.setIfInBounds_toArray]); (try simp only [List.set_cons_succ]); (try simp only [List.set_cons_zero])
          refine wpAnyH_ready (rs := [5]) (by kernel_rfl) (by simp) ?_
          refine AllReadyH.cons (o := { dst := some 6, op := Op.alloc 67, type := 0, pos := "span.go:138", after := #[], guard := none }) rfl (fun K hK => ?_) AllReadyH.nil
          · skip
            refine stepAlloc ?_ ?_ ?_
            · rfl
            · rfl
            intro m11 x11 hm11 hx11
            have j11 := j10.nG hm11 hx11
            clear hm11 hx11
            refine hK.out _ _ (B2.up j11.1 HB0.out) (fun _ => ?_)
            clear hK K
            (try simp only [Act.put]); (try simp only [List.setIfInBounds_toArray]); (try simp only [List.set_cons_succ]); (try simp only [List.set_cons_zero])
            refine wpAnyH_ready (rs := [6]) (by kernel_rfl) (by simp) ?_
            refine AllReadyH.cons (o := { dst := none, op := Op.store 67 (Operand.tmp 5) (Operand.tmp 8), type := 0, pos := "span.go:138", after := #[{ on := 4, ground := Ground.data }, { on := 1, ground := Ground.data }, { on := 3, ground := Ground.chain }, { on := 0, ground := Ground.phase }, { on := 1, ground := Ground.phase }, { on := 2, ground := Ground.textOnly Departure.lateStores }, { on := 3, ground := Ground.textOnly Departure.lateStoresUnsure }, { on := 4, ground := Ground.phase }, { on := 5, ground := Ground.phase }], guard := none }) rfl (fun K hK => ?_) AllReadyH.nil
            · skip
              refine stepStore ?_ (.tmp 5) (.tmp 8) ?_ m9 u1 v1 e1 e1 ?_ ?_ j11.thereF ?_
              · rfl
              · rfl
              · rfl
              · rfl
              refine hK.out _ _ (B2.up (j11.upF _) HB0.out) (fun _ => ?_)
              clear hK K
              (try simp only [Act.put]); (try simp only [List.setIfInBounds_toArray]); (try simp only [List.set_cons_succ]); (try simp only [List.set_cons_zero])
              refine wpAnyH_ready (rs := [7]) (by kernel_rfl) (by simp) ?_
              refine AllReadyH.cons (o := { dst := none, op := Op.store 67 (Operand.tmp 6) (Operand.tmp 10), type := 0, pos := "span.go:138", after := #[{ on := 5, ground := Ground.data }, { on := 3, ground := Ground.data }, { on := 6, ground := Ground.chain }, { on := 0, ground := Ground.phase }, { on := 1, ground := Ground.phase }, { on := 2, ground := Ground.phase }, { on := 3, ground := Ground.phase }, { on := 4, ground := Ground.phase }, { on := 5, ground := Ground.phase }, { on := 6, ground := Ground.phase }], guard := none }) rfl (fun K hK => ?_) AllReadyH.nil
              · skip
                refine stepStore ?_ (.tmp 6) (.tmp 10) ?_ m11 u2 v2 e2 e2 ?_ ?_ (j11.thereG _) ?_
                · rfl
                · rfl
                · rfl
                · rfl
                refine hK.out _ _ (B2.up (j11.fin u1 v1 u2 v2 e1 e1 e2 e2).2.2 HB0.out) (fun _ => ?_)
                clear hK K
                (try simp only [Act.put]); (try simp only [List.setIfInBounds_toArray]); (try simp only [List.set_cons_succ]); (try simp only [List.set_cons_zero])
                refine wpAnyH_done (by kernel_rfl) ?_ _
                refine NoPanic.normal ?_
                go_wp2_with fail
                go_meet
                case rel => exact ⟨m9, m11, rfl, rfl, (j11.fin u1 v1 u2 v2 e1 e1 e2 e2).1, (j11.fin u1 v1 u2 v2 e1 e1 e2 e2).2.1, (j11.fin u1 v1 u2 v2 e1 e1 e2 e2).2.2⟩
        · skip
          refine stepAlloc ?_ ?_ ?_
          · rfl
          · rfl
          intro m12 x12 hm12 hx12
          have j12 := j9.nG hm12 hx12
          clear hm12 hx12
          refine hK.out _ _ (B2.up j12.1 HB0.out) (fun _ => ?_)
          clear hK K
          (try simp only [Act.put]); (try simp only [List.setIfInBounds_toArray]); (try simp only [List.set_cons_succ]); (try simp only [List.set_cons_zero])
          refine wpAnyH_ready (rs := [3]) (by kernel_rfl) (by simp) ?_
          refine AllReadyH.cons (o := { dst := some 10, op := Op.call { callee := Callee.value (Operand.func 78), args := #[Operand.tmp 9], argTypes := #[67] }, type := 67, pos := "span.go:138", after := #[{ on := 2, ground := Ground.data }, { on := 1, ground := Ground.chain }], guard := none }) rfl (fun K hK => ?_) AllReadyH.nil
          · skip
            refine stepCall1 ?_ 78 (.tmp 9) #[67] ?_ (.agg #[.float .f64 c, .float .f64 d, .bool r, .bool s]) ?_ ?_ (enter_canonS _ _) ?_
            · rfl
            · rfl
            · rfl
            · rfl
            refine (HB.out _).mono ?_
            rintro o x13 ⟨rfl, b13⟩
            refine ⟨_, rfl, ?_⟩
            have j13 := j12.up b13
            refine hK.out _ _ (B2.up j13.1 HB0.out) (fun _ => ?_)
            clear hK K
            (try simp only [Act.put]); (try simp only [List.setIfInBounds_toArray]); (try simp only [List.set_cons_succ]); (try simp only [List.set_cons_zero])
            refine wpAnyH_ready (rs := [6]) (by kernel_rfl) (by simp) ?_
            refine AllReadyH.cons (o := { dst := none, op := Op.store 67 (Operand.tmp 5) (Operand.tmp 8), type := 0, pos := "span.go:138", after := #[{ on := 4, ground := Ground.data }, { on := 1, ground := Ground.data }, { on := 3, ground := Ground.chain }, { on := 0, ground := Ground.phase }, { on := 1, ground := Ground.phase }, { on := 2, ground := Ground.textOnly Departure.lateStores }, { on := 3, ground := Ground.textOnly Departure.lateStoresUnsure }, { on := 4, ground := Ground.phase }, { on := 5, ground := Ground.phase }], guard := none }) rfl (fun K hK => ?_) AllReadyH.nil
            · skip
              refine stepStore ?_ (.tmp 5) (.tmp 8) ?_ m9 u1 v1 e1 e1 ?_ ?_ j13.thereF ?_
              · rfl
              · rfl
              · rfl
              · rfl
              refine hK.out _ _ (B2.up (j13.upF _) HB0.out) (fun _ => ?_)
              clear hK K
              (try simp only [Act.put]); (try simp only [List.setIfInBounds_toArray]); (try simp only [List.set_cons_succ]); (try simp only [List.set_cons_zero])
              refine wpAnyH_ready (rs := [7]) (by kernel_rfl) (by simp) ?_
              refine AllReadyH.cons (o := { dst := none, op := Op.store 67 (Operand.tmp 6) (Operand.tmp 10), type := 0, pos := "span.go:138", after := #[{ on := 5, ground := Ground.data }, { on := 3, ground := Ground.data }, { on := 6, ground := Ground.chain }, { on := 0, ground := Ground.phase }, { on := 1, ground := Ground.phase }, { on := 2, ground := Ground.phase }, { on := 3, ground := Ground.phase }, { on := 4, ground := Ground.phase }, { on := 5, ground := Ground.phase }, { on := 6, ground := Ground.phase }], guard := none }) rfl (fun K hK => ?_) AllReadyH.nil
              · skip
                refine stepStore ?_ (.tmp 6) (.tmp 10) ?_ m12 u2 v2 e2 e2 ?_ ?_ (j13.thereG _) ?_
                · rfl
                · rfl
                · rfl
                · rfl
                refine hK.out _ _ (B2.up (j13.fin u1 v1 u2 v2 e1 e1 e2 e2).2.2 HB0.out) (fun _ => ?_)
                clear hK K
                (try simp only [Act.put]); (try simp only [List.setIfInBounds_toArray]); (try simp only [List.set_cons_succ]); (try simp only [List.set_cons_zero])
                refine wpAnyH_done (by kernel_rfl) ?_ _
                refine NoPanic.normal ?_
                go_wp2_with fail
                go_meet
                case rel => exact ⟨m9, m12, rfl, rfl, (j13.fin u1 v1 u2 v2 e1 e1 e2 e2).1, (j13.fin u1 v1 u2 v2 e1 e1 e2 e2).2.1, (j13.fin u1 v1 u2 v2 e1 e1 e2 e2).2.2⟩
      · skip
        refine stepAlloc ?_ ?_ ?_
        · rfl
        · rfl
        intro m14 x14 hm14 hx14
        have j14 := j3.nG hm14 hx14
        clear hm14 hx14
        refine hK.out _ _ (B2.up j14.1 HB0.out) (fun _ => ?_)
        clear hK K
        (try simp only [Act.put]); (try simp only [List.setIfInBounds_toArray]); (try simp only [List.set_cons_succ]); (try simp only [List.set_cons_zero])
        refine wpAnyH_ready (rs := [3, 4]) (by kernel_rfl) (by simp) ?_
        refine AllReadyH.cons (o := { dst := some 10, op := Op.call { callee := Callee.value (Operand.func 78), args := #[Operand.tmp 9], argTypes := #[67] }, type := 67, pos := "span.go:138", after := #[{ on := 2, ground := Ground.data }, { on := 1, ground := Ground.chain }], guard := none }) rfl (fun K hK => ?_) (AllReadyH.cons (o := { dst := some 5, op := Op.alloc 67, type := 0, pos := "span.go:138", after := #[], guard := none }) rfl (fun K hK => ?_) AllReadyH.nil)
        · skip
          refine stepCall1 ?_ 78 (.tmp 9) #[67] ?_ (.agg #[.float .f64 c, .float .f64 d, .bool r, .bool s]) ?_ ?_ (enter_canonS _ _) ?_
          · rfl
          · rfl
          · rfl
          · rfl
          refine (HB.out _).mono ?_
          rintro o x15 ⟨rfl, b15⟩
          refine ⟨_, rfl, ?_⟩
          have j15 := j14.up b15
          refine hK.out _ _ (B2.up j15.1 HB0.out) (fun _ => ?_)
          clear hK K
          (try simp only [Act.put]); (try simp only [List.setIfInBounds_toArray]); (try simp only [List.set_cons_succ]); (try simp only [List.set_cons_zero])
          refine wpAnyH_ready (rs := [4]) (by kernel_rfl) (by simp) ?_
          refine AllReadyH.cons (o := { dst := some 5, op := Op.alloc 67, type := 0, pos := "span.go:138", after := #[], guard := none }) rfl (fun K hK => ?_) AllReadyH.nil
          · skip
            refine stepAlloc ?_ ?_ ?_
            · rfl
            · rfl
            intro m16 x16 hm16 hx16
            have j16 := j15.nF hm16 hx16
            clear hm16 hx16
            refine hK.out _ _ (B2.up j16.1 HB0.out) (fun _ => ?_)
            clear hK K
            (try simp only [Act.put]); (try simp only [List.setIfInBounds_toArray]); (try simp only [List.set_cons_succ]); (try simp only [List.set_cons_zero])
            refine wpAnyH_ready (rs := [6]) (by kernel_rfl) (by simp) ?_
            refine AllReadyH.cons (o := { dst := none, op := Op.store 67 (Operand.tmp 5) (Operand.tmp 8), type := 0, pos := "span.go:138", after := #[{ on := 4, ground := Ground.data }, { on := 1, ground := Ground.data }, { on := 3, ground := Ground.chain }, { on := 0, ground := Ground.phase }, { on := 1, ground := Ground.phase }, { on := 2, ground := Ground.textOnly Departure.lateStores }, { on := 3, ground := Ground.textOnly Departure.lateStoresUnsure }, { on := 4, ground := Ground.phase }, { on := 5, ground := Ground.phase }], guard := none }) rfl (fun K hK => ?_) AllReadyH.nil
            · skip
              refine stepStore ?_ (.tmp 5) (.tmp 8) ?_ m16 u1 v1 e1 e1 ?_ ?_ j16.thereF ?_
              · rfl
              · rfl
              · rfl
              · rfl
              refine hK.out _ _ (B2.up (j16.upF _) HB0.out) (fun _ => ?_)
              clear hK K
              (try simp only [Act.put]); (try simp only [List.setIfInBounds_toArray]); (try simp only [List.set_cons_succ]); (try simp only [List.set_cons_zero])
              refine wpAnyH_ready (rs := [7]) (by kernel_rfl) (by simp) ?_
              refine AllReadyH.cons (o := { dst := none, op := Op.store 67 (Operand.tmp 6) (Operand.tmp 10), type := 0, pos := "span.go:138", after := #[{ on := 5, ground := Ground.data }, { on := 3, ground := Ground.data }, { on := 6, ground := Ground.chain }, { on := 0, ground := Ground.phase }, { on := 1, ground := Ground.phase }, { on := 2, ground := Ground.phase }, { on := 3, ground := Ground.phase }, { on := 4, ground := Ground.phase }, { on := 5, ground := Ground.phase }, { on := 6, ground := Ground.phase }], guard := none }) rfl (fun K hK => ?_) AllReadyH.nil
              · skip
                refine stepStore ?_ (.tmp 6) (.tmp 10) ?_ m14 u2 v2 e2 e2 ?_ ?_ (j16.thereG _) ?_
                · rfl
                · rfl
                · rfl
                · rfl
                refine hK.out _ _ (B2.up (j16.fin u1 v1 u2 v2 e1 e1 e2 e2).2.2 HB0.out) (fun _ => ?_)
                clear hK K
                (try simp only [Act.put]); (try simp only [List.setIfInBounds_toArray]); (try simp only [List.set_cons_succ]); (try simp only [List.set_cons_zero])
                refine wpAnyH_done (by kernel_rfl) ?_ _
                refine NoPanic.normal ?_
                go_wp2_with fail
                go_meet
                case rel => exact ⟨m16, m14, rfl, rfl, (j16.fin u1 v1 u2 v2 e1 e1 e2 e2).1, (j16.fin u1 v1 u2 v2 e1 e1 e2 e2).2.1, (j16.fin u1 v1 u2 v2 e1 e1 e2 e2).2.2⟩
        · skip
          refine stepAlloc ?_ ?_ ?_
          · rfl
          · rfl
          intro m17 x17 hm17 hx17
          have j17 := j14.nF hm17 hx17
          clear hm17 hx17
          refine hK.out _ _ (B2.up j17.1 HB0.out) (fun _ => ?_)
          clear hK K
          (try simp only [Act.put]); (try simp only [List.setIfInBounds_toArray]); (try simp only [List.set_cons_succ]); (try simp only [List.set_cons_zero])
          refine wpAnyH_ready (rs := [3]) (by kernel_rfl) (by simp) ?_
          refine AllReadyH.cons (o := { dst := some 10, op := Op.call { callee := Callee.value (Operand.func 78), args := #[Operand.tmp 9], argTypes := #[67] }, type := 67, pos := "span.go:138", after := #[{ on := 2, ground := Ground.data }, { on := 1, ground := Ground.chain }], guard := none }) rfl (fun K hK => ?_) AllReadyH.nil
          · skip
            refine stepCall1 ?_ 78 (.tmp 9) #[67] ?_ (.agg #[.float .f64 c, .float .f64 d, .bool r, .bool s]) ?_ ?_ (enter_canonS _ _) ?_
            · rfl
            · rfl
            · rfl
            · rfl
            refine (HB.out _).mono ?_
            rintro o x18 ⟨rfl, b18⟩
            refine ⟨_, rfl, ?_⟩
            have j18 := j17.up b18
            refine hK.out _ _ (B2.up j18.1 HB0.out) (fun _ => ?_)
            clear hK K
            (try simp only [Act.put]); (try simp only [List.setIfInBounds_toArray]); (try simp only [List.set_cons_succ]); (try simp only [List.set_cons_zero])
            refine wpAnyH_ready (rs := [6]) (by kernel_rfl) (by simp) ?_
            refine AllReadyH.cons (o := { dst := none, op := Op.store 67 (Operand.tmp 5) (Operand.tmp 8), type := 0, pos := "span.go:138", after := #[{ on := 4, ground := Ground.data }, { on := 1, ground := Ground.data }, { on := 3, ground := Ground.chain }, { on := 0, ground := Ground.phase }, { on := 1, ground := Ground.phase }, { on := 2, ground := Ground.textOnly Departure.lateStores }, { on := 3, ground := Ground.textOnly Departure.lateStoresUnsure }, { on := 4, ground := Ground.phase }, { on := 5, ground := Ground.phase }], guard := none }) rfl (fun K hK => ?_) AllReadyH.nil
            · skip
              refine stepStore ?_ (.tmp 5) (.tmp 8) ?_ m17 u1 v1 e1 e1 ?_ ?_ j18.thereF ?_
              · rfl
              · rfl
              · rfl
              · rfl
              refine hK.out _ _ (B2.up (j18.upF _) HB0.out) (fun _ => ?_)
              clear hK K
              (try simp only [Act.put]); (try simp only [List.setIfInBounds_toArray]); (try simp only [List.set_cons_succ]); (try simp only [List.set_cons_zero])
              refine wpAnyH_ready (rs := [7]) (by kernel_rfl) (by simp) ?_
              refine AllReadyH.cons (o := { dst := none, op := Op.store 67 (Operand.tmp 6) (Operand.tmp 10), type := 0, pos := "span.go:138", after := #[{ on := 5, ground := Ground.data }, { on := 3, ground := Ground.data }, { on := 6, ground := Ground.chain }, { on := 0, ground := Ground.phase }, { on := 1, ground := Ground.phase }, { on := 2, ground := Ground.phase }, { on := 3, ground := Ground.phase }, { on := 4, ground := Ground.phase }, { on := 5, ground := Ground.phase }, { on := 6, ground := Ground.phase }], guard := none }) rfl (fun K hK => ?_) AllReadyH.nil
              · skip
                refine stepStore ?_ (.tmp 6) (.tmp 10) ?_ m14 u2 v2 e2 e2 ?_ ?_ (j18.thereG _) ?_
                · rfl
                · rfl
                · rfl
                · rfl
                refine hK.out _ _ (B2.up (j18.fin u1 v1 u2 v2 e1 e1 e2 e2).2.2 HB0.out) (fun _ => ?_)
                clear hK K
                (try simp only [Act.put]); (try simp only [List.setIfInBounds_toArray]); (try simp only [List.set_cons_succ]); (try simp only [List.set_cons_zero])
                refine wpAnyH_done (by kernel_rfl) ?_ _
                refine NoPanic.normal ?_
                go_wp2_with fail
                go_meet
                case rel => exact ⟨m17, m14, rfl, rfl, (j18.fin u1 v1 u2 v2 e1 e1 e2 e2).1, (j18.fin u1 v1 u2 v2 e1 e1 e2 e2).2.1, (j18.fin u1 v1 u2 v2 e1 e1 e2 e2).2.2⟩
    · skip
      refine stepAlloc ?_ ?_ ?_
      · rfl
      · rfl
      intro m19 x19 hm19 hx19
      have j19 := (J2.start w0).nF hm19 hx19
      clear hm19 hx19
      refine hK.out _ _ (B2.up j19.1 HB0.out) (fun _ => ?_)
      clear hK K
      (try simp only [Act.put]); (try simp only [List.setIfInBounds_toArray]); (try simp only [List.set_cons_succ]); (try simp only [List.set_cons_zero])
      refine wpAnyH_ready (rs := [1, 5]) (by kernel_rfl) (by simp) ?_
      refine AllReadyH.cons (o := { dst := some 8, op := Op.call { callee := Callee.value (Operand.func 78), args := #[Operand.tmp 7], argTypes := #[67] }, type := 67, pos := "span.go:138", after := #[{ on := 0, ground := Ground.data }], guard := none }) rfl (fun K hK => ?_) (AllReadyH.cons (o := { dst := some 6, op := Op.alloc 67, type := 0, pos := "span.go:138", after := #[], guard := none }) rfl (fun K hK => ?_) AllReadyH.nil)
      · skip
        refine stepCall1 ?_ 78 (.tmp 7) #[67] ?_ (.agg #[.float .f64 a, .float .f64 b, .bool p, .bool q]) ?_ ?_ (enter_canonS _ _) ?_
        · rfl
        · rfl
        · rfl
        · rfl
        refine (HA.out _).mono ?_
        rintro o x20 ⟨rfl, b20⟩
        refine ⟨_, rfl, ?_⟩
        have j20 := j19.up b20
        refine hK.out _ _ (B2.up j20.1 HB0.out) (fun _ => ?_)
        clear hK K
        (try simp only [Act.put]); (try simp only [List.setIfInBounds_toArray]); (try simp only [List.set_cons_succ]); (try simp only [List.set_cons_zero])
        refine wpAnyH_ready (rs := [3, 5]) (by kernel_rfl) (by simp) ?_
        refine AllReadyH.cons (o := { dst := some 10, op := Op.call { callee := Callee.value (Operand.func 78), args := #[Operand.tmp 9], argTypes := #[67] }, type := 67, pos := "span.go:138", after := #[{ on := 2, ground := Ground.data }, { on := 1, ground := Ground.chain }], guard := none }) rfl (fun K hK => ?_) (AllReadyH.cons (o := { dst := some 6, op := Op.alloc 67, type := 0, pos := "span.go:138", after := #[], guard := none }) rfl (fun K hK => ?_) AllReadyH.nil)
        · skip
          refine stepCall1 ?_ 78 (.tmp 9) #[67] ?_ (.agg #[.float .f64 c, .float .f64 d, .bool r, .bool s]) ?_ ?_ (enter_canonS _ _) ?_
          · rfl
          · rfl
          · rfl
          · rfl
          refine (HB.out _).mono ?_
          rintro o x21 ⟨rfl, b21⟩
          refine ⟨_, rfl, ?_⟩
          have j21 := j20.up b21
          refine hK.out _ _ (B2.up j21.1 HB0.out) (fun _ => ?_)
          clear hK K
          (try simp only [Act.put]); (try simp only [List.setIfInBounds_toArray]); (try simp only [List.set_cons_succ]); (try simp only [List.set_cons_zero])
          refine wpAnyH_ready (rs := [5]) (by kernel_rfl) (by simp) ?_
          refine AllReadyH.cons (o := { dst := some 6, op := Op.alloc 67, type := 0, pos := "span.go:138", after := #[], guard := none }) rfl (fun K hK => ?_) AllReadyH.nil
          · skip
            refine stepAlloc ?_ ?_ ?_
            · rfl
            · rfl
            intro m22 x22 hm22 hx22
            have j22 := j21.nG hm22 hx22
            clear hm22 hx22
            refine hK.out _ _ (B2.up j22.1 HB0.out) (fun _ => ?_)
            clear hK K
            (try simp only [Act.put]); (try simp only [List.setIfInBounds_toArray]); (try simp only [List.set_cons_succ]); (try simp only [List.set_cons_zero])
            refine wpAnyH_ready (rs := [6]) (by kernel_rfl) (by simp) ?_
            refine AllReadyH.cons (o := { dst := none, op := Op.store 67 (Operand.tmp 5) (Operand.tmp 8), type := 0, pos := "span.go:138", after := #[{ on := 4, ground := Ground.data }, { on := 1, ground := Ground.data }, { on := 3, ground := Ground.chain }, { on := 0, ground := Ground.phase }, { on := 1, ground := Ground.phase }, { on := 2, ground := Ground.textOnly Departure.lateStores }, { on := 3, ground := Ground.textOnly Departure.lateStoresUnsure }, { on := 4, ground := Ground.phase }, { on := 5, ground := Ground.phase }], guard := none }) rfl (fun K hK => ?_) AllReadyH.nil
            · skip
              refine stepStore ?_ (.tmp 5) (.tmp 8) ?_ m19 u1 v1 e1 e1 ?_ ?_ j22.thereF ?_
              · rfl
              · rfl
              · rfl
              · rfl
              refine hK.out _ _ (B2.up (j22.upF _) HB0.out) (fun _ => ?_)
              clear hK K
              (try simp only [Act.put]); (try simp only [List.setIfInBounds_toArray]); (try simp only [List.set_cons_succ]); (try simp only [List.set_cons_zero])
              refine wpAnyH_ready (rs := [7]) (by kernel_rfl) (by simp) ?_
              refine AllReadyH.cons (o := { dst := none, op := Op.store 67 (Operand.tmp 6) (Operand.tmp 10), type := 0, pos := "span.go:138", after := #[{ on := 5, ground := Ground.data }, { on := 3, ground := Ground.data }, { on := 6, ground := Ground.chain }, { on := 0, ground := Ground.phase }, { on := 1, ground := Ground.phase }, { on := 2, ground := Ground.phase }, { on := 3, ground := Ground.phase }, { on := 4, ground := Ground.phase }, { on := 5, ground := Ground.phase }, { on := 6, ground := Ground.phase }], guard := none }) rfl (fun K hK => ?_) AllReadyH.nil
              · skip
                refine stepStore ?_ (.tmp 6) (.tmp 10) ?_ m22 u2 v2 e2 e2 ?_ ?_ (j22.thereG _) ?_
                · rfl
                · rfl
                · rfl
                · rfl
                refine hK.out _ _ (B2.up (j22.fin u1 v1 u2 v2 e1 e1 e2 e2).2.2 HB0.out) (fun _ => ?_)
                clear hK K
                (try simp only [Act.put]); (try simp only [List.setIfInBounds_toArray]); (try simp only [List.set_cons_succ]); (try simp only [List.set_cons_zero])
                refine wpAnyH_done (by kernel_rfl) ?_ _
                refine NoPanic.normal ?_
                go_wp2_with fail
                go_meet
                case rel => exact ⟨m19, m22, rfl, rfl, (j22.fin u1 v1 u2 v2 e1 e1 e2 e2).1, (j22.fin u1 v1 u2 v2 e1 e1 e2 e2).2.1, (j22.fin u1 v1 u2 v2 e1 e1 e2 e2).2.2⟩
        · skip
          refine stepAlloc ?_ ?_ ?_
          · rfl
          · rfl
          intro m23 x23 hm23 hx23
          have j23 := j20.nG hm23 hx23
          clear hm23 hx23
          refine hK.out _ _ (B2.up j23.1 HB0.out) (fun _ => ?_)
          clear hK K
          (try simp only [Act.put]); (try simp only [List.setIfInBounds_toArray]); (try simp only [List.set_cons_succ]); (try simp only [List.set_cons_zero])
          refine wpAnyH_ready (rs := [3]) (by kernel_rfl) (by simp) ?_
          refine AllReadyH.cons (o := { dst := some 10, op := Op.call { callee := Callee.value (Operand.func 78), args := #[Operand.tmp 9], argTypes := #[67] }, type := 67, pos := "span.go:138", after := #[{ on := 2, ground := Ground.data }, { on := 1, ground := Ground.chain }], guard := none }) rfl (fun K hK => ?_) AllReadyH.nil
          · skip
            refine stepCall1 ?_ 78 (.tmp 9) #[67] ?_ (.agg #[.float .f64 c, .float .f64 d, .bool r, .bool s]) ?_ ?_ (enter_canonS _ _) ?_
            · rfl
            · rfl
            · rfl
            · rfl
            refine (HB.out _).mono ?_
            rintro o x24 ⟨rfl, b24⟩
            refine ⟨_, rfl, ?_⟩
            have j24 := j23.up b24
            refine hK.out _ _ (B2.up j24.1 HB0.out) (fun _ => ?_)
            clear hK K
            (try simp only [Act.put]); (try simp only [List.setIfInBounds_toArray]); (try simp only [List.set_cons_succ]); (try simp only [List.set_cons_zero])
            refine wpAnyH_ready (rs := [6]) (by kernel_rfl) (by simp) ?_
            refine AllReadyH.cons (o := { dst := none, op := Op.store 67 (Operand.tmp 5) (Operand.tmp 8), type := 0, pos := "span.go:138", after := #[{ on := 4, ground := Ground.data }, { on := 1, ground := Ground.data }, { on := 3, ground := Ground.chain }, { on := 0, ground := Ground.phase }, { on := 1, ground := Ground.phase }, { on := 2, ground := Ground.textOnly Departure.lateStores }, { on := 3, ground := Ground.textOnly Departure.lateStoresUnsure }, { on := 4, ground := Ground.phase }, { on := 5, ground := Ground.phase }], guard := none }) rfl (fun K hK => ?_) AllReadyH.nil
            · skip
              refine stepStore ?_ (.tmp 5) (.tmp 8) ?_ m19 u1 v1 e1 e1 ?_ ?_ j24.thereF ?_
              · rfl
              · rfl
              · rfl
              · rfl
              refine hK.out _ _ (B2.up (j24.upF _) HB0.out) (fun _ => ?_)
              clear hK K
              (try simp only [Act.put]); (try simp only [List.setIfInBounds_toArray]); (try simp only [List.set_cons_succ]); (try simp only [List.set_cons_zero])
              refine wpAnyH_ready (rs := [7]) (by kernel_rfl) (by simp) ?_
              refine AllReadyH.cons (o := { dst := none, op := Op.store 67 (Operand.tmp 6) (Operand.tmp 10), type := 0, pos := "span.go:138", after := #[{ on := 5, ground := Ground.data }, { on := 3, ground := Ground.data }, { on := 6, ground := Ground.chain }, { on := 0, ground := Ground.phase }, { on := 1, ground := Ground.phase }, { on := 2, ground := Ground.phase }, { on := 3, ground := Ground.phase }, { on := 4, ground := Ground.phase }, { on := 5, ground := Ground.phase }, { on := 6, ground := Ground.phase }], guard := none }) rfl (fun K hK => ?_) AllReadyH.nil
              · skip
                refine stepStore ?_ (.tmp 6) (.tmp 10) ?_ m23 u2 v2 e2 e2 ?_ ?_ (j24.thereG _) ?_
                · rfl
                · rfl
                · rfl
                · rfl
                refine hK.out _ _ (B2.up (j24.fin u1 v1 u2 v2 e1 e1 e2 e2).2.2 HB0.out) (fun _ => ?_)
                clear hK K
                (try simp only [Act.put]); (try simp only [List.setIfInBounds_toArray]); (try simp only [List.set_cons_succ]); (try simp only [List.set_cons_zero])
                refine wpAnyH_done (by kernel_rfl) ?_ _
                refine NoPanic.normal ?_
                go_wp2_with fail
                go_meet
                case rel => exact ⟨m19, m23, rfl, rfl, (j24.fin u1 v1 u2 v2 e1 e1 e2 e2).1, (j24.fin u1 v1 u2 v2 e1 e1 e2 e2).2.1, (j24.fin u1 v1 u2 v2 e1 e1 e2 e2).2.2⟩
      · skip
        refine stepAlloc ?_ ?_ ?_
        · rfl
        · rfl
        intro m25 x25 hm25 hx25
        have j25 := j19.nG hm25 hx25
        clear hm25 hx25
        refine hK.out _ _ (B2.up j25.1 HB0.out) (fun _ => ?_)
        clear hK K
        (try simp only [Act.put]); (try simp only [List.setIfInBounds_toArray]); (try simp only [List.set_cons_succ]); (try simp only [List.set_cons_zero])
        refine wpAnyH_ready (rs := [1]) (by kernel_rfl) (by simp) ?_
        refine AllReadyH.cons (o := { dst := some 8, op := Op.call { callee := Callee.value (Operand.func 78), args := #[Operand.tmp 7], argTypes := #[67] }, type := 67, pos := "span.go:138", after := #[{ on := 0, ground := Ground.data }], guard := none }) rfl (fun K hK => ?_) AllReadyH.nil
        · skip
          refine stepCall1 ?_ 78 (.tmp 7) #[67] ?_ (.agg #[.float .f64 a, .float .f64 b, .bool p, .bool q]) ?_ ?_ (enter_canonS _ _) ?_
          · rfl
          · rfl
          · rfl
          · rfl
          refine (HA.out _).mono ?_
          rintro o x26 ⟨rfl, b26⟩
          refine ⟨_, rfl, ?_⟩
          have j26 := j25.up b26
          refine hK.out _ _ (B2.up j26.1 HB0.out) (fun _ => ?_)
          clear hK K
          (try simp only [Act.put]); (try simp only [List.setIfInBounds_toArray]); (try simp only [List.set_cons_succ]); (try simp only [List.set_cons_zero])
          refine wpAnyH_ready (rs := [3]) (by kernel_rfl) (by simp) ?_
          refine AllReadyH.cons (o := { dst := some 10, op := Op.call { callee := Callee.value (Operand.func 78), args := #[Operand.tmp 9], argTypes := #[67] }, type := 67, pos := "span.go:138", after := #[{ on := 2, ground := Ground.data }, { on := 1, ground := Ground.chain }], guard := none }) rfl (fun K hK => ?_) AllReadyH.nil
          · skip
            refine stepCall1 ?_ 78 (.tmp 9) #[67] ?_ (.agg #[.float .f64 c, .float .f64 d, .bool r, .bool s]) ?_ ?_ (enter_canonS _ _) ?_
            · rfl
            · rfl
            · rfl
            · rfl
            refine (HB.out _).mono ?_
            rintro o x27 ⟨rfl, b27⟩
            refine ⟨_, rfl, ?_⟩
            have j27 := j26.up b27
            refine hK.out _ _ (B2.up j27.1 HB0.out) (fun _ => ?_)
            clear hK K
            (try simp only [Act.put]); (try simp only [List.setIfInBounds_toArray]); (try simp only [List.set_cons_succ]); (try simp only [List.set_cons_zero])
            refine wpAnyH_ready (rs := [6]) (by kernel_rfl) (by simp) ?_
            refine AllReadyH.cons (o := { dst := none, op := Op.store 67 (Operand.tmp 5) (Operand.tmp 8), type := 0, pos := "span.go:138", after := #[{ on := 4, ground := Ground.data }, { on := 1, ground := Ground.data }, { on := 3, ground := Ground.chain }, { on := 0, ground := Ground.phase }, { on := 1, ground := Ground.phase }, { on := 2, ground := Ground.textOnly Departure.lateStores }, { on := 3, ground := Ground.textOnly Departure.lateStoresUnsure }, { on := 4, ground := Ground.phase }, { on := 5, ground := Ground.phase }], guard := none }) rfl (fun K hK => ?_) AllReadyH.nil
            · skip
              refine stepStore ?_ (.tmp 5) (.tmp 8) ?_ m19 u1 v1 e1 e1 ?_ ?_ j27.thereF ?_
              · rfl
              · rfl
              · rfl
              · rfl
              refine hK.out _ _ (B2.up (j27.upF _) HB0.out) (fun _ => ?_)
              clear hK K
              (try simp only [Act.put]); (try simp only [List.setIfInBounds_toArray]); (try simp only [List.set_cons_succ]); (try simp only [List.set_cons_zero])
              refine wpAnyH_ready (rs := [7]) (by kernel_rfl) (by simp) ?_
              refine AllReadyH.cons (o := { dst := none, op := Op.store 67 (Operand.tmp 6) (Operand.tmp 10), type := 0, pos := "span.go:138", after := #[{ on := 5, ground := Ground.data }, { on := 3, ground := Ground.data }, { on := 6, ground := Ground.chain }, { on := 0, ground := Ground.phase }, { on := 1, ground := Ground.phase }, { on := 2, ground := Ground.phase }, { on := 3, ground := Ground.phase }, { on := 4, ground := Ground.phase }, { on := 5, ground := Ground.phase }, { on := 6, ground := Ground.phase }], guard := none }) rfl (fun K hK => ?_) AllReadyH.nil
              · skip
                refine stepStore ?_ (.tmp 6) (.tmp 10) ?_ m25 u2 v2 e2 e2 ?_ ?_ (j27.thereG _) ?_
                · rfl
                · rfl
                · rfl
                · rfl
                refine hK.out _ _ (B2.up (j27.fin u1 v1 u2 v2 e1 e1 e2 e2).2.2 HB0.out) (fun _ => ?_)
                clear hK K
                (try simp only [Act.put]); (try simp only [List.setIfInBounds_toArray]); (try simp only [List.set_cons_succ]); (try simp only [List.set_cons_zero])
                refine wpAnyH_done (by kernel_rfl) ?_ _
                refine NoPanic.normal ?_
                go_wp2_with fail
                go_meet
                case rel => exact ⟨m19, m25, rfl, rfl, (j27.fin u1 v1 u2 v2 e1 e1 e2 e2).1, (j27.fin u1 v1 u2 v2 e1 e1 e2 e2).2.1, (j27.fin u1 v1 u2 v2 e1 e1 e2 e2).2.2⟩
    · skip
      refine stepAlloc ?_ ?_ ?_
      · rfl
      · rfl
      intro m28 x28 hm28 hx28
      have j28 := (J2.start w0).nG hm28 hx28
      clear hm28 hx28
      refine hK.out _ _ (B2.up j28.1 HB0.out) (fun _ => ?_)
      clear hK K
      (try simp only [Act.put]); (try simp only [List.setIfInBounds_toArray]); (try simp only [List.set_cons_succ]); (try simp only [List.set_cons_zero])
      refine wpAnyH_ready (rs := [1, 4]) (by kernel_rfl) (by simp) ?_
      refine AllReadyH.cons (o := { dst := some 8, op := Op.call { callee := Callee.value (Operand.func 78), args := #[Operand.tmp 7], argTypes := #[67] }, type := 67, pos := "span.go:138", after := #[{ on := 0, ground := Ground.data }], guard := none }) rfl (fun K hK => ?_) (AllReadyH.cons (o := { dst := some 5, op := Op.alloc 67, type := 0, pos := "span.go:138", after := #[], guard := none }) rfl (fun K hK => ?_) AllReadyH.nil)
      · skip
        refine stepCall1 ?_ 78 (.tmp 7) #[67] ?_ (.agg #[.float .f64 a, .float .f64 b, .bool p, .bool q]) ?_ ?_ (enter_canonS _ _) ?_
        · rfl
        · rfl
        · rfl
        · rfl
        refine (HA.out _).mono ?_
        rintro o x29 ⟨rfl, b29⟩
        refine ⟨_, rfl, ?_⟩
        have j29 := j28.up b29
        refine hK.out _ _ (B2.up j29.1 HB0.out) (fun _ => ?_)
        clear hK K
        (try simp only [Act.put]); (try simp only [List.setIfInBounds_toArray]); (try simp only [List.set_cons_succ]); (try simp only [List.set_cons_zero])
        refine wpAnyH_ready (rs := [3, 4]) (by kernel_rfl) (by simp) ?_
        refine AllReadyH.cons (o := { dst := some 10, op := Op.call { callee := Callee.value (Operand.func 78), args := #[Operand.tmp 9], argTypes := #[67] }, type := 67, pos := "span.go:138", after := #[{ on := 2, ground := Ground.data }, { on := 1, ground := Ground.chain }], guard := none }) rfl (fun K hK => ?_) (AllReadyH.cons (o := { dst := some 5, op := Op.alloc 67, type := 0, pos := "span.go:138", after := #[], guard := none }) rfl (fun K hK => ?_) AllReadyH.nil)
        · skip
          refine stepCall1 ?_ 78 (.tmp 9) #[67] ?_ (.agg #[.float .f64 c, .float .f64 d, .bool r, .bool s]) ?_ ?_ (enter_canonS _ _) ?_
          · rfl
          · rfl
          · rfl
          · rfl
          refine (HB.out _).mono ?_
          rintro o x30 ⟨rfl, b30⟩
          refine ⟨_, rfl, ?_⟩
          have j30 := j29.up b30
          refine hK.out _ _ (B2.up j30.1 HB0.out) (fun _ => ?_)
          clear hK K
          (try simp only [Act.put]); (try simp only [List.setIfInBounds_toArray]); (try simp only [List.set_cons_succ]); (try simp only [List.set_cons_zero])
          refine wpAnyH_ready (rs := [4]) (by kernel_rfl) (by simp) ?_
          refine AllReadyH.cons (o := { dst := some 5, op := Op.alloc 67, type := 0, pos := "span.go:138", after := #[], guard := none }) rfl (fun K hK => ?_) AllReadyH.nil
          · skip
            refine stepAlloc ?_ ?_ ?_
            · rfl
            · rfl
            intro m31 x31 hm31 hx31
            have j31 := j30.nF hm31 hx31
            clear hm31 hx31
            refine hK.out _ _ (B2.up j31.1 HB0.out) (fun _ => ?_)
            clear hK K
            (try simp only [Act.put]); (try simp only [List.setIfInBounds_toArray]); (try simp only [List.set_cons_succ]); (try simp only [List.set_cons_zero])
            refine wpAnyH_ready (rs := [6]) (by kernel_rfl) (by simp) ?_
            refine AllReadyH.cons (o := { dst := none, op := Op.store 67 (Operand.tmp 5) (Operand.tmp 8), type := 0, pos := "span.go:138", after := #[{ on := 4, ground := Ground.data }, { on := 1, ground := Ground.data }, { on := 3, ground := Ground.chain }, { on := 0, ground := Ground.phase }, { on := 1, ground := Ground.phase }, { on := 2, ground := Ground.textOnly Departure.lateStores }, { on := 3, ground := Ground.textOnly Departure.lateStoresUnsure }, { on := 4, ground := Ground.phase }, { on := 5, ground := Ground.phase }], guard := none }) rfl (fun K hK => ?_) AllReadyH.nil
            · skip
              refine stepStore ?_ (.tmp 5) (.tmp 8) ?_ m31 u1 v1 e1 e1 ?_ ?_ j31.thereF ?_
              · rfl
              · rfl
              · rfl
              · rfl
              refine hK.out _ _ (B2.up (j31.upF _) HB0.out) (fun _ => ?_)
              clear hK K
              (try simp only [Act.put]); (try simp only [List.setIfInBounds_toArray]); (try simp only [List.set_cons_succ]); (try simp only [List.set_cons_zero])
              refine wpAnyH_ready (rs := [7]) (by kernel_rfl) (by simp) ?_
              refine AllReadyH.cons (o := { dst := none, op := Op.store 67 (Operand.tmp 6) (Operand.tmp 10), type := 0, pos := "span.go:138", after := #[{ on := 5, ground := Ground.data }, { on := 3, ground := Ground.data }, { on := 6, ground := Ground.chain }, { on := 0, ground := Ground.phase }, { on := 1, ground := Ground.phase }, { on := 2, ground := Ground.phase }, { on := 3, ground := Ground.phase }, { on := 4, ground := Ground.phase }, { on := 5, ground := Ground.phase }, { on := 6, ground := Ground.phase }], guard := none }) rfl (fun K hK => ?_) AllReadyH.nil
              · skip
                refine stepStore ?_ (.tmp 6) (.tmp 10) ?_ m28 u2 v2 e2 e2 ?_ ?_ (j31.thereG _) ?_
                · rfl
                · rfl
                · rfl
                · rfl
                refine hK.out _ _ (B2.up (j31.fin u1 v1 u2 v2 e1 e1 e2 e2).2.2 HB0.out) (fun _ => ?_)
                clear hK K
                (try simp only [Act.put]); (try simp only [List.setIfInBounds_toArray]); (try simp only [List.set_cons_succ]); (try simp only [List.set_cons_zero])
                refine wpAnyH_done (by kernel_rfl) ?_ _
                refine NoPanic.normal ?_
                go_wp2_with fail
                go_meet
                case rel => exact ⟨m31, m28, rfl, rfl, (j31.fin u1 v1 u2 v2 e1 e1 e2 e2).1, (j31.fin u1 v1 u2 v2 e1 e1 e2 e2).2.1, (j31.fin u1 v1 u2 v2 e1 e1 e2 e2).2.2⟩
        · skip
          refine stepAlloc ?_ ?_ ?_
          · rfl
          · rfl
          intro m32 x32 hm32 hx32
          have j32 := j29.nF hm32 hx32
          clear hm32 hx32
          refine hK.out _ _ (B2.up j32.1 HB0.out) (fun _ => ?_)
          clear hK K
          (try simp only [Act.put]); (try simp only [List.setIfInBounds_toArray]); (try simp only [List.set_cons_succ]); (try simp only [List.set_cons_zero])
          refine wpAnyH_ready (rs := [3]) (by kernel_rfl) (by simp) ?_
          refine AllReadyH.cons (o := { dst := some 10, op := Op.call { callee := Callee.value (Operand.func 78), args := #[Operand.tmp 9], argTypes := #[67] }, type := 67, pos := "span.go:138", after := #[{ on := 2, ground := Ground.data }, { on := 1, ground := Ground.chain }], guard := none }) rfl (fun K hK => ?_) AllReadyH.nil
          · skip
            refine stepCall1 ?_ 78 (.tmp 9) #[67] ?_ (.agg #[.float .f64 c, .float .f64 d, .bool r, .bool s]) ?_ ?_ (enter_canonS _ _) ?_
            · rfl
            · rfl
            · rfl
            · rfl
            refine (HB.out _).mono ?_
            rintro o x33 ⟨rfl, b33⟩
            refine ⟨_, rfl, ?_⟩
            have j33 := j32.up b33
            refine hK.out _ _ (B2.up j33.1 HB0.out) (fun _ => ?_)
            clear hK K
            (try simp only [Act.put]); (try simp only [List.setIfInBounds_toArray]); (try simp only [List.set_cons_succ]); (try simp only [List.set_cons_zero])
            refine wpAnyH_ready (rs := [6]) (by kernel_rfl) (by simp) ?_
            refine AllReadyH.cons (o := { dst := none, op := Op.store 67 (Operand.tmp 5) (Operand.tmp 8), type := 0, pos := "span.go:138", after := #[{ on := 4, ground := Ground.data }, { on := 1, ground := Ground.data }, { on := 3, ground := Ground.chain }, { on := 0, ground := Ground.phase }, { on := 1, ground := Ground.phase }, { on := 2, ground := Ground.textOnly Departure.lateStores }, { on := 3, ground := Ground.textOnly Departure.lateStoresUnsure }, { on := 4, ground := Ground.phase }, { on := 5, ground := Ground.phase }], guard := none }) rfl (fun K hK => ?_) AllReadyH.nil
            · skip
              refine stepStore ?_ (.tmp 5) (.tmp 8) ?_ m32 u1 v1 e1 e1 ?_ ?_ j33.thereF ?_
              · rfl
              · rfl
              · rfl
              · rfl
              refine hK.out _ _ (B2.up (j33.upF _) HB0.out) (fun _ => ?_)
              clear hK K
              (try simp only [Act.put]); (try simp only [List.setIfInBounds_toArray]); (try simp only [List.set_cons_succ]); (try simp only [List.set_cons_zero])
              refine wpAnyH_ready (rs := [7]) (by kernel_rfl) (by simp) ?_
              refine AllReadyH.cons (o := { dst := none, op := Op.store 67 (Operand.tmp 6) (Operand.tmp 10), type := 0, pos := "span.go:138", after := #[{ on := 5, ground := Ground.data }, { on := 3, ground := Ground.data }, { on := 6, ground := Ground.chain }, { on := 0, ground := Ground.phase }, { on := 1, ground := Ground.phase }, { on := 2, ground := Ground.phase }, { on := 3, ground := Ground.phase }, { on := 4, ground := Ground.phase }, { on := 5, ground := Ground.phase }, { on := 6, ground := Ground.phase }], guard := none }) rfl (fun K hK => ?_) AllReadyH.nil
              · skip
                refine stepStore ?_ (.tmp 6) (.tmp 10) ?_ m28 u2 v2 e2 e2 ?_ ?_ (j33.thereG _) ?_
                · rfl
                · rfl
                · rfl
                · rfl
                refine hK.out _ _ (B2.up (j33.fin u1 v1 u2 v2 e1 e1 e2 e2).2.2 HB0.out) (fun _ => ?_)
                clear hK K
                (try simp only [Act.put]); (try simp only [List.setIfInBounds_toArray]); (try simp only [List.set_cons_succ]); (try simp only [List.set_cons_zero])
                refine wpAnyH_done (by kernel_rfl) ?_ _
                refine NoPanic.normal ?_
                go_wp2_with fail
                go_meet
                case rel => exact ⟨m32, m28, rfl, rfl, (j33.fin u1 v1 u2 v2 e1 e1 e2 e2).1, (j33.fin u1 v1 u2 v2 e1 e1 e2 e2).2.1, (j33.fin u1 v1 u2 v2 e1 e1 e2 e2).2.2⟩
      · skip
        refine stepAlloc ?_ ?_ ?_
        · rfl
        · rfl
        intro m34 x34 hm34 hx34
        have j34 := j28.nF hm34 hx34
        clear hm34 hx34
        refine hK.out _ _ (B2.up j34.1 HB0.out) (fun _ => ?_)
        clear hK K
        (try simp only [Act.put]); (try simp only [List.setIfInBounds_toArray]); (try simp only [List.set_cons_succ]); (try simp only [List.set_cons_zero])
        refine wpAnyH_ready (rs := [1]) (by kernel_rfl) (by simp) ?_
        refine AllReadyH.cons (o := { dst := some 8, op := Op.call { callee := Callee.value (Operand.func 78), args := #[Operand.tmp 7], argTypes := #[67] }, type := 67, pos := "span.go:138", after := #[{ on := 0, ground := Ground.data }], guard := none }) rfl (fun K hK => ?_) AllReadyH.nil
        · skip
          refine stepCall1 ?_ 78 (.tmp 7) #[67] ?_ (.agg #[.float .f64 a, .float .f64 b, .bool p, .bool q]) ?_ ?_ (enter_canonS _ _) ?_
          · rfl
          · rfl
          · rfl
          · rfl
          refine (HA.out _).mono ?_
          rintro o x35 ⟨rfl, b35⟩
          refine ⟨_, rfl, ?_⟩
          have j35 := j34.up b35
          refine hK.out _ _ (B2.up j35.1 HB0.out) (fun _ => ?_)
          clear hK K
          (try simp only [Act.put]); (try simp only [List.setIfInBounds_toArray]); (try simp only [List.set_cons_succ]); (try simp only [List.set_cons_zero])
          refine wpAnyH_ready (rs := [3]) (by kernel_rfl) (by simp) ?_
          refine AllReadyH.cons (o := { dst := some 10, op := Op.call { callee := Callee.value (Operand.func 78), args := #[Operand.tmp 9], argTypes := #[67] }, type := 67, pos := "span.go:138", after := #[{ on := 2, ground := Ground.data }, { on := 1, ground := Ground.chain }], guard := none }) rfl (fun K hK => ?_) AllReadyH.nil
          · skip
            refine stepCall1 ?_ 78 (.tmp 9) #[67] ?_ (.agg #[.float .f64 c, .float .f64 d, .bool r, .bool s]) ?_ ?_ (enter_canonS _ _) ?_
            · rfl
            · rfl
            · rfl
            · rfl
            refine (HB.out _).mono ?_
            rintro o x36 ⟨rfl, b36⟩
            refine ⟨_, rfl, ?_⟩
            have j36 := j35.up b36
            refine hK.out _ _ (B2.up j36.1 HB0.out) (fun _ => ?_)
            clear hK K
            (try simp only [Act.put]); (try simp only [List.setIfInBounds_toArray]); (try simp only [List.set_cons_succ]); (try simp only [List.set_cons_zero])
            refine wpAnyH_ready (rs := [6]) (by kernel_rfl) (by simp) ?_
            refine AllReadyH.cons (o := { dst := none, op := Op.store 67 (Operand.tmp 5) (Operand.tmp 8), type := 0, pos := "span.go:138", after := #[{ on := 4, ground := Ground.data }, { on := 1, ground := Ground.data }, { on := 3, ground := Ground.chain }, { on := 0, ground := Ground.phase }, { on := 1, ground := Ground.phase }, { on := 2, ground := Ground.textOnly Departure.lateStores }, { on := 3, ground := Ground.textOnly Departure.lateStoresUnsure }, { on := 4, ground := Ground.phase }, { on := 5, ground := Ground.phase }], guard := none }) rfl (fun K hK => ?_) AllReadyH.nil
            · skip
              refine stepStore ?_ (.tmp 5) (.tmp 8) ?_ m34 u1 v1 e1 e1 ?_ ?_ j36.thereF ?_
              · rfl
              · rfl
              · rfl
              · rfl
              refine hK.out _ _ (B2.up (j36.upF _) HB0.out) (fun _ => ?_)
              clear hK K
              (try simp only [Act.put]); (try simp only [List.setIfInBounds_toArray]); (try simp only [List.set_cons_succ]); (try simp only [List.set_cons_zero])
              refine wpAnyH_ready (rs := [7]) (by kernel_rfl) (by simp) ?_
              refine AllReadyH.cons (o := { dst := none, op := Op.store 67 (Operand.tmp 6) (Operand.tmp 10), type := 0, pos := "span.go:138", after := #[{ on := 5, ground := Ground.data }, { on := 3, ground := Ground.data }, { on := 6, ground := Ground.chain }, { on := 0, ground := Ground.phase }, { on := 1, ground := Ground.phase }, { on := 2, ground := Ground.phase }, { on := 3, ground := Ground.phase }, { on := 4, ground := Ground.phase }, { on := 5, ground := Ground.phase }, { on := 6, ground := Ground.phase }], guard := none }) rfl (fun K hK => ?_) AllReadyH.nil
              · skip
                refine stepStore ?_ (.tmp 6) (.tmp 10) ?_ m28 u2 v2 e2 e2 ?_ ?_ (j36.thereG _) ?_
                · rfl
                · rfl
                · rfl
                · rfl
                refine hK.out _ _ (B2.up (j36.fin u1 v1 u2 v2 e1 e1 e2 e2).2.2 HB0.out) (fun _ => ?_)
                clear hK K
                (try simp only [Act.put]); (try simp only [List.setIfInBounds_toArray]); (try simp only [List.set_cons_succ]); (try simp only [List.set_cons_zero])
                refine wpAnyH_done (by kernel_rfl) ?_ _
                refine NoPanic.normal ?_
                go_wp2_with fail
                go_meet
                case rel => exact ⟨m34, m28, rfl, rfl, (j36.fin u1 v1 u2 v2 e1 e1 e2 e2).1, (j36.fin u1 v1 u2 v2 e1 e1 e2 e2).2.1, (j36.fin u1 v1 u2 v2 e1 e1 e2 e2).2.2⟩
  case rest =>
    obtain ⟨m, n, rfl, rfl, sm, sn, U1⟩ := hcut
    have UW : Up w wc := U0.trans U1
    have hT0 : T2 m u1 v1 e1 n u2 v2 e2 wc := ⟨sm, sn⟩
    clear HB0 HA HB U0 U1
    obtain ⟨R1, R2, R3, R4⟩ := hR.out
    clear hR
    cases e1
    · cases e2
      · clear h1 h2 R1 R2 R3
        cases q1
        · clear R4
          go_wp2_with fail
          go_region_held3 (T2 m u1 v1 false n u2 v2 false) (first | assumption | (refine T2.up ?_ hT0; (repeat (first | exact Up.refl _ | assumption | refine Up.drew ?_ | refine Up.alloc ?_ _ | refine Up.trans ?_ ‹Up _ _›)); done)) (first | (go_at_call 79; refine (none_any _).mono ?_; rintro o w5 ⟨rfl, hb5⟩))
          have hT5 : T2 m u1 v1 false n u2 v2 false w5 := by assumption
          go_wp2_with fail
          go_region_held3 (T2 m u1 v1 false n u2 v2 false) (first | assumption | (refine T2.up ?_ hT5; (repeat (first | exact Up.refl _ | assumption | refine Up.drew ?_ | refine Up.alloc ?_ _ | refine Up.trans ?_ ‹Up _ _›)); done)) (first | (go_at_call 79; refine (none_any _).mono ?_; rintro o w6 ⟨rfl, hb6⟩))
          have hT6 : T2 m u1 v1 false n u2 v2 false w6 := by assumption
          have UW6 : Up w w6 := (by repeat (first | exact Up.refl _ | assumption | refine Up.drew ?_ | refine Up.drewN ?_ _ | refine Up.alloc ?_ _ | refine Up.setCell ?_ ?_ _ | exact Nat.le_refl _ | exact Nat.le_add_right _ _ | (dsimp only; omega) | refine Up.trans ?_ ‹Up _ _›))
          go_wp2_with fail
          refine wp_region_noPanic ?_
          refine wp_region_held_drew (S := T2 m u1 v1 false n u2 v2 false) (by kernel_rfl) ?_ (fun hHeld => ?_)
          · exact T2.up ((Up.refl _).drew) hT6
          (try simp only [Act.put]); (try simp only [List.setIfInBounds_toArray]); (try simp only [List.set_cons_succ]); (try simp only [List.set_cons_zero])
          clear hHeld
          refine wpAnyH_take (i := 0) (oi := { dst := some 23, op := Op.fieldAddr 67 (Operand.tmp 5) 0, type := 0, pos := "span.go:147", after := #[], guard := none }) (v := ?vk37) rfl (by kernel_rfl) (by kernel_rfl) (by kernel_rfl) (fun _ _ _ h => h) (Or.inl ⟨by rfl, ?hk37⟩) (T2.up ((Up.refl w6).drew) hT6) ?rk37
          case hk37 => (intro wz hSw; (try dsimp only at hSw); go_simp; try with_reducible rfl)
          (try simp only [Act.put]); (try simp only [List.setIfInBounds_toArray]); (try simp only [List.set_cons_succ]); (try simp only [List.set_cons_zero])
          refine wpAnyH_take (i := 1) (oi := { dst := some 24, op := Op.load 43 (Operand.tmp 23), type := 43, pos := "span.go:147", after := #[{ on := 0, ground := Ground.data }], guard := none }) (v := ?vk38) rfl (by kernel_rfl) (by kernel_rfl) (by kernel_rfl) (fun _ _ _ h => h) (Or.inl ⟨by rfl, ?hk38⟩) (T2.up ((Up.refl w6).drew) hT6) ?rk38
          case hk38 => (intro wz hSw; (try dsimp only at hSw); go_simp; try with_reducible rfl)
          (try simp only [Act.put]); (try simp only [List.setIfInBounds_toArray]); (try simp only [List.set_cons_succ]); (try simp only [List.set_cons_zero])
          refine wpAnyH_take (i := 2) (oi := { dst := some 25, op := Op.fieldAddr 67 (Operand.tmp 6) 0, type := 0, pos := "span.go:147", after := #[], guard := none }) (v := ?vk39) rfl (by kernel_rfl) (by kernel_rfl) (by kernel_rfl) (fun _ _ _ h => h) (Or.inl ⟨by rfl, ?hk39⟩) (T2.up ((Up.refl w6).drew) hT6) ?rk39
          case hk39 => (intro wz hSw; (try dsimp only at hSw); go_simp; try with_reducible rfl)
          (try simp only [Act.put]); (try simp only [List.setIfInBounds_toArray]); (try simp only [List.set_cons_succ]); (try simp only [List.set_cons_zero])
          refine wpAnyH_take (i := 3) (oi := { dst := some 26, op := Op.load 43 (Operand.tmp 25), type := 43, pos := "span.go:147", after := #[{ on := 2, ground := Ground.data }], guard := none }) (v := ?vk40) rfl (by kernel_rfl) (by kernel_rfl) (by kernel_rfl) (fun _ _ _ h => h) (Or.inl ⟨by rfl, ?hk40⟩) (T2.up ((Up.refl w6).drew) hT6) ?rk40
          case hk40 => (intro wz hSw; (try dsimp only at hSw); go_simp; try with_reducible rfl)
          (try simp only [Act.put]); (try simp only [List.setIfInBounds_toArray]); (try simp only [List.set_cons_succ]); (try simp only [List.set_cons_zero])
          refine wpAnyH_take (i := 5) (oi := { dst := some 28, op := Op.fieldAddr 67 (Operand.tmp 5) 1, type := 0, pos := "span.go:147", after := #[], guard := none }) (v := ?vk41) rfl (by kernel_rfl) (by kernel_rfl) (by kernel_rfl) (fun _ _ _ h => h) (Or.inl ⟨by rfl, ?hk41⟩) (T2.up ((Up.refl w6).drew) hT6) ?rk41
          case hk41 => (intro wz hSw; (try dsimp only at hSw); go_simp; try with_reducible rfl)
          (try simp only [Act.put]); (try simp only [List.setIfInBounds_toArray]); (try simp only [List.set_cons_succ]); (try simp only [List.set_cons_zero])
          refine wpAnyH_take (i := 6) (oi := { dst := some 29, op := Op.load 43 (Operand.tmp 28), type := 43, pos := "span.go:147", after := #[{ on := 5, ground := Ground.data }], guard := none }) (v := ?vk42) rfl (by kernel_rfl) (by kernel_rfl) (by kernel_rfl) (fun _ _ _ h => h) (Or.inl ⟨by rfl, ?hk42⟩) (T2.up ((Up.refl w6).drew) hT6) ?rk42
          case hk42 => (intro wz hSw; (try dsimp only at hSw); go_simp; try with_reducible rfl)
          (try simp only [Act.put]); (try simp only [List.setIfInBounds_toArray]); (try simp only [List.set_cons_succ]); (try simp only [List.set_cons_zero])
          refine wpAnyH_take (i := 7) (oi := { dst := some 30, op := Op.fieldAddr 67 (Operand.tmp 6) 1, type := 0, pos := "span.go:147", after := #[], guard := none }) (v := ?vk43) rfl (by kernel_rfl) (by kernel_rfl) (by kernel_rfl) (fun _ _ _ h => h) (Or.inl ⟨by rfl, ?hk43⟩) (T2.up ((Up.refl w6).drew) hT6) ?rk43
          case hk43 => (intro wz hSw; (try dsimp only at hSw); go_simp; try with_reducible rfl)
          (try simp only [Act.put]); (try simp only [List.setIfInBounds_toArray]); (try simp only [List.set_cons_succ]); (try simp only [List.set_cons_zero])
          refine wpAnyH_take (i := 8) (oi := { dst := some 31, op := Op.load 43 (Operand.tmp 30), type := 43, pos := "span.go:147", after := #[{ on := 7, ground := Ground.data }], guard := none }) (v := ?vk44) rfl (by kernel_rfl) (by kernel_rfl) (by kernel_rfl) (fun _ _ _ h => h) (Or.inl ⟨by rfl, ?hk44⟩) (T2.up ((Up.refl w6).drew) hT6) ?rk44
          case hk44 => (intro wz hSw; (try dsimp only at hSw); go_simp; try with_reducible rfl)
          (try simp only [Act.put]); (try simp only [List.setIfInBounds_toArray]); (try simp only [List.set_cons_succ]); (try simp only [List.set_cons_zero])
          refine wpAnyH_ready (rs := [4]) (by kernel_rfl) (by simp) ?_
          refine AllReadyH.cons (o := { dst := some 27, op := Op.call { callee := Callee.value (Operand.func 100), args := #[Operand.tmp 24, Operand.tmp 26], argTypes := #[43, 43] }, type := 3, pos := "span.go:147", after := #[{ on := 1, ground := Ground.data }, { on := 3, ground := Ground.data }], guard := none }) rfl (fun K hK => ?_) AllReadyH.nil
          · skip
            refine wantCall2 ?_ 100 (.tmp 24) (.tmp 26) #[43, 43] ?_ (.float .f64 u1) (.float .f64 u2) ?_ ?_ ?_ (ent_fcmp _ _) ?_
            · rfl
            · rfl
            · rfl
            · rfl
            · rfl
            refine (HX.out _).mono ?_
            rintro o y45 ⟨rfl, rfl⟩
            refine ⟨_, rfl, ?_⟩
            refine hK.out _ _ (T2.up ((Up.refl w6).drew) hT6) (fun _ => ?_)
            clear hK K
            (try simp only [Act.put]); (try simp only [List.setIfInBounds_toArray]); (try simp only [List.set_cons_succ]); (try simp only [List.set_cons_zero])
            refine wpAnyH_ready (rs := [9]) (by kernel_rfl) (by simp) ?_
            refine AllReadyH.cons (o := { dst := some 32, op := Op.call { callee := Callee.value (Operand.func 100), args := #[Operand.tmp 29, Operand.tmp 31], argTypes := #[43, 43] }, type := 3, pos := "span.go:147", after := #[{ on := 6, ground := Ground.data }, { on := 8, ground := Ground.data }, { on := 4, ground := Ground.chain }], guard := none }) rfl (fun K hK => ?_) AllReadyH.nil
            · skip
              refine wantCall2 ?_ 100 (.tmp 29) (.tmp 31) #[43, 43] ?_ (.float .f64 v1) (.float .f64 v2) ?_ ?_ ?_ (ent_fcmp _ _) ?_
              · rfl
              · rfl
              · rfl
              · rfl
              · rfl
              refine (HY.out _).mono ?_
              rintro o y46 ⟨rfl, rfl⟩
              refine ⟨_, rfl, ?_⟩
              refine hK.out _ _ (T2.up ((Up.refl w6).drew) hT6) (fun _ => ?_)
              clear hK K
              (try simp only [Act.put]); (try simp only [List.setIfInBounds_toArray]); (try simp only [List.set_cons_succ]); (try simp only [List.set_cons_zero])
              refine wpAnyH_ready (rs := [10]) (by kernel_rfl) (by simp) ?_
              refine AllReadyH.cons (o := { dst := some 33, op := Op.buildSlice 81 2 #[(0, Operand.tmp 27), (1, Operand.tmp 32)], type := 81, pos := "span.go:147", after := #[{ on := 4, ground := Ground.data }, { on := 9, ground := Ground.data }], guard := none }) rfl (fun K hK => ?_) AllReadyH.nil
              · skip
                refine stepBuild2i ?_ (.tmp 27) (.tmp 32) ?_ x y ?_ ?_ ?_
                · rfl
                · rfl
                · rfl
                · rfl
                intro m47 x47 hm47 hx47
                obtain ⟨r0, r1, b47⟩ := R2i_new (u := x) (v := y) hm47 hx47
                clear hm47 hx47
                have U47 := ((Up.refl w6).drew).trans b47
                refine hK.out _ _ (T2.up U47 hT6) (fun _ => ?_)
                clear hK K
                (try simp only [Act.put]); (try simp only [List.setIfInBounds_toArray]); (try simp only [List.set_cons_succ]); (try simp only [List.set_cons_zero])
                refine wpAnyH_ready (rs := [11]) (by kernel_rfl) (by simp) ?_
                refine AllReadyH.cons (o := { dst := some 34, op := Op.call { callee := Callee.value (Operand.func 132), args := #[Operand.tmp 33], argTypes := #[81] }, type := 3, pos := "span.go:147", after := #[{ on := 10, ground := Ground.data }, { on := 9, ground := Ground.chain }], guard := none }) rfl (fun K hK => ?_) AllReadyH.nil
                · skip
                  refine wantCall1 ?_ 132 (.tmp 33) #[81] ?_ (.slice (some ⟨m47, 0, none⟩) 2 2) ?_ ?_ (ent_or _ _) ?_
                  · rfl
                  · rfl
                  · rfl
                  · rfl
                  refine (HOr.out rfl _ _ _ r0 r1).mono ?_
                  rintro o y48 ⟨rfl, rfl⟩
                  refine ⟨_, rfl, ?_⟩
                  refine hK.out _ _ (T2.up U47 hT6) (fun _ => ?_)
                  clear hK K
                  (try simp only [Act.put]); (try simp only [List.setIfInBounds_toArray]); (try simp only [List.set_cons_succ]); (try simp only [List.set_cons_zero])
                  refine wpAnyH_ready (rs := [12]) (by kernel_rfl) (by simp) ?_
                  refine AllReadyH.cons (o := { dst := some 4, op := Op.assign (Operand.tmp 34), type := 3, pos := "span.go:147", after := #[{ on := 11, ground := Ground.data }, { on := 11, ground := Ground.chain }, { on := 0, ground := Ground.phase }, { on := 1, ground := Ground.phase }, { on := 2, ground := Ground.phase }, { on := 3, ground := Ground.phase }, { on := 4, ground := Ground.phase }, { on := 5, ground := Ground.phase }, { on := 6, ground := Ground.phase }, { on := 7, ground := Ground.phase }, { on := 8, ground := Ground.phase }, { on := 9, ground := Ground.phase }, { on := 10, ground := Ground.phase }, { on := 11, ground := Ground.phase }], guard := none }) rfl (fun K hK => ?_) AllReadyH.nil
                  · skip
                    go_simp
                    refine hK.out _ _ (T2.up U47 hT6) (fun _ => ?_)
                    clear hK K
                    (try simp only [Act.put]); (try simp only [List.setIfInBounds_toArray]); (try simp only [List.set_cons_succ]); (try simp only [List.set_cons_zero])
                    refine wpAnyH_done (by kernel_rfl) ?_ _
                    refine NoPanic.normal ?_
                    go_wp2
                    go_ret
                    exact ⟨rfl, UW6.trans U47⟩
        · cases q2
          · clear R4
            go_wp2_with fail
            go_region_held3 (T2 m u1 v1 false n u2 v2 false) (first | assumption | (refine T2.up ?_ hT0; (repeat (first | exact Up.refl _ | assumption | refine Up.drew ?_ | refine Up.alloc ?_ _ | refine Up.trans ?_ ‹Up _ _›)); done)) (first | (go_at_call 79; refine (none_any _).mono ?_; rintro o w5 ⟨rfl, hb5⟩))
            have hT5 : T2 m u1 v1 false n u2 v2 false w5 := by assumption
            go_wp2_with fail
            go_region_held3 (T2 m u1 v1 false n u2 v2 false) (first | assumption | (refine T2.up ?_ hT5; (repeat (first | exact Up.refl _ | assumption | refine Up.drew ?_ | refine Up.alloc ?_ _ | refine Up.trans ?_ ‹Up _ _›)); done)) (first | (go_at_call 79; refine (none_any _).mono ?_; rintro o w6 ⟨rfl, hb6⟩))
            have hT6 : T2 m u1 v1 false n u2 v2 false w6 := by assumption
            have UW6 : Up w w6 := (by repeat (first | exact Up.refl _ | assumption | refine Up.drew ?_ | refine Up.drewN ?_ _ | refine Up.alloc ?_ _ | refine Up.setCell ?_ ?_ _ | exact Nat.le_refl _ | exact Nat.le_add_right _ _ | (dsimp only; omega) | refine Up.trans ?_ ‹Up _ _›))
            go_wp2_with fail
            refine wp_region_noPanic ?_
            refine wp_region_held_drew (S := T2 m u1 v1 false n u2 v2 false) (by kernel_rfl) ?_ (fun hHeld => ?_)
            · exact T2.up ((Up.refl _).drew) hT6
            (try simp only [Act.put]); (try simp only [List.setIfInBounds_toArray]); (try simp only [List.set_cons_succ]); (try simp only [List.set_cons_zero])
            clear hHeld
            refine wpAnyH_take (i := 0) (oi := { dst := some 23, op := Op.fieldAddr 67 (Operand.tmp 5) 0, type := 0, pos := "span.go:147", after := #[], guard := none }) (v := ?vk49) rfl (by kernel_rfl) (by kernel_rfl) (by kernel_rfl) (fun _ _ _ h => h) (Or.inl ⟨by rfl, ?hk49⟩) (T2.up ((Up.refl w6).drew) hT6) ?rk49
            case hk49 => (intro wz hSw; (try dsimp only at hSw); go_simp; try with_reducible rfl)
            (try simp only [Act.put]); (try simp only [List.setIfInBounds_toArray]); (try simp only [List.set_cons_succ]); (try simp only [List.set_cons_zero])
            refine wpAnyH_take (i := 1) (oi := { dst := some 24, op := Op.load 43 (Operand.tmp 23), type := 43, pos := "span.go:147", after := #[{ on := 0, ground := Ground.data }], guard := none }) (v := ?vk50) rfl (by kernel_rfl) (by kernel_rfl) (by kernel_rfl) (fun _ _ _ h => h) (Or.inl ⟨by rfl, ?hk50⟩) (T2.up ((Up.refl w6).drew) hT6) ?rk50
            case hk50 => (intro wz hSw; (try dsimp only at hSw); go_simp; try with_reducible rfl)
            (try simp only [Act.put]); (try simp only [List.setIfInBounds_toArray]); (try simp only [List.set_cons_succ]); (try simp only [List.set_cons_zero])
            refine wpAnyH_take (i := 2) (oi := { dst := some 25, op := Op.fieldAddr 67 (Operand.tmp 6) 0, type := 0, pos := "span.go:147", after := #[], guard := none }) (v := ?vk51) rfl (by kernel_rfl) (by kernel_rfl) (by kernel_rfl) (fun _ _ _ h => h) (Or.inl ⟨by rfl, ?hk51⟩) (T2.up ((Up.refl w6).drew) hT6) ?rk51
            case hk51 => (intro wz hSw; (try dsimp only at hSw); go_simp; try with_reducible rfl)
            (try simp only [Act.put]); (try simp only [List.setIfInBounds_toArray]); (try simp only [List.set_cons_succ]); (try simp only [List.set_cons_zero])
            refine wpAnyH_take (i := 3) (oi := { dst := some 26, op := Op.load 43 (Operand.tmp 25), type := 43, pos := "span.go:147", after := #[{ on := 2, ground := Ground.data }], guard := none }) (v := ?vk52) rfl (by kernel_rfl) (by kernel_rfl) (by kernel_rfl) (fun _ _ _ h => h) (Or.inl ⟨by rfl, ?hk52⟩) (T2.up ((Up.refl w6).drew) hT6) ?rk52
            case hk52 => (intro wz hSw; (try dsimp only at hSw); go_simp; try with_reducible rfl)
            (try simp only [Act.put]); (try simp only [List.setIfInBounds_toArray]); (try simp only [List.set_cons_succ]); (try simp only [List.set_cons_zero])
            refine wpAnyH_take (i := 5) (oi := { dst := some 28, op := Op.fieldAddr 67 (Operand.tmp 5) 1, type := 0, pos := "span.go:147", after := #[], guard := none }) (v := ?vk53) rfl (by kernel_rfl) (by kernel_rfl) (by kernel_rfl) (fun _ _ _ h => h) (Or.inl ⟨by rfl, ?hk53⟩) (T2.up ((Up.refl w6).drew) hT6) ?rk53
            case hk53 => (intro wz hSw; (try dsimp only at hSw); go_simp; try with_reducible rfl)
            (try simp only [Act.put]); (try simp only [List.setIfInBounds_toArray]); (try simp only [List.set_cons_succ]); (try simp only [List.set_cons_zero])
            refine wpAnyH_take (i := 6) (oi := { dst := some 29, op := Op.load 43 (Operand.tmp 28), type := 43, pos := "span.go:147", after := #[{ on := 5, ground := Ground.data }], guard := none }) (v := ?vk54) rfl (by kernel_rfl) (by kernel_rfl) (by kernel_rfl) (fun _ _ _ h => h) (Or.inl ⟨by rfl, ?hk54⟩) (T2.up ((Up.refl w6).drew) hT6) ?rk54
            case hk54 => (intro wz hSw; (try dsimp only at hSw); go_simp; try with_reducible rfl)
            (try simp only [Act.put]); (try simp only [List.setIfInBounds_toArray]); (try simp only [List.set_cons_succ]); (try simp only [List.set_cons_zero])
            refine wpAnyH_take (i := 7) (oi := { dst := some 30, op := Op.fieldAddr 67 (Operand.tmp 6) 1, type := 0, pos := "span.go:147", after := #[], guard := none }) (v := ?vk55) rfl (by kernel_rfl) (by kernel_rfl) (by kernel_rfl) (fun _ _ _ h => h) (Or.inl ⟨by rfl, ?hk55⟩) (T2.up ((Up.refl w6).drew) hT6) ?rk55
            case hk55 => (intro wz hSw; (try dsimp only at hSw); go_simp; try with_reducible rfl)
            (try simp only [Act.put]); (try simp only [List.setIfInBounds_toArray]); (try simp only [List.set_cons_succ]); (try simp only [List.set_cons_zero])
            refine wpAnyH_take (i := 8) (oi := { dst := some 31, op := Op.load 43 (Operand.tmp 30), type := 43, pos := "span.go:147", after := #[{ on := 7, ground := Ground.data }], guard := none }) (v := ?vk56) rfl (by kernel_rfl) (by kernel_rfl) (by kernel_rfl) (fun _ _ _ h => h) (Or.inl ⟨by rfl, ?hk56⟩) (T2.up ((Up.refl w6).drew) hT6) ?rk56
            case hk56 => (intro wz hSw; (try dsimp only at hSw); go_simp; try with_reducible rfl)
            (try simp only [Act.put]); (try simp only [List.setIfInBounds_toArray]); (try simp only [List.set_cons_succ]); (try simp only [List.set_cons_zero])
            refine wpAnyH_ready (rs := [4]) (by kernel_rfl) (by simp) ?_
            refine AllReadyH.cons (o := { dst := some 27, op := Op.call { callee := Callee.value (Operand.func 100), args := #[Operand.tmp 24, Operand.tmp 26], argTypes := #[43, 43] }, type := 3, pos := "span.go:147", after := #[{ on := 1, ground := Ground.data }, { on := 3, ground := Ground.data }], guard := none }) rfl (fun K hK => ?_) AllReadyH.nil
            · skip
              refine wantCall2 ?_ 100 (.tmp 24) (.tmp 26) #[43, 43] ?_ (.float .f64 u1) (.float .f64 u2) ?_ ?_ ?_ (ent_fcmp _ _) ?_
              · rfl
              · rfl
              · rfl
              · rfl
              · rfl
              refine (HX.out _).mono ?_
              rintro o y57 ⟨rfl, rfl⟩
              refine ⟨_, rfl, ?_⟩
              refine hK.out _ _ (T2.up ((Up.refl w6).drew) hT6) (fun _ => ?_)
              clear hK K
              (try simp only [Act.put]); (try simp only [List.setIfInBounds_toArray]); (try simp only [List.set_cons_succ]); (try simp only [List.set_cons_zero])
              refine wpAnyH_ready (rs := [9]) (by kernel_rfl) (by simp) ?_
              refine AllReadyH.cons (o := { dst := some 32, op := Op.call { callee := Callee.value (Operand.func 100), args := #[Operand.tmp 29, Operand.tmp 31], argTypes := #[43, 43] }, type := 3, pos := "span.go:147", after := #[{ on := 6, ground := Ground.data }, { on := 8, ground := Ground.data }, { on := 4, ground := Ground.chain }], guard := none }) rfl (fun K hK => ?_) AllReadyH.nil
              · skip
                refine wantCall2 ?_ 100 (.tmp 29) (.tmp 31) #[43, 43] ?_ (.float .f64 v1) (.float .f64 v2) ?_ ?_ ?_ (ent_fcmp _ _) ?_
                · rfl
                · rfl
                · rfl
                · rfl
                · rfl
                refine (HY.out _).mono ?_
                rintro o y58 ⟨rfl, rfl⟩
                refine ⟨_, rfl, ?_⟩
                refine hK.out _ _ (T2.up ((Up.refl w6).drew) hT6) (fun _ => ?_)
                clear hK K
                (try simp only [Act.put]); (try simp only [List.setIfInBounds_toArray]); (try simp only [List.set_cons_succ]); (try simp only [List.set_cons_zero])
                refine wpAnyH_ready (rs := [10]) (by kernel_rfl) (by simp) ?_
                refine AllReadyH.cons (o := { dst := some 33, op := Op.buildSlice 81 2 #[(0, Operand.tmp 27), (1, Operand.tmp 32)], type := 81, pos := "span.go:147", after := #[{ on := 4, ground := Ground.data }, { on := 9, ground := Ground.data }], guard := none }) rfl (fun K hK => ?_) AllReadyH.nil
                · skip
                  refine stepBuild2i ?_ (.tmp 27) (.tmp 32) ?_ x y ?_ ?_ ?_
                  · rfl
                  · rfl
                  · rfl
                  · rfl
                  intro m59 x59 hm59 hx59
                  obtain ⟨r0, r1, b59⟩ := R2i_new (u := x) (v := y) hm59 hx59
                  clear hm59 hx59
                  have U59 := ((Up.refl w6).drew).trans b59
                  refine hK.out _ _ (T2.up U59 hT6) (fun _ => ?_)
                  clear hK K
                  (try simp only [Act.put]); (try simp only [List.setIfInBounds_toArray]); (try simp only [List.set_cons_succ]); (try simp only [List.set_cons_zero])
                  refine wpAnyH_ready (rs := [11]) (by kernel_rfl) (by simp) ?_
                  refine AllReadyH.cons (o := { dst := some 34, op := Op.call { callee := Callee.value (Operand.func 132), args := #[Operand.tmp 33], argTypes := #[81] }, type := 3, pos := "span.go:147", after := #[{ on := 10, ground := Ground.data }, { on := 9, ground := Ground.chain }], guard := none }) rfl (fun K hK => ?_) AllReadyH.nil
                  · skip
                    refine wantCall1 ?_ 132 (.tmp 33) #[81] ?_ (.slice (some ⟨m59, 0, none⟩) 2 2) ?_ ?_ (ent_or _ _) ?_
                    · rfl
                    · rfl
                    · rfl
                    · rfl
                    refine (HOr.out rfl _ _ _ r0 r1).mono ?_
                    rintro o y60 ⟨rfl, rfl⟩
                    refine ⟨_, rfl, ?_⟩
                    refine hK.out _ _ (T2.up U59 hT6) (fun _ => ?_)
                    clear hK K
                    (try simp only [Act.put]); (try simp only [List.setIfInBounds_toArray]); (try simp only [List.set_cons_succ]); (try simp only [List.set_cons_zero])
                    refine wpAnyH_ready (rs := [12]) (by kernel_rfl) (by simp) ?_
                    refine AllReadyH.cons (o := { dst := some 4, op := Op.assign (Operand.tmp 34), type := 3, pos := "span.go:147", after := #[{ on := 11, ground := Ground.data }, { on := 11, ground := Ground.chain }, { on := 0, ground := Ground.phase }, { on := 1, ground := Ground.phase }, { on := 2, ground := Ground.phase }, { on := 3, ground := Ground.phase }, { on := 4, ground := Ground.phase }, { on := 5, ground := Ground.phase }, { on := 6, ground := Ground.phase }, { on := 7, ground := Ground.phase }, { on := 8, ground := Ground.phase }, { on := 9, ground := Ground.phase }, { on := 10, ground := Ground.phase }, { on := 11, ground := Ground.phase }], guard := none }) rfl (fun K hK => ?_) AllReadyH.nil
                    · skip
                      go_simp
                      refine hK.out _ _ (T2.up U59 hT6) (fun _ => ?_)
                      clear hK K
                      (try simp only [Act.put]); (try simp only [List.setIfInBounds_toArray]); (try simp only [List.set_cons_succ]); (try simp only [List.set_cons_zero])
                      refine wpAnyH_done (by kernel_rfl) ?_ _
                      refine NoPanic.normal ?_
                      go_wp2
                      go_ret
                      exact ⟨rfl, UW6.trans U59⟩
          · have hR := R4 rfl
            subst hR
            clear R4
            go_wp2
            go_ret
            exact ⟨rfl, UW⟩
      · obtain ⟨rfl, rfl⟩ := h2 rfl
        have hR := R3 rfl
        subst hR
        clear h1 h2 R1 R2 R3 R4 HX HY HOr
        cases q1
        · skip
          go_wp2_with fail
          go_region_held3 (T2 m u1 v1 false n 0 0 true) (first | assumption | (refine T2.up ?_ hT0; (repeat (first | exact Up.refl _ | assumption | refine Up.drew ?_ | refine Up.alloc ?_ _ | refine Up.trans ?_ ‹Up _ _›)); done)) (first | (go_at_call 79; refine (none_any _).mono ?_; rintro o w5 ⟨rfl, hb5⟩))
          have hT5 : T2 m u1 v1 false n 0 0 true w5 := by assumption
          go_wp2_with fail
          go_region_held3 (T2 m u1 v1 false n 0 0 true) (first | assumption | (refine T2.up ?_ hT5; (repeat (first | exact Up.refl _ | assumption | refine Up.drew ?_ | refine Up.alloc ?_ _ | refine Up.trans ?_ ‹Up _ _›)); done)) (first | (go_at_call 79; refine (none_any _).mono ?_; rintro o w6 ⟨rfl, hb6⟩))
          all_goals go_wp2
          all_goals go_ret
          all_goals exact ⟨rfl, (by repeat (first | exact Up.refl _ | assumption | refine Up.drew ?_ | refine Up.drewN ?_ _ | refine Up.alloc ?_ _ | refine Up.setCell ?_ ?_ _ | exact Nat.le_refl _ | exact Nat.le_add_right _ _ | (dsimp only; omega) | refine Up.trans ?_ ‹Up _ _›))⟩
        · cases q2
          all_goals
            go_wp2_with fail
            go_region_held3 (T2 m u1 v1 false n 0 0 true) (first | assumption | (refine T2.up ?_ hT0; (repeat (first | exact Up.refl _ | assumption | refine Up.drew ?_ | refine Up.alloc ?_ _ | refine Up.trans ?_ ‹Up _ _›)); done)) (first | (go_at_call 79; refine (none_any _).mono ?_; rintro o w5 ⟨rfl, hb5⟩))
            have hT5 : T2 m u1 v1 false n 0 0 true w5 := by assumption
            go_wp2_with fail
            go_region_held3 (T2 m u1 v1 false n 0 0 true) (first | assumption | (refine T2.up ?_ hT5; (repeat (first | exact Up.refl _ | assumption | refine Up.drew ?_ | refine Up.alloc ?_ _ | refine Up.trans ?_ ‹Up _ _›)); done)) (first | (go_at_call 79; refine (none_any _).mono ?_; rintro o w6 ⟨rfl, hb6⟩))
            all_goals go_wp2
            all_goals go_ret
            all_goals exact ⟨rfl, (by repeat (first | exact Up.refl _ | assumption | refine Up.drew ?_ | refine Up.drewN ?_ _ | refine Up.alloc ?_ _ | refine Up.setCell ?_ ?_ _ | exact Nat.le_refl _ | exact Nat.le_add_right _ _ | (dsimp only; omega) | refine Up.trans ?_ ‹Up _ _›))⟩
    · obtain ⟨rfl, rfl⟩ := h1 rfl
      cases e2
      · have hR := R2 rfl
        subst hR
        clear h1 h2 R1 R2 R3 R4 HX HY HOr
        cases q1
        · skip
          go_wp2_with fail
          go_region_held3 (T2 m 0 0 true n u2 v2 false) (first | assumption | (refine T2.up ?_ hT0; (repeat (first | exact Up.refl _ | assumption | refine Up.drew ?_ | refine Up.alloc ?_ _ | refine Up.trans ?_ ‹Up _ _›)); done)) (first | (go_at_call 79; refine (none_any _).mono ?_; rintro o w5 ⟨rfl, hb5⟩))
          all_goals go_wp2
          all_goals go_ret
          all_goals exact ⟨rfl, (by repeat (first | exact Up.refl _ | assumption | refine Up.drew ?_ | refine Up.drewN ?_ _ | refine Up.alloc ?_ _ | refine Up.setCell ?_ ?_ _ | exact Nat.le_refl _ | exact Nat.le_add_right _ _ | (dsimp only; omega) | refine Up.trans ?_ ‹Up _ _›))⟩
        · cases q2
          all_goals
            go_wp2_with fail
            go_region_held3 (T2 m 0 0 true n u2 v2 false) (first | assumption | (refine T2.up ?_ hT0; (repeat (first | exact Up.refl _ | assumption | refine Up.drew ?_ | refine Up.alloc ?_ _ | refine Up.trans ?_ ‹Up _ _›)); done)) (first | (go_at_call 79; refine (none_any _).mono ?_; rintro o w5 ⟨rfl, hb5⟩))
            all_goals go_wp2
            all_goals go_ret
            all_goals exact ⟨rfl, (by repeat (first | exact Up.refl _ | assumption | refine Up.drew ?_ | refine Up.drewN ?_ _ | refine Up.alloc ?_ _ | refine Up.setCell ?_ ?_ _ | exact Nat.le_refl _ | exact Nat.le_add_right _ _ | (dsimp only; omega) | refine Up.trans ?_ ‹Up _ _›))⟩
      · obtain ⟨rfl, rfl⟩ := h2 rfl
        have hR := R1 rfl
        subst hR
        clear h1 h2 R1 R2 R3 R4 HX HY HOr
        clear g1 g2
        go_wp2
        go_ret
        exact ⟨rfl, UW⟩


theorem cmp_at {u1 v1 u2 v2 : Nat} {e1 e2 : Bool} (f1 : Fl.IsForm u1 v1 e1) (f2 : Fl.IsForm u2 v2 e2) (a b c d : Nat) (p q r s : Bool) (HA : Hid (∀ w, Calls Tryz.prog 78 #[.agg #[.float .f64 a, .float .f64 b, .bool p, .bool q]] w fun o w' => o = .returned (.agg #[.float .f64 u1, .float .f64 v1, .bool e1, .bool e1]) ∧ Up w w')) (HB : Hid (∀ w, Calls Tryz.prog 78 #[.agg #[.float .f64 c, .float .f64 d, .bool r, .bool s]] w fun o w' => o = .returned (.agg #[.float .f64 u2, .float .f64 v2, .bool e2, .bool e2]) ∧ Up w w')) (w : World) :
    Calls Tryz.prog 117 #[.agg #[.float .f64 a, .float .f64 b, .bool p, .bool q], .agg #[.float .f64 c, .float .f64 d, .bool r, .bool s]] w fun o w' => o = .returned (.int .i64 (Fl.fc u1 v1 e1 u2 v2 e2)) ∧ Up w w' := by
  have n1 := Fl.form_nan f1
  have n2 := Fl.form_nan f2
  refine cmp_core a b c d u1 v1 u2 v2 (Fl.cmpc u1 u2) (Fl.cmpc v1 v2) _ p q r s e1 e2 _ _ f1.2.2.1 f2.2.2.1 rfl rfl HA HB (fun w => cmp_any u1 u2 f1.1 f2.1 w) (fun w => cmp_any v1 v2 f1.2.1 f2.2.1 w) ?_ ?_ w
  · intro he m k W h0 h1
    obtain ⟨rfl, rfl⟩ : e1 = false ∧ e2 = false := by simpa using he
    have e0 : Fl.fc u1 v1 false u2 v2 false = if Fl.code u1 < Fl.code u2 then -1 else if Fl.code u2 < Fl.code u1 then 1 else if Fl.code v1 < Fl.code v2 then -1 else if Fl.code v2 < Fl.code v1 then 1 else 0 := rfl
    rw [e0]
    rcases Fl.cmpc_cases u1 u2 with ⟨e, l⟩ | ⟨e, l⟩ | ⟨e, l⟩
    · rw [e] at h0; rw [if_pos l]; exact or_first m k (-1) _ (by decide) W h0 h1
    · rw [e] at h0; rw [if_neg (by omega), if_neg (by omega)]
      rcases Fl.cmpc_cases v1 v2 with ⟨e', l'⟩ | ⟨e', l'⟩ | ⟨e', l'⟩
      · rw [e'] at h1; rw [if_pos l']; exact or_second m k (-1) (by decide) W h0 h1
      · rw [e'] at h1; rw [if_neg (by omega), if_neg (by omega)]; exact or_none m k W h0 h1
      · rw [e'] at h1; rw [if_neg (by omega), if_pos l']; exact or_second m k 1 (by decide) W h0 h1
    · rw [e] at h0; rw [if_neg (by omega), if_pos l]; exact or_first m k 1 _ (by decide) W h0 h1
  · refine ⟨?_, ?_, ?_, ?_⟩
    · intro h; obtain ⟨rfl, rfl⟩ : e1 = true ∧ e2 = true := by simpa using h
      rfl
    · intro h; obtain ⟨rfl, rfl⟩ : e1 = true ∧ e2 = false := by simpa using h
      rfl
    · intro h; obtain ⟨rfl, rfl⟩ : e1 = false ∧ e2 = true := by simpa using h
      rfl
    · intro h
      rw [Fl.ord_code u1 u2 f1.1 f2.1 n1.1 n2.1, Fl.ord_code v1 v2 f1.2.1 f2.2.1 n1.2.1 n2.2.1] at h
      simp only [Bool.and_eq_true, decide_eq_true_eq, Bool.not_eq_true'] at h
      obtain ⟨⟨c1, c2⟩, rfl, rfl⟩ := h
      unfold Fl.fc; simp [c1, c2]
end Go.Proofs.YtbkbnfgjkefcmaaGreat
