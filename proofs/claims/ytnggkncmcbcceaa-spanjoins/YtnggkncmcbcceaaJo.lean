/- span.Join at every two spans; no condition. -/
import Derived.Test.YtnggkncmcbcceaaMe
import Derived.Test.YtnggkncmcbcceaaMw
namespace Go.Proofs.Ytnggkncmcbcceaa
open Go.RowKit
set_option linter.unusedVariables false
attribute [local go_sem] run_bits run_frombits run_store_float eqF
theorem A3u {w0 : World} {n a b : Nat} {p q : Bool} {m c d : Nat} {r s : Bool} {k : Nat} {w' : World} (u : Up w0 w') (h : A3 w0 n a b p q m c d r s k w0) : A3 w0 n a b p q m c d r s k w' := A3.up h u
set_option maxHeartbeats 4000000 in
theorem join_core (a b c d u1 v1 u2 v2 U V : Nat) (p q r s e1 e2 E K k1 k2 : Bool) (h1 : e1 = true → u1 = 0 ∧ v1 = 0) (h2 : e2 = true → u2 = 0 ∧ v2 = 0)
    (HA : Hid (∀ w, Calls Try.prog 29 #[.agg #[.float .f64 a, .float .f64 b, .bool p, .bool q]] w fun o w' => o = .returned (.agg #[.float .f64 u1, .float .f64 v1, .bool e1, .bool e1]) ∧ Up w w')) (HB : Hid (∀ w, Calls Try.prog 29 #[.agg #[.float .f64 c, .float .f64 d, .bool r, .bool s]] w fun o w' => o = .returned (.agg #[.float .f64 u2, .float .f64 v2, .bool e2, .bool e2]) ∧ Up w w'))
    (HL : Hid (∀ m c W, W.cell? ⟨m, 0, none⟩ = some (.float .f64 u1) → W.cell? ⟨m, 1, none⟩ = some (.float .f64 u2) → Calls Try.prog 9 #[.slice (some ⟨m, 0, none⟩) 2 c] W fun e w' => e = .returned (.float .f64 (Fl.mn u1 u2)) ∧ w' = W))
    (HM : Hid (∀ m c W, W.cell? ⟨m, 0, none⟩ = some (.float .f64 v1) → W.cell? ⟨m, 1, none⟩ = some (.float .f64 v2) → Calls Try.prog 10 #[.slice (some ⟨m, 0, none⟩) 2 c] W fun e w' => e = .returned (.float .f64 (Fl.mx v1 v2)) ∧ w' = W))
    (HG1 : Hid (∀ w, Calls Try.prog 44 #[.agg #[.float .f64 u1, .float .f64 v1, .bool false, .bool false], .agg #[.float .f64 u2, .float .f64 v2, .bool false, .bool false]] w fun o w' => o = .returned (.bool k1) ∧ Up w w')) (HG2 : Hid (∀ w, Calls Try.prog 44 #[.agg #[.float .f64 u2, .float .f64 v2, .bool false, .bool false], .agg #[.float .f64 u1, .float .f64 v1, .bool false, .bool false]] w fun o w' => o = .returned (.bool k2) ∧ Up w w'))
    (hR : Hid ((e1 = true → U = u2 ∧ V = v2 ∧ E = e2 ∧ K = true) ∧ ((!e1 && e2) = true → U = u1 ∧ V = v1 ∧ E = false ∧ K = true) ∧ ((!e1 && !e2 && (k1 || k2)) = true → U = 0 ∧ V = 0 ∧ E = true ∧ K = false) ∧ ((!e1 && !e2 && !(k1 || k2)) = true → U = Fl.mn u1 u2 ∧ V = Fl.mx v1 v2 ∧ E = false ∧ K = true))) (w : World) :
    Calls Try.prog 23 #[.agg #[.float .f64 a, .float .f64 b, .bool p, .bool q], .agg #[.float .f64 c, .float .f64 d, .bool r, .bool s]] w fun o w' => o = .returned (.tuple #[.agg #[.float .f64 U, .float .f64 V, .bool E, .bool E], .bool K]) ∧ Up w w' := by
  have o0 : FloatKind.f64.format.order 0 0 = some .eq := by decide +kernel
  go_enter Try.func23, Try.ntmps23
  go_upto_region 1 with fail
  obtain ⟨w0, hw0⟩ : ∃ w0, w0 = (((w.alloc (Obj.cells #[Value.float FloatKind.f64 a, Value.float FloatKind.f64 b, Value.bool p, Value.bool q] 31)).alloc (Obj.cells #[Value.float FloatKind.f64 c, Value.float FloatKind.f64 d, Value.bool r, Value.bool s] 31)).alloc (Obj.cells #[Value.float FloatKind.f64 0, Value.float FloatKind.f64 0, Value.bool false, Value.bool false] 31)) := ⟨_, rfl⟩
  have s0 : A3 w0 w.heap.size a b p q (w.heap.size + 1) c d r s (w.heap.size + 2) w0 := by
    refine ⟨?_, ?_, Up.refl _⟩ <;> rw [hw0] <;> simp [SpAt, FrAt, go_sem]
  have U0 : Up w w0 := by rw [hw0]; exact (((Up.refl w).alloc _).alloc _).alloc _
  have z0 : w0.heap.size = w.heap.size + 3 := by rw [hw0]; simp
  rw [← hw0]
  have Z0 := hid z0
  clear hw0 z0
  have HS := hid s0
  clear s0
  go_cut [6, 7] (fun f g wx => ∃ m n : Nat, f = .pointer (some ⟨m, 0, none⟩) ∧ g = .pointer (some ⟨n, 0, none⟩) ∧ SpAt m u1 v1 e1 e1 wx ∧ SpAt n u2 v2 e2 e2 wx ∧ Up w0 wx ∧ w0.heap.size ≤ m ∧ w0.heap.size ≤ n)
  case first =>
    refine wp_region_noPanic ?_
    refine wp_region_held_drew (S := A3 w0 w.heap.size a b p q (w.heap.size + 1) c d r s (w.heap.size + 2)) (by kernel_rfl) ?_ (fun hHeld => ?_)
    · exact A3u ((Up.refl _).drew) HS.out
    (try simp only [Act.put]); (try simp only [List.setIfInBounds_toArray]); (try simp only [List.set_cons_succ]); (try simp only [List.set_cons_zero])
    clear hHeld
    refine wpAnyH_take (i := 0) (oi := { dst := some 8, op := Op.load 31 (Operand.tmp 2), type := 31, pos := "span.go:80", after := #[], guard := none }) (v := ?vk61) rfl (by kernel_rfl) (by kernel_rfl) (by kernel_rfl) (fun _ _ _ h => h) (Or.inl ⟨by rfl, ?hk61⟩) (A3u (J2.start w0).1 HS.out) ?rk61
    case hk61 => (intro wz hSw; (try dsimp only at hSw); go_simp; try with_reducible rfl)
    (try simp only [Act.put]); (try simp only [List.setIfInBounds_toArray]); (try simp only [List.set_cons_succ]); (try simp only [List.set_cons_zero])
    refine wpAnyH_take (i := 2) (oi := { dst := some 10, op := Op.load 31 (Operand.tmp 3), type := 31, pos := "span.go:80", after := #[], guard := none }) (v := ?vk62) rfl (by kernel_rfl) (by kernel_rfl) (by kernel_rfl) (fun _ _ _ h => h) (Or.inl ⟨by rfl, ?hk62⟩) (A3u (J2.start w0).1 HS.out) ?rk62
    case hk62 => (intro wz hSw; (try dsimp only at hSw); go_simp; try with_reducible rfl)
    (try simp only [Act.put]); (try simp only [List.setIfInBounds_toArray]); (try simp only [List.set_cons_succ]); (try simp only [List.set_cons_zero])
    refine wpAnyH_ready (rs := [1, 4, 5]) (by kernel_rfl) (by simp) ?_
    refine AllReadyH.cons (o := { dst := some 9, op := Op.call { callee := Callee.value (Operand.func 29), args := #[Operand.tmp 8], argTypes := #[31] }, type := 31, pos := "span.go:80", after := #[{ on := 0, ground := Ground.data }], guard := none }) rfl (fun K hK => ?_) (AllReadyH.cons (o := { dst := some 6, op := Op.alloc 31, type := 0, pos := "span.go:80", after := #[], guard := none }) rfl (fun K hK => ?_) (AllReadyH.cons (o := { dst := some 7, op := Op.alloc 31, type := 0, pos := "span.go:80", after := #[], guard := none }) rfl (fun K hK => ?_) AllReadyH.nil))
    · skip
      refine stepCall1 ?_ 29 (.tmp 8) #[31] ?_ (.agg #[.float .f64 a, .float .f64 b, .bool p, .bool q]) ?_ ?_ (enter_canonS _ _) ?_
      · rfl
      · rfl
      · rfl
      · rfl
      refine (HA.out _).mono ?_
      rintro o x63 ⟨rfl, b63⟩
      refine ⟨_, rfl, ?_⟩
      have j63 := (J2.start w0).up b63
      refine hK.out _ _ (A3u j63.1 HS.out) (fun _ => ?_)
      clear hK K
      (try simp only [Act.put]); (try simp only [List.setIfInBounds_toArray]); (try simp only [List.set_cons_succ]); (try simp only [List.set_cons_zero])
      refine wpAnyH_ready (rs := [3, 4, 5]) (by kernel_rfl) (by simp) ?_
      refine AllReadyH.cons (o := { dst := some 11, op := Op.call { callee := Callee.value (Operand.func 29), args := #[Operand.tmp 10], argTypes := #[31] }, type := 31, pos := "span.go:80", after := #[{ on := 2, ground := Ground.data }, { on := 1, ground := Ground.chain }], guard := none }) rfl (fun K hK => ?_) (AllReadyH.cons (o := { dst := some 6, op := Op.alloc 31, type := 0, pos := "span.go:80", after := #[], guard := none }) rfl (fun K hK => ?_) (AllReadyH.cons (o := { dst := some 7, op := Op.alloc 31, type := 0, pos := "span.go:80", after := #[], guard := none }) rfl (fun K hK => ?_) AllReadyH.nil))
      · skip
        refine stepCall1 ?_ 29 (.tmp 10) #[31] ?_ (.agg #[.float .f64 c, .float .f64 d, .bool r, .bool s]) ?_ ?_ (enter_canonS _ _) ?_
        · rfl
        · rfl
        · rfl
        · rfl
        refine (HB.out _).mono ?_
        rintro o x64 ⟨rfl, b64⟩
        refine ⟨_, rfl, ?_⟩
        have j64 := j63.up b64
        refine hK.out _ _ (A3u j64.1 HS.out) (fun _ => ?_)
        clear hK K
        (try simp only [Act.put]); (try simp only [List.setIfInBounds_toArray]); (try simp only [List.set_cons_succ]); (try simp only [List.set_cons_zero])
        refine wpAnyH_ready (rs := [4, 5]) (by kernel_rfl) (by simp) ?_
        refine AllReadyH.cons (o := { dst := some 6, op := Op.alloc 31, type := 0, pos := "span.go:80", after := #[], guard := none }) rfl (fun K hK => ?_) (AllReadyH.cons (o := { dst := some 7, op := Op.alloc 31, type := 0, pos := "span.go:80", after := #[], guard := none }) rfl (fun K hK => ?_) AllReadyH.nil)
        · skip
          refine stepAlloc ?_ ?_ ?_
          · rfl
          · rfl
          intro m65 x65 hm65 hx65
          have j65 := j64.nF hm65 hx65
          clear hm65 hx65
          refine hK.out _ _ (A3u j65.1 HS.out) (fun _ => ?_)
          clear hK K
          (try simp only [Act.put]); (try simp only [List.setIfInBounds_toArray]); (try simp only [List.set_cons_succ]); (try simp only [List.set_cons_zero])
          refine wpAnyH_ready (rs := [5]) (by kernel_rfl) (by simp) ?_
          refine AllReadyH.cons (o := { dst := some 7, op := Op.alloc 31, type := 0, pos := "span.go:80", after := #[], guard := none }) rfl (fun K hK => ?_) AllReadyH.nil
          · skip
            refine stepAlloc ?_ ?_ ?_
            · rfl
            · rfl
            intro m66 x66 hm66 hx66
            have j66 := j65.nG hm66 hx66
            clear hm66 hx66
            refine hK.out _ _ (A3u j66.1 HS.out) (fun _ => ?_)
            clear hK K
            (try simp only [Act.put]); (try simp only [List.setIfInBounds_toArray]); (try simp only [List.set_cons_succ]); (try simp only [List.set_cons_zero])
            refine wpAnyH_ready (rs := [6]) (by kernel_rfl) (by simp) ?_
            refine AllReadyH.cons (o := { dst := none, op := Op.store 31 (Operand.tmp 6) (Operand.tmp 9), type := 0, pos := "span.go:80", after := #[{ on := 4, ground := Ground.data }, { on := 1, ground := Ground.data }, { on := 3, ground := Ground.chain }, { on := 0, ground := Ground.phase }, { on := 1, ground := Ground.phase }, { on := 2, ground := Ground.textOnly Departure.lateStores }, { on := 3, ground := Ground.textOnly Departure.lateStoresUnsure }, { on := 4, ground := Ground.phase }, { on := 5, ground := Ground.phase }], guard := none }) rfl (fun K hK => ?_) AllReadyH.nil
            · skip
              refine stepStore ?_ (.tmp 6) (.tmp 9) ?_ m65 u1 v1 e1 e1 ?_ ?_ j66.thereF ?_
              · rfl
              · rfl
              · rfl
              · rfl
              refine hK.out _ _ (A3u (j66.upF _) HS.out) (fun _ => ?_)
              clear hK K
              (try simp only [Act.put]); (try simp only [List.setIfInBounds_toArray]); (try simp only [List.set_cons_succ]); (try simp only [List.set_cons_zero])
              refine wpAnyH_ready (rs := [7]) (by kernel_rfl) (by simp) ?_
              refine AllReadyH.cons (o := { dst := none, op := Op.store 31 (Operand.tmp 7) (Operand.tmp 11), type := 0, pos := "span.go:80", after := #[{ on := 5, ground := Ground.data }, { on := 3, ground := Ground.data }, { on := 6, ground := Ground.chain }, { on := 0, ground := Ground.phase }, { on := 1, ground := Ground.phase }, { on := 2, ground := Ground.phase }, { on := 3, ground := Ground.phase }, { on := 4, ground := Ground.phase }, { on := 5, ground := Ground.phase }, { on := 6, ground := Ground.phase }], guard := none }) rfl (fun K hK => ?_) AllReadyH.nil
              · skip
                refine stepStore ?_ (.tmp 7) (.tmp 11) ?_ m66 u2 v2 e2 e2 ?_ ?_ (j66.thereG _) ?_
                · rfl
                · rfl
                · rfl
                · rfl
                refine hK.out _ _ (A3u (j66.fin u1 v1 u2 v2 e1 e1 e2 e2).2.2 HS.out) (fun _ => ?_)
                clear hK K
                (try simp only [Act.put]); (try simp only [List.setIfInBounds_toArray]); (try simp only [List.set_cons_succ]); (try simp only [List.set_cons_zero])
                refine wpAnyH_done (by kernel_rfl) ?_ _
                refine NoPanic.normal ?_
                go_wp2_with fail
                go_meet
                case rel => exact ⟨m65, m66, rfl, rfl, (j66.fin u1 v1 u2 v2 e1 e1 e2 e2).1, (j66.fin u1 v1 u2 v2 e1 e1 e2 e2).2.1, (j66.fin u1 v1 u2 v2 e1 e1 e2 e2).2.2, (j66.2.1 _ rfl).1, (j66.2.2.1 _ rfl).1⟩
        · skip
          refine stepAlloc ?_ ?_ ?_
          · rfl
          · rfl
          intro m67 x67 hm67 hx67
          have j67 := j64.nG hm67 hx67
          clear hm67 hx67
          refine hK.out _ _ (A3u j67.1 HS.out) (fun _ => ?_)
          clear hK K
          (try simp only [Act.put]); (try simp only [List.setIfInBounds_toArray]); (try simp only [List.set_cons_succ]); (try simp only [List.set_cons_zero])
          refine wpAnyH_ready (rs := [4]) (by kernel_rfl) (by simp) ?_
          refine AllReadyH.cons (o := { dst := some 6, op := Op.alloc 31, type := 0, pos := "span.go:80", after := #[], guard := none }) rfl (fun K hK => ?_) AllReadyH.nil
          · skip
            refine stepAlloc ?_ ?_ ?_
            · rfl
            · rfl
            intro m68 x68 hm68 hx68
            have j68 := j67.nF hm68 hx68
            clear hm68 hx68
            refine hK.out _ _ (A3u j68.1 HS.out) (fun _ => ?_)
            clear hK K
            (try simp only [Act.put]); (try simp only [List.setIfInBounds_toArray]); (try simp only [List.set_cons_succ]); (try simp only [List.set_cons_zero])
            refine wpAnyH_ready (rs := [6]) (by kernel_rfl) (by simp) ?_
            refine AllReadyH.cons (o := { dst := none, op := Op.store 31 (Operand.tmp 6) (Operand.tmp 9), type := 0, pos := "span.go:80", after := #[{ on := 4, ground := Ground.data }, { on := 1, ground := Ground.data }, { on := 3, ground := Ground.chain }, { on := 0, ground := Ground.phase }, { on := 1, ground := Ground.phase }, { on := 2, ground := Ground.textOnly Departure.lateStores }, { on := 3, ground := Ground.textOnly Departure.lateStoresUnsure }, { on := 4, ground := Ground.phase }, { on := 5, ground := Ground.phase }], guard := none }) rfl (fun K hK => ?_) AllReadyH.nil
            · skip
              refine stepStore ?_ (.tmp 6) (.tmp 9) ?_ m68 u1 v1 e1 e1 ?_ ?_ j68.thereF ?_
              · rfl
              · rfl
              · rfl
              · rfl
              refine hK.out _ _ (A3u (j68.upF _) HS.out) (fun _ => ?_)
              clear hK K
              (try simp only [Act.put]); (try simp only [List.setIfInBounds_toArray]); (try simp only [List.set_cons_succ]); (try simp only [List.set_cons_zero])
              refine wpAnyH_ready (rs := [7]) (by kernel_rfl) (by simp) ?_
              refine AllReadyH.cons (o := { dst := none, op := Op.store 31 (Operand.tmp 7) (Operand.tmp 11), type := 0, pos := "span.go:80", after := #[{ on := 5, ground := Ground.data }, { on := 3, ground := Ground.data }, { on := 6, ground := Ground.chain }, { on := 0, ground := Ground.phase }, { on := 1, ground := Ground.phase }, { on := 2, ground := Ground.phase }, { on := 3, ground := Ground.phase }, { on := 4, ground := Ground.phase }, { on := 5, ground := Ground.phase }, { on := 6, ground := Ground.phase }], guard := none }) rfl (fun K hK => ?_) AllReadyH.nil
              · skip
                refine stepStore ?_ (.tmp 7) (.tmp 11) ?_ m67 u2 v2 e2 e2 ?_ ?_ (j68.thereG _) ?_
                · rfl
                · rfl
                · rfl
                · rfl
                refine hK.out _ _ (A3u (j68.fin u1 v1 u2 v2 e1 e1 e2 e2).2.2 HS.out) (fun _ => ?_)
                clear hK K
                (try simp only [Act.put]); (try simp only [List.setIfInBounds_toArray]); (try simp only [List.set_cons_succ]); (try simp only [List.set_cons_zero])
                refine wpAnyH_done (by kernel_rfl) ?_ _
                refine NoPanic.normal ?_
                go_wp2_with fail
                go_meet
                case rel => exact ⟨m68, m67, rfl, rfl, (j68.fin u1 v1 u2 v2 e1 e1 e2 e2).1, (j68.fin u1 v1 u2 v2 e1 e1 e2 e2).2.1, (j68.fin u1 v1 u2 v2 e1 e1 e2 e2).2.2, (j68.2.1 _ rfl).1, (j68.2.2.1 _ rfl).1⟩
      · skip
        refine stepAlloc ?_ ?_ ?_
        · rfl
        · rfl
        intro m69 x69 hm69 hx69
        have j69 := j63.nF hm69 hx69
        clear hm69 hx69
        refine hK.out _ _ (A3u j69.1 HS.out) (fun _ => ?_)
        clear hK K
        (try simp only [Act.put]); (try simp only [List.setIfInBounds_toArray]); (try simp only [List.set_cons_succ]); (try simp only [List.set_cons_zero])
        refine wpAnyH_ready (rs := [3, 5]) (by kernel_rfl) (by simp) ?_
        refine AllReadyH.cons (o := { dst := some 11, op := Op.call { callee := Callee.value (Operand.func 29), args := #[Operand.tmp 10], argTypes := #[31] }, type := 31, pos := "span.go:80", after := #[{ on := 2, ground := Ground.data }, { on := 1, ground := Ground.chain }], guard := none }) rfl (fun K hK => ?_) (AllReadyH.cons (o := { dst := some 7, op := Op.alloc 31, type := 0, pos := "span.go:80", after := #[], guard := none }) rfl (fun K hK => ?_) AllReadyH.nil)
        · skip
          refine stepCall1 ?_ 29 (.tmp 10) #[31] ?_ (.agg #[.float .f64 c, .float .f64 d, .bool r, .bool s]) ?_ ?_ (enter_canonS _ _) ?_
          · rfl
          · rfl
          · rfl
          · rfl
          refine (HB.out _).mono ?_
          rintro o x70 ⟨rfl, b70⟩
          refine ⟨_, rfl, ?_⟩
          have j70 := j69.up b70
          refine hK.out _ _ (A3u j70.1 HS.out) (fun _ => ?_)
          clear hK K
          (try simp only [Act.put]); (try simp only [List.setIfInBounds_toArray]); (try simp only [List.set_cons_succ]); (try simp only [List.set_cons_zero])
          refine wpAnyH_ready (rs := [5]) (by kernel_rfl) (by simp) ?_
          refine AllReadyH.cons (o := { dst := some 7, op := Op.alloc 31, type := 0, pos := "span.go:80", after := #[], guard := none }) rfl (fun K hK => ?_) AllReadyH.nil
          · skip
            refine stepAlloc ?_ ?_ ?_
            · rfl
            · rfl
            intro m71 x71 hm71 hx71
            have j71 := j70.nG hm71 hx71
            clear hm71 hx71
            refine hK.out _ _ (A3u j71.1 HS.out) (fun _ => ?_)
            clear hK K
            (try simp only [Act.put]); (try simp only [List.setIfInBounds_toArray]); (try simp only [List.set_cons_succ]); (try simp only [List.set_cons_zero])
            refine wpAnyH_ready (rs := [6]) (by kernel_rfl) (by simp) ?_
            refine AllReadyH.cons (o := { dst := none, op := Op.store 31 (Operand.tmp 6) (Operand.tmp 9), type := 0, pos := "span.go:80", after := #[{ on := 4, ground := Ground.data }, { on := 1, ground := Ground.data }, { on := 3, ground := Ground.chain }, { on := 0, ground := Ground.phase }, { on := 1, ground := Ground.phase }, { on := 2, ground := Ground.textOnly Departure.lateStores }, { on := 3, ground := Ground.textOnly Departure.lateStoresUnsure }, { on := 4, ground := Ground.phase }, { on := 5, ground := Ground.phase }], guard := none }) rfl (fun K hK => ?_) AllReadyH.nil
            · skip
              refine stepStore ?_ (.tmp 6) (.tmp 9) ?_ m69 u1 v1 e1 e1 ?_ ?_ j71.thereF ?_
              · rfl
              · rfl
              · rfl
              · rfl
              refine hK.out _ _ (A3u (j71.upF _) HS.out) (fun _ => ?_)
              clear hK K
              (try simp only [Act.put]); (try simp only [List.setIfInBounds_toArray]); (try simp only [List.set_cons_succ]); (try simp only [List.set_cons_zero])
              refine wpAnyH_ready (rs := [7]) (by kernel_rfl) (by simp) ?_
              refine AllReadyH.cons (o := { dst := none, op := Op.store 31 (Operand.tmp 7) (Operand.tmp 11), type := 0, pos := "span.go:80", after := #[{ on := 5, ground := Ground.data }, { on := 3, ground := Ground.data }, { on := 6, ground := Ground.chain }, { on := 0, ground := Ground.phase }, { on := 1, ground := Ground.phase }, { on := 2, ground := Ground.phase }, { on := 3, ground := Ground.phase }, { on := 4, ground := Ground.phase }, { on := 5, ground := Ground.phase }, { on := 6, ground := Ground.phase }], guard := none }) rfl (fun K hK => ?_) AllReadyH.nil
              · skip
                refine stepStore ?_ (.tmp 7) (.tmp 11) ?_ m71 u2 v2 e2 e2 ?_ ?_ (j71.thereG _) ?_
                · rfl
                · rfl
                · rfl
                · rfl
                refine hK.out _ _ (A3u (j71.fin u1 v1 u2 v2 e1 e1 e2 e2).2.2 HS.out) (fun _ => ?_)
                clear hK K
                (try simp only [Act.put]); (try simp only [List.setIfInBounds_toArray]); (try simp only [List.set_cons_succ]); (try simp only [List.set_cons_zero])
                refine wpAnyH_done (by kernel_rfl) ?_ _
                refine NoPanic.normal ?_
                go_wp2_with fail
                go_meet
                case rel => exact ⟨m69, m71, rfl, rfl, (j71.fin u1 v1 u2 v2 e1 e1 e2 e2).1, (j71.fin u1 v1 u2 v2 e1 e1 e2 e2).2.1, (j71.fin u1 v1 u2 v2 e1 e1 e2 e2).2.2, (j71.2.1 _ rfl).1, (j71.2.2.1 _ rfl).1⟩
        · skip
          refine stepAlloc ?_ ?_ ?_
          · rfl
          · rfl
          intro m72 x72 hm72 hx72
          have j72 := j69.nG hm72 hx72
          clear hm72 hx72
          refine hK.out _ _ (A3u j72.1 HS.out) (fun _ => ?_)
          clear hK K
          (try simp only [Act.put]); (try simp only [List.setIfInBounds_toArray]); (try simp only [List.set_cons_succ]); (try simp only [List.set_cons_zero])
          refine wpAnyH_ready (rs := [3]) (by kernel_rfl) (by simp) ?_
          refine AllReadyH.cons (o := { dst := some 11, op := Op.call { callee := Callee.value (Operand.func 29), args := #[Operand.tmp 10], argTypes := #[31] }, type := 31, pos := "span.go:80", after := #[{ on := 2, ground := Ground.data }, { on := 1, ground := Ground.chain }], guard := none }) rfl (fun K hK => ?_) AllReadyH.nil
          · skip
            refine stepCall1 ?_ 29 (.tmp 10) #[31] ?_ (.agg #[.float .f64 c, .float .f64 d, .bool r, .bool s]) ?_ ?_ (enter_canonS _ _) ?_
            · rfl
            · rfl
            · rfl
            · rfl
            refine (HB.out _).mono ?_
            rintro o x73 ⟨rfl, b73⟩
            refine ⟨_, rfl, ?_⟩
            have j73 := j72.up b73
            refine hK.out _ _ (A3u j73.1 HS.out) (fun _ => ?_)
            clear hK K
            (try simp only [Act.put]); (try simp only [List.setIfInBounds_toArray]); (try simp only [List.set_cons_succ]); (try simp only [List.set_cons_zero])
            refine wpAnyH_ready (rs := [6]) (by kernel_rfl) (by simp) ?_
            refine AllReadyH.cons (o := { dst := none, op := Op.store 31 (Operand.tmp 6) (Operand.tmp 9), type := 0, pos := "span.go:80", after := #[{ on := 4, ground := Ground.data }, { on := 1, ground := Ground.data }, { on := 3, ground := Ground.chain }, { on := 0, ground := Ground.phase }, { on := 1, ground := Ground.phase }, { on := 2, ground := Ground.textOnly Departure.lateStores }, { on := 3, ground := Ground.textOnly Departure.lateStoresUnsure }, { on := 4, ground := Ground.phase }, { on := 5, ground := Ground.phase }], guard := none }) rfl (fun K hK => ?_) AllReadyH.nil
            · skip
              refine stepStore ?_ (.tmp 6) (.tmp 9) ?_ m69 u1 v1 e1 e1 ?_ ?_ j73.thereF ?_
              · rfl
              · rfl
              · rfl
              · rfl
              refine hK.out _ _ (A3u (j73.upF _) HS.out) (fun _ => ?_)
              clear hK K
              (try simp only [Act.put]); (try simp only [List.setIfInBounds_toArray]); (try simp only [List.set_cons_succ]); (try simp only [List.set_cons_zero])
              refine wpAnyH_ready (rs := [7]) (by kernel_rfl) (by simp) ?_
              refine AllReadyH.cons (o := { dst := none, op := Op.store 31 (Operand.tmp 7) (Operand.tmp 11), type := 0, pos := "span.go:80", after := #[{ on := 5, ground := Ground.data }, { on := 3, ground := Ground.data }, { on := 6, ground := Ground.chain }, { on := 0, ground := Ground.phase }, { on := 1, ground := Ground.phase }, { on := 2, ground := Ground.phase }, { on := 3, ground := Ground.phase }, { on := 4, ground := Ground.phase }, { on := 5, ground := Ground.phase }, { on := 6, ground := Ground.phase }], guard := none }) rfl (fun K hK => ?_) AllReadyH.nil
              · skip
                refine stepStore ?_ (.tmp 7) (.tmp 11) ?_ m72 u2 v2 e2 e2 ?_ ?_ (j73.thereG _) ?_
                · rfl
                · rfl
                · rfl
                · rfl
                refine hK.out _ _ (A3u (j73.fin u1 v1 u2 v2 e1 e1 e2 e2).2.2 HS.out) (fun _ => ?_)
                clear hK K
                (try simp only [Act.put]); (try simp only [List.setIfInBounds_toArray]); (try simp only [List.set_cons_succ]); (try simp only [List.set_cons_zero])
                refine wpAnyH_done (by kernel_rfl) ?_ _
                refine NoPanic.normal ?_
                go_wp2_with fail
                go_meet
                case rel => exact ⟨m69, m72, rfl, rfl, (j73.fin u1 v1 u2 v2 e1 e1 e2 e2).1, (j73.fin u1 v1 u2 v2 e1 e1 e2 e2).2.1, (j73.fin u1 v1 u2 v2 e1 e1 e2 e2).2.2, (j73.2.1 _ rfl).1, (j73.2.2.1 _ rfl).1⟩
      · skip
        refine stepAlloc ?_ ?_ ?_
        · rfl
        · rfl
        intro m74 x74 hm74 hx74
        have j74 := j63.nG hm74 hx74
        clear hm74 hx74
        refine hK.out _ _ (A3u j74.1 HS.out) (fun _ => ?_)
        clear hK K
        (try simp only [Act.put]); (try simp only [List.setIfInBounds_toArray]); (try simp only [List.set_cons_succ]); (try simp only [List.set_cons_zero])
        refine wpAnyH_ready (rs := [3, 4]) (by kernel_rfl) (by simp) ?_
        refine AllReadyH.cons (o := { dst := some 11, op := Op.call { callee := Callee.value (Operand.func 29), args := #[Operand.tmp 10], argTypes := #[31] }, type := 31, pos := "span.go:80", after := #[{ on := 2, ground := Ground.data }, { on := 1, ground := Ground.chain }], guard := none }) rfl (fun K hK => ?_) (AllReadyH.cons (o := { dst := some 6, op := Op.alloc 31, type := 0, pos := "span.go:80", after := #[], guard := none }) rfl (fun K hK => ?_) AllReadyH.nil)
        · skip
          refine stepCall1 ?_ 29 (.tmp 10) #[31] ?_ (.agg #[.float .f64 c, .float .f64 d, .bool r, .bool s]) ?_ ?_ (enter_canonS _ _) ?_
          · rfl
          · rfl
          · rfl
          · rfl
          refine (HB.out _).mono ?_
          rintro o x75 ⟨rfl, b75⟩
          refine ⟨_, rfl, ?_⟩
          have j75 := j74.up b75
          refine hK.out _ _ (A3u j75.1 HS.out) (fun _ => ?_)
          clear hK K
          (try simp only [Act.put]); (try simp only [List.setIfInBounds_toArray]); (try simp only [List.set_cons_succ]); (try simp only [List.set_cons_zero])
          refine wpAnyH_ready (rs := [4]) (by kernel_rfl) (by simp) ?_
          refine AllReadyH.cons (o := { dst := some 6, op := Op.alloc 31, type := 0, pos := "span.go:80", after := #[], guard := none }) rfl (fun K hK => ?_) AllReadyH.nil
          · skip
            refine stepAlloc ?_ ?_ ?_
            · rfl
            · rfl
            intro m76 x76 hm76 hx76
            have j76 := j75.nF hm76 hx76
            clear hm76 hx76
            refine hK.out _ _ (A3u j76.1 HS.out) (fun _ => ?_)
            clear hK K
            (try simp only [Act.put]); (try simp only [List.setIfInBounds_toArray]); (try simp only [List.set_cons_succ]); (try simp only [List.set_cons_zero])
            refine wpAnyH_ready (rs := [6]) (by kernel_rfl) (by simp) ?_
            refine AllReadyH.cons (o := { dst := none, op := Op.store 31 (Operand.tmp 6) (Operand.tmp 9), type := 0, pos := "span.go:80", after := #[{ on := 4, ground := Ground.data }, { on := 1, ground := Ground.data }, { on := 3, ground := Ground.chain }, { on := 0, ground := Ground.phase }, { on := 1, ground := Ground.phase }, { on := 2, ground := Ground.textOnly Departure.lateStores }, { on := 3, ground := Ground.textOnly Departure.lateStoresUnsure }, { on := 4, ground := Ground.phase }, { on := 5, ground := Ground.phase }], guard := none }) rfl (fun K hK => ?_) AllReadyH.nil
            · skip
              refine stepStore ?_ (.tmp 6) (.tmp 9) ?_ m76 u1 v1 e1 e1 ?_ ?_ j76.thereF ?_
              · rfl
              · rfl
              · rfl
              · rfl
              refine hK.out _ _ (A3u (j76.upF _) HS.out) (fun _ => ?_)
              clear hK K
              (try simp only [Act.put]); (try simp only [List.setIfInBounds_toArray]); (try simp only [List.set_cons_succ]); (try simp only [List.set_cons_zero])
              refine wpAnyH_ready (rs := [7]) (by kernel_rfl) (by simp) ?_
              refine AllReadyH.cons (o := { dst := none, op := Op.store 31 (Operand.tmp 7) (Operand.tmp 11), type := 0, pos := "span.go:80", after := #[{ on := 5, ground := Ground.data }, { on := 3, ground := Ground.data }, { on := 6, ground := Ground.chain }, { on := 0, ground := Ground.phase }, { on := 1, ground := Ground.phase }, { on := 2, ground := Ground.phase }, { on := 3, ground := Ground.phase }, { on := 4, ground := Ground.phase }, { on := 5, ground := Ground.phase }, { on := 6, ground := Ground.phase }], guard := none }) rfl (fun K hK => ?_) AllReadyH.nil
              · skip
                refine stepStore ?_ (.tmp 7) (.tmp 11) ?_ m74 u2 v2 e2 e2 ?_ ?_ (j76.thereG _) ?_
                · rfl
                · rfl
                · rfl
                · rfl
                refine hK.out _ _ (A3u (j76.fin u1 v1 u2 v2 e1 e1 e2 e2).2.2 HS.out) (fun _ => ?_)
                clear hK K
                (try simp only [Act.put]); (try simp only [List.setIfInBounds_toArray]); (try simp only [List.set_cons_succ]); (try simp only [List.set_cons_zero])
                refine wpAnyH_done (by kernel_rfl) ?_ _
                refine NoPanic.normal ?_
                go_wp2_with fail
                go_meet
                case rel => exact ⟨m76, m74, rfl, rfl, (j76.fin u1 v1 u2 v2 e1 e1 e2 e2).1, (j76.fin u1 v1 u2 v2 e1 e1 e2 e2).2.1, (j76.fin u1 v1 u2 v2 e1 e1 e2 e2).2.2, (j76.2.1 _ rfl).1, (j76.2.2.1 _ rfl).1⟩
        · skip
          refine stepAlloc ?_ ?_ ?_
          · rfl
          · rfl
          intro m77 x77 hm77 hx77
          have j77 := j74.nF hm77 hx77
          clear hm77 hx77
          refine hK.out _ _ (A3u j77.1 HS.out) (fun _ => ?_)
          clear hK K
          (try simp only [Act.put]); (try simp only [List.setIfInBounds_toArray]); (try simp only [List.set_cons_succ]); (try simp only [List.set_cons_zero])
          refine wpAnyH_ready (rs := [3]) (by kernel_rfl) (by simp) ?_
          refine AllReadyH.cons (o := { dst := some 11, op := Op.call { callee := Callee.value (Operand.func 29), args := #[Operand.tmp 10], argTypes := #[31] }, type := 31, pos := "span.go:80", after := #[{ on := 2, ground := Ground.data }, { on := 1, ground := Ground.chain }], guard := none }) rfl (fun K hK => ?_) AllReadyH.nil
          · skip
            refine stepCall1 ?_ 29 (.tmp 10) #[31] ?_ (.agg #[.float .f64 c, .float .f64 d, .bool r, .bool s]) ?_ ?_ (enter_canonS _ _) ?_
            · rfl
            · rfl
            · rfl
            · rfl
            refine (HB.out _).mono ?_
            rintro o x78 ⟨rfl, b78⟩
            refine ⟨_, rfl, ?_⟩
            have j78 := j77.up b78
            refine hK.out _ _ (A3u j78.1 HS.out) (fun _ => ?_)
            clear hK K
            (try simp only [Act.put]); (try simp only [List.setIfInBounds_toArray]); (try simp only [List.set_cons_succ]); (try simp only [List.set_cons_zero])
            refine wpAnyH_ready (rs := [6]) (by kernel_rfl) (by simp) ?_
            refine AllReadyH.cons (o := { dst := none, op := Op.store 31 (Operand.tmp 6) (Operand.tmp 9), type := 0, pos := "span.go:80", after := #[{ on := 4, ground := Ground.data }, { on := 1, ground := Ground.data }, { on := 3, ground := Ground.chain }, { on := 0, ground := Ground.phase }, { on := 1, ground := Ground.phase }, { on := 2, ground := Ground.textOnly Departure.lateStores }, { on := 3, ground := Ground.textOnly Departure.lateStoresUnsure }, { on := 4, ground := Ground.phase }, { on := 5, ground := Ground.phase }], guard := none }) rfl (fun K hK => ?_) AllReadyH.nil
            · skip
              refine stepStore ?_ (.tmp 6) (.tmp 9) ?_ m77 u1 v1 e1 e1 ?_ ?_ j78.thereF ?_
              · rfl
              · rfl
              · rfl
              · rfl
              refine hK.out _ _ (A3u (j78.upF _) HS.out) (fun _ => ?_)
              clear hK K
              (try simp only [Act.put]); (try simp only [List.setIfInBounds_toArray]); (try simp only [List.set_cons_succ]); (try simp only [List.set_cons_zero])
              refine wpAnyH_ready (rs := [7]) (by kernel_rfl) (by simp) ?_
              refine AllReadyH.cons (o := { dst := none, op := Op.store 31 (Operand.tmp 7) (Operand.tmp 11), type := 0, pos := "span.go:80", after := #[{ on := 5, ground := Ground.data }, { on := 3, ground := Ground.data }, { on := 6, ground := Ground.chain }, { on := 0, ground := Ground.phase }, { on := 1, ground := Ground.phase }, { on := 2, ground := Ground.phase }, { on := 3, ground := Ground.phase }, { on := 4, ground := Ground.phase }, { on := 5, ground := Ground.phase }, { on := 6, ground := Ground.phase }], guard := none }) rfl (fun K hK => ?_) AllReadyH.nil
              · skip
                refine stepStore ?_ (.tmp 7) (.tmp 11) ?_ m74 u2 v2 e2 e2 ?_ ?_ (j78.thereG _) ?_
                · rfl
                · rfl
                · rfl
                · rfl
                refine hK.out _ _ (A3u (j78.fin u1 v1 u2 v2 e1 e1 e2 e2).2.2 HS.out) (fun _ => ?_)
                clear hK K
                (try simp only [Act.put]); (try simp only [List.setIfInBounds_toArray]); (try simp only [List.set_cons_succ]); (try simp only [List.set_cons_zero])
                refine wpAnyH_done (by kernel_rfl) ?_ _
                refine NoPanic.normal ?_
                go_wp2_with fail
                go_meet
                case rel => exact ⟨m77, m74, rfl, rfl, (j78.fin u1 v1 u2 v2 e1 e1 e2 e2).1, (j78.fin u1 v1 u2 v2 e1 e1 e2 e2).2.1, (j78.fin u1 v1 u2 v2 e1 e1 e2 e2).2.2, (j78.2.1 _ rfl).1, (j78.2.2.1 _ rfl).1⟩
    · skip
      refine stepAlloc ?_ ?_ ?_
      · rfl
      · rfl
      intro m79 x79 hm79 hx79
      have j79 := (J2.start w0).nF hm79 hx79
      clear hm79 hx79
      refine hK.out _ _ (A3u j79.1 HS.out) (fun _ => ?_)
      clear hK K
      (try simp only [Act.put]); (try simp only [List.setIfInBounds_toArray]); (try simp only [List.set_cons_succ]); (try simp only [List.set_cons_zero])
      refine wpAnyH_ready (rs := [1, 5]) (by kernel_rfl) (by simp) ?_
      refine AllReadyH.cons (o := { dst := some 9, op := Op.call { callee := Callee.value (Operand.func 29), args := #[Operand.tmp 8], argTypes := #[31] }, type := 31, pos := "span.go:80", after := #[{ on := 0, ground := Ground.data }], guard := none }) rfl (fun K hK => ?_) (AllReadyH.cons (o := { dst := some 7, op := Op.alloc 31, type := 0, pos := "span.go:80", after := #[], guard := none }) rfl (fun K hK => ?_) AllReadyH.nil)
      · skip
        refine stepCall1 ?_ 29 (.tmp 8) #[31] ?_ (.agg #[.float .f64 a, .float .f64 b, .bool p, .bool q]) ?_ ?_ (enter_canonS _ _) ?_
        · rfl
        · rfl
        · rfl
        · rfl
        refine (HA.out _).mono ?_
        rintro o x80 ⟨rfl, b80⟩
        refine ⟨_, rfl, ?_⟩
        have j80 := j79.up b80
        refine hK.out _ _ (A3u j80.1 HS.out) (fun _ => ?_)
        clear hK K
        (try simp only [Act.put]); (try simp only [List.setIfInBounds_toArray]); (try simp only [List.set_cons_succ]); (try simp only [List.set_cons_zero])
        refine wpAnyH_ready (rs := [3, 5]) (by kernel_rfl) (by simp) ?_
        refine AllReadyH.cons (o := { dst := some 11, op := Op.call { callee := Callee.value (Operand.func 29), args := #[Operand.tmp 10], argTypes := #[31] }, type := 31, pos := "span.go:80", after := #[{ on := 2, ground := Ground.data }, { on := 1, ground := Ground.chain }], guard := none }) rfl (fun K hK => ?_) (AllReadyH.cons (o := { dst := some 7, op := Op.alloc 31, type := 0, pos := "span.go:80", after := #[], guard := none }) rfl (fun K hK => ?_) AllReadyH.nil)
        · skip
          refine stepCall1 ?_ 29 (.tmp 10) #[31] ?_ (.agg #[.float .f64 c, .float .f64 d, .bool r, .bool s]) ?_ ?_ (enter_canonS _ _) ?_
          · rfl
          · rfl
          · rfl
          · rfl
          refine (HB.out _).mono ?_
          rintro o x81 ⟨rfl, b81⟩
          refine ⟨_, rfl, ?_⟩
          have j81 := j80.up b81
          refine hK.out _ _ (A3u j81.1 HS.out) (fun _ => ?_)
          clear hK K
          (try simp only [Act.put]); (try simp only [List.setIfInBounds_toArray]); (try simp only [List.set_cons_succ]); (try simp only [List.set_cons_zero])
          refine wpAnyH_ready (rs := [5]) (by kernel_rfl) (by simp) ?_
          refine AllReadyH.cons (o := { dst := some 7, op := Op.alloc 31, type := 0, pos := "span.go:80", after := #[], guard := none }) rfl (fun K hK => ?_) AllReadyH.nil
          · skip
            refine stepAlloc ?_ ?_ ?_
            · rfl
            · rfl
            intro m82 x82 hm82 hx82
            have j82 := j81.nG hm82 hx82
            clear hm82 hx82
            refine hK.out _ _ (A3u j82.1 HS.out) (fun _ => ?_)
            clear hK K
            (try simp only [Act.put]); (try simp only [List.setIfInBounds_toArray]); (try simp only [List.set_cons_succ]); (try simp only [List.set_cons_zero])
            refine wpAnyH_ready (rs := [6]) (by kernel_rfl) (by simp) ?_
            refine AllReadyH.cons (o := { dst := none, op := Op.store 31 (Operand.tmp 6) (Operand.tmp 9), type := 0, pos := "span.go:80", after := #[{ on := 4, ground := Ground.data }, { on := 1, ground := Ground.data }, { on := 3, ground := Ground.chain }, { on := 0, ground := Ground.phase }, { on := 1, ground := Ground.phase }, { on := 2, ground := Ground.textOnly Departure.lateStores }, { on := 3, ground := Ground.textOnly Departure.lateStoresUnsure }, { on := 4, ground := Ground.phase }, { on := 5, ground := Ground.phase }], guard := none }) rfl (fun K hK => ?_) AllReadyH.nil
            · skip
              refine stepStore ?_ (.tmp 6) (.tmp 9) ?_ m79 u1 v1 e1 e1 ?_ ?_ j82.thereF ?_
              · rfl
              · rfl
              · rfl
              · rfl
              refine hK.out _ _ (A3u (j82.upF _) HS.out) (fun _ => ?_)
              clear hK K
              (try simp only [Act.put]); (try simp only [List.setIfInBounds_toArray]); (try simp only [List.set_cons_succ]); (try simp only [List.set_cons_zero])
              refine wpAnyH_ready (rs := [7]) (by kernel_rfl) (by simp) ?_
              refine AllReadyH.cons (o := { dst := none, op := Op.store 31 (Operand.tmp 7) (Operand.tmp 11), type := 0, pos := "span.go:80", after := #[{ on := 5, ground := Ground.data }, { on := 3, ground := Ground.data }, { on := 6, ground := Ground.chain }, { on := 0, ground := Ground.phase }, { on := 1, ground := Ground.phase }, { on := 2, ground := Ground.phase }, { on := 3, ground := Ground.phase }, { on := 4, ground := Ground.phase }, { on := 5, ground := Ground.phase }, { on := 6, ground := Ground.phase }], guard := none }) rfl (fun K hK => ?_) AllReadyH.nil
              · skip
                refine stepStore ?_ (.tmp 7) (.tmp 11) ?_ m82 u2 v2 e2 e2 ?_ ?_ (j82.thereG _) ?_
                · rfl
                · rfl
                · rfl
                · rfl
                refine hK.out _ _ (A3u (j82.fin u1 v1 u2 v2 e1 e1 e2 e2).2.2 HS.out) (fun _ => ?_)
                clear hK K
                (try simp only [Act.put]); (try simp only [List.setIfInBounds_toArray]); (try simp only [List.set_cons_succ]); (try simp only [List.set_cons_zero])
                refine wpAnyH_done (by kernel_rfl) ?_ _
                refine NoPanic.normal ?_
                go_wp2_with fail
                go_meet
                case rel => exact ⟨m79, m82, rfl, rfl, (j82.fin u1 v1 u2 v2 e1 e1 e2 e2).1, (j82.fin u1 v1 u2 v2 e1 e1 e2 e2).2.1, (j82.fin u1 v1 u2 v2 e1 e1 e2 e2).2.2, (j82.2.1 _ rfl).1, (j82.2.2.1 _ rfl).1⟩
        · skip
          refine stepAlloc ?_ ?_ ?_
          · rfl
          · rfl
          intro m83 x83 hm83 hx83
          have j83 := j80.nG hm83 hx83
          clear hm83 hx83
          refine hK.out _ _ (A3u j83.1 HS.out) (fun _ => ?_)
          clear hK K
          (try simp only [Act.put]); (try simp only [List.setIfInBounds_toArray]); (try simp only [List.set_cons_succ]); (try simp only [List.set_cons_zero])
          refine wpAnyH_ready (rs := [3]) (by kernel_rfl) (by simp) ?_
          refine AllReadyH.cons (o := { dst := some 11, op := Op.call { callee := Callee.value (Operand.func 29), args := #[Operand.tmp 10], argTypes := #[31] }, type := 31, pos := "span.go:80", after := #[{ on := 2, ground := Ground.data }, { on := 1, ground := Ground.chain }], guard := none }) rfl (fun K hK => ?_) AllReadyH.nil
          · skip
            refine stepCall1 ?_ 29 (.tmp 10) #[31] ?_ (.agg #[.float .f64 c, .float .f64 d, .bool r, .bool s]) ?_ ?_ (enter_canonS _ _) ?_
            · rfl
            · rfl
            · rfl
            · rfl
            refine (HB.out _).mono ?_
            rintro o x84 ⟨rfl, b84⟩
            refine ⟨_, rfl, ?_⟩
            have j84 := j83.up b84
            refine hK.out _ _ (A3u j84.1 HS.out) (fun _ => ?_)
            clear hK K
            (try simp only [Act.put]); (try simp only [List.setIfInBounds_toArray]); (try simp only [List.set_cons_succ]); (try simp only [List.set_cons_zero])
            refine wpAnyH_ready (rs := [6]) (by kernel_rfl) (by simp) ?_
            refine AllReadyH.cons (o := { dst := none, op := Op.store 31 (Operand.tmp 6) (Operand.tmp 9), type := 0, pos := "span.go:80", after := #[{ on := 4, ground := Ground.data }, { on := 1, ground := Ground.data }, { on := 3, ground := Ground.chain }, { on := 0, ground := Ground.phase }, { on := 1, ground := Ground.phase }, { on := 2, ground := Ground.textOnly Departure.lateStores }, { on := 3, ground := Ground.textOnly Departure.lateStoresUnsure }, { on := 4, ground := Ground.phase }, { on := 5, ground := Ground.phase }], guard := none }) rfl (fun K hK => ?_) AllReadyH.nil
            · skip
              refine stepStore ?_ (.tmp 6) (.tmp 9) ?_ m79 u1 v1 e1 e1 ?_ ?_ j84.thereF ?_
              · rfl
              · rfl
              · rfl
              · rfl
              refine hK.out _ _ (A3u (j84.upF _) HS.out) (fun _ => ?_)
              clear hK K
              (try simp only [Act.put]); (try simp only [List.setIfInBounds_toArray]); (try simp only [List.set_cons_succ]); (try simp only [List.set_cons_zero])
              refine wpAnyH_ready (rs := [7]) (by kernel_rfl) (by simp) ?_
              refine AllReadyH.cons (o := { dst := none, op := Op.store 31 (Operand.tmp 7) (Operand.tmp 11), type := 0, pos := "span.go:80", after := #[{ on := 5, ground := Ground.data }, { on := 3, ground := Ground.data }, { on := 6, ground := Ground.chain }, { on := 0, ground := Ground.phase }, { on := 1, ground := Ground.phase }, { on := 2, ground := Ground.phase }, { on := 3, ground := Ground.phase }, { on := 4, ground := Ground.phase }, { on := 5, ground := Ground.phase }, { on := 6, ground := Ground.phase }], guard := none }) rfl (fun K hK => ?_) AllReadyH.nil
              · skip
                refine stepStore ?_ (.tmp 7) (.tmp 11) ?_ m83 u2 v2 e2 e2 ?_ ?_ (j84.thereG _) ?_
                · rfl
                · rfl
                · rfl
                · rfl
                refine hK.out _ _ (A3u (j84.fin u1 v1 u2 v2 e1 e1 e2 e2).2.2 HS.out) (fun _ => ?_)
                clear hK K
                (try simp only [Act.put]); (try simp only [List.setIfInBounds_toArray]); (try simp only [List.set_cons_succ]); (try simp only [List.set_cons_zero])
                refine wpAnyH_done (by kernel_rfl) ?_ _
                refine NoPanic.normal ?_
                go_wp2_with fail
                go_meet
                case rel => exact ⟨m79, m83, rfl, rfl, (j84.fin u1 v1 u2 v2 e1 e1 e2 e2).1, (j84.fin u1 v1 u2 v2 e1 e1 e2 e2).2.1, (j84.fin u1 v1 u2 v2 e1 e1 e2 e2).2.2, (j84.2.1 _ rfl).1, (j84.2.2.1 _ rfl).1⟩
      · skip
        refine stepAlloc ?_ ?_ ?_
        · rfl
        · rfl
        intro m85 x85 hm85 hx85
        have j85 := j79.nG hm85 hx85
        clear hm85 hx85
        refine hK.out _ _ (A3u j85.1 HS.out) (fun _ => ?_)
        clear hK K
        (try simp only [Act.put]); (try simp only [List.setIfInBounds_toArray]); (try simp only [List.set_cons_succ]); (try simp only [List.set_cons_zero])
        refine wpAnyH_ready (rs := [1]) (by kernel_rfl) (by simp) ?_
        refine AllReadyH.cons (o := { dst := some 9, op := Op.call { callee := Callee.value (Operand.func 29), args := #[Operand.tmp 8], argTypes := #[31] }, type := 31, pos := "span.go:80", after := #[{ on := 0, ground := Ground.data }], guard := none }) rfl (fun K hK => ?_) AllReadyH.nil
        · skip
          refine stepCall1 ?_ 29 (.tmp 8) #[31] ?_ (.agg #[.float .f64 a, .float .f64 b, .bool p, .bool q]) ?_ ?_ (enter_canonS _ _) ?_
          · rfl
          · rfl
          · rfl
          · rfl
          refine (HA.out _).mono ?_
          rintro o x86 ⟨rfl, b86⟩
          refine ⟨_, rfl, ?_⟩
          have j86 := j85.up b86
          refine hK.out _ _ (A3u j86.1 HS.out) (fun _ => ?_)
          clear hK K
          (try simp only [Act.put]); (try simp only [List.setIfInBounds_toArray]); (try simp only [List.set_cons_succ]); (try simp only [List.set_cons_zero])
          refine wpAnyH_ready (rs := [3]) (by kernel_rfl) (by simp) ?_
          refine AllReadyH.cons (o := { dst := some 11, op := Op.call { callee := Callee.value (Operand.func 29), args := #[Operand.tmp 10], argTypes := #[31] }, type := 31, pos := "span.go:80", after := #[{ on := 2, ground := Ground.data }, { on := 1, ground := Ground.chain }], guard := none }) rfl (fun K hK => ?_) AllReadyH.nil
          · skip
            refine stepCall1 ?_ 29 (.tmp 10) #[31] ?_ (.agg #[.float .f64 c, .float .f64 d, .bool r, .bool s]) ?_ ?_ (enter_canonS _ _) ?_
            · rfl
            · rfl
            · rfl
            · rfl
            refine (HB.out _).mono ?_
            rintro o x87 ⟨rfl, b87⟩
            refine ⟨_, rfl, ?_⟩
            have j87 := j86.up b87
            refine hK.out _ _ (A3u j87.1 HS.out) (fun _ => ?_)
            clear hK K
            (try simp only [Act.put]); (try simp only [List.setIfInBounds_toArray]); (try simp only [List.set_cons_succ]); (try simp only [List.set_cons_zero])
            refine wpAnyH_ready (rs := [6]) (by kernel_rfl) (by simp) ?_
            refine AllReadyH.cons (o := { dst := none, op := Op.store 31 (Operand.tmp 6) (Operand.tmp 9), type := 0, pos := "span.go:80", after := #[{ on := 4, ground := Ground.data }, { on := 1, ground := Ground.data }, { on := 3, ground := Ground.chain }, { on := 0, ground := Ground.phase }, { on := 1, ground := Ground.phase }, { on := 2, ground := Ground.textOnly Departure.lateStores }, { on := 3, ground := Ground.textOnly Departure.lateStoresUnsure }, { on := 4, ground := Ground.phase }, { on := 5, ground := Ground.phase }], guard := none }) rfl (fun K hK => ?_) AllReadyH.nil
            · skip
              refine stepStore ?_ (.tmp 6) (.tmp 9) ?_ m79 u1 v1 e1 e1 ?_ ?_ j87.thereF ?_
              · rfl
              · rfl
              · rfl
              · rfl
              refine hK.out _ _ (A3u (j87.upF _) HS.out) (fun _ => ?_)
              clear hK K
              (try simp only [Act.put]); (try simp only [List.setIfInBounds_toArray]); (try simp only [List.set_cons_succ]); (try simp only [List.set_cons_zero])
              refine wpAnyH_ready (rs := [7]) (by kernel_rfl) (by simp) ?_
              refine AllReadyH.cons (o := { dst := none, op := Op.store 31 (Operand.tmp 7) (Operand.tmp 11), type := 0, pos := "span.go:80", after := #[{ on := 5, ground := Ground.data }, { on := 3, ground := Ground.data }, { on := 6, ground := Ground.chain }, { on := 0, ground := Ground.phase }, { on := 1, ground := Ground.phase }, { on := 2, ground := Ground.phase }, { on := 3, ground := Ground.phase }, { on := 4, ground := Ground.phase }, { on := 5, ground := Ground.phase }, { on := 6, ground := Ground.phase }], guard := none }) rfl (fun K hK => ?_) AllReadyH.nil
              · skip
                refine stepStore ?_ (.tmp 7) (.tmp 11) ?_ m85 u2 v2 e2 e2 ?_ ?_ (j87.thereG _) ?_
                · rfl
                · rfl
                · rfl
                · rfl
                refine hK.out _ _ (A3u (j87.fin u1 v1 u2 v2 e1 e1 e2 e2).2.2 HS.out) (fun _ => ?_)
                clear hK K
                (try simp only [Act.put]); (try simp only [List.setIfInBounds_toArray]); (try simp only [List.set_cons_succ]); (try simp only [List.set_cons_zero])
                refine wpAnyH_done (by kernel_rfl) ?_ _
                refine NoPanic.normal ?_
                go_wp2_with fail
                go_meet
                case rel => exact ⟨m79, m85, rfl, rfl, (j87.fin u1 v1 u2 v2 e1 e1 e2 e2).1, (j87.fin u1 v1 u2 v2 e1 e1 e2 e2).2.1, (j87.fin u1 v1 u2 v2 e1 e1 e2 e2).2.2, (j87.2.1 _ rfl).1, (j87.2.2.1 _ rfl).1⟩
    · skip
      refine stepAlloc ?_ ?_ ?_
      · rfl
      · rfl
      intro m88 x88 hm88 hx88
      have j88 := (J2.start w0).nG hm88 hx88
      clear hm88 hx88
      refine hK.out _ _ (A3u j88.1 HS.out) (fun _ => ?_)
      clear hK K
      (try simp only [Act.put]); (try simp only [List.setIfInBounds_toArray]); (try simp only [List.set_cons_succ]); (try simp only [List.set_cons_zero])
      refine wpAnyH_ready (rs := [1, 4]) (by kernel_rfl) (by simp) ?_
      refine AllReadyH.cons (o := { dst := some 9, op := Op.call { callee := Callee.value (Operand.func 29), args := #[Operand.tmp 8], argTypes := #[31] }, type := 31, pos := "span.go:80", after := #[{ on := 0, ground := Ground.data }], guard := none }) rfl (fun K hK => ?_) (AllReadyH.cons (o := { dst := some 6, op := Op.alloc 31, type := 0, pos := "span.go:80", after := #[], guard := none }) rfl (fun K hK => ?_) AllReadyH.nil)
      · skip
        refine stepCall1 ?_ 29 (.tmp 8) #[31] ?_ (.agg #[.float .f64 a, .float .f64 b, .bool p, .bool q]) ?_ ?_ (enter_canonS _ _) ?_
        · rfl
        · rfl
        · rfl
        · rfl
        refine (HA.out _).mono ?_
        rintro o x89 ⟨rfl, b89⟩
        refine ⟨_, rfl, ?_⟩
        have j89 := j88.up b89
        refine hK.out _ _ (A3u j89.1 HS.out) (fun _ => ?_)
        clear hK K
        (try simp only [Act.put]); (try simp only [List.setIfInBounds_toArray]); (try simp only [List.set_cons_succ]); (try simp only [List.set_cons_zero])
        refine wpAnyH_ready (rs := [3, 4]) (by kernel_rfl) (by simp) ?_
        refine AllReadyH.cons (o := { dst := some 11, op := Op.call { callee := Callee.value (Operand.func 29), args := #[Operand.tmp 10], argTypes := #[31] }, type := 31, pos := "span.go:80", after := #[{ on := 2, ground := Ground.data }, { on := 1, ground := Ground.chain }], guard := none }) rfl (fun K hK => ?_) (AllReadyH.cons (o := { dst := some 6, op := Op.alloc 31, type := 0, pos := "span.go:80", after := #[], guard := none }) rfl (fun K hK => ?_) AllReadyH.nil)
        · skip
          refine stepCall1 ?_ 29 (.tmp 10) #[31] ?_ (.agg #[.float .f64 c, .float .f64 d, .bool r, .bool s]) ?_ ?_ (enter_canonS _ _) ?_
          · rfl
          · rfl
          · rfl
          · rfl
          refine (HB.out _).mono ?_
          rintro o x90 ⟨rfl, b90⟩
          refine ⟨_, rfl, ?_⟩
          have j90 := j89.up b90
          refine hK.out _ _ (A3u j90.1 HS.out) (fun _ => ?_)
          clear hK K
          (try simp only [Act.put]); (try simp only [List.setIfInBounds_toArray]); (try simp only [List.set_cons_succ]); (try simp only [List.set_cons_zero])
          refine wpAnyH_ready (rs := [4]) (by kernel_rfl) (by simp) ?_
          refine AllReadyH.cons (o := { dst := some 6, op := Op.alloc 31, type := 0, pos := "span.go:80", after := #[], guard := none }) rfl (fun K hK => ?_) AllReadyH.nil
          · skip
            refine stepAlloc ?_ ?_ ?_
            · rfl
            · rfl
            intro m91 x91 hm91 hx91
            have j91 := j90.nF hm91 hx91
            clear hm91 hx91
            refine hK.out _ _ (A3u j91.1 HS.out) (fun _ => ?_)
            clear hK K
            (try simp only [Act.put]); (try simp only [List.setIfInBounds_toArray]); (try simp only [List.set_cons_succ]); (try simp only [List.set_cons_zero])
            refine wpAnyH_ready (rs := [6]) (by kernel_rfl) (by simp) ?_
            refine AllReadyH.cons (o := { dst := none, op := Op.store 31 (Operand.tmp 6) (Operand.tmp 9), type := 0, pos := "span.go:80", after := #[{ on := 4, ground := Ground.data }, { on := 1, ground := Ground.data }, { on := 3, ground := Ground.chain }, { on := 0, ground := Ground.phase }, { on := 1, ground := Ground.phase }, { on := 2, ground := Ground.textOnly Departure.lateStores }, { on := 3, ground := Ground.textOnly Departure.lateStoresUnsure }, { on := 4, ground := Ground.phase }, { on := 5, ground := Ground.phase }], guard := none }) rfl (fun K hK => ?_) AllReadyH.nil
            · skip
              refine stepStore ?_ (.tmp 6) (.tmp 9) ?_ m91 u1 v1 e1 e1 ?_ ?_ j91.thereF ?_
              · rfl
              · rfl
              · rfl
              · rfl
              refine hK.out _ _ (A3u (j91.upF _) HS.out) (fun _ => ?_)
              clear hK K
              (try simp only [Act.put]); (try simp only [List.setIfInBounds_toArray]); (try simp only [List.set_cons_succ]); (try simp only [List.set_cons_zero])
              refine wpAnyH_ready (rs := [7]) (by kernel_rfl) (by simp) ?_
              refine AllReadyH.cons (o := { dst := none, op := Op.store 31 (Operand.tmp 7) (Operand.tmp 11), type := 0, pos := "span.go:80", after := #[{ on := 5, ground := Ground.data }, { on := 3, ground := Ground.data }, { on := 6, ground := Ground.chain }, { on := 0, ground := Ground.phase }, { on := 1, ground := Ground.phase }, { on := 2, ground := Ground.phase }, { on := 3, ground := Ground.phase }, { on := 4, ground := Ground.phase }, { on := 5, ground := Ground.phase }, { on := 6, ground := Ground.phase }], guard := none }) rfl (fun K hK => ?_) AllReadyH.nil
              · skip
                refine stepStore ?_ (.tmp 7) (.tmp 11) ?_ m88 u2 v2 e2 e2 ?_ ?_ (j91.thereG _) ?_
                · rfl
                · rfl
                · rfl
                · rfl
                refine hK.out _ _ (A3u (j91.fin u1 v1 u2 v2 e1 e1 e2 e2).2.2 HS.out) (fun _ => ?_)
                clear hK K
                (try simp only [Act.put]); (try simp only [List.setIfInBounds_toArray]); (try simp only [List.set_cons_succ]); (try simp only [List.set_cons_zero])
                refine wpAnyH_done (by kernel_rfl) ?_ _
                refine NoPanic.normal ?_
                go_wp2_with fail
                go_meet
                case rel => exact ⟨m91, m88, rfl, rfl, (j91.fin u1 v1 u2 v2 e1 e1 e2 e2).1, (j91.fin u1 v1 u2 v2 e1 e1 e2 e2).2.1, (j91.fin u1 v1 u2 v2 e1 e1 e2 e2).2.2, (j91.2.1 _ rfl).1, (j91.2.2.1 _ rfl).1⟩
        · skip
          refine stepAlloc ?_ ?_ ?_
          · rfl
          · rfl
          intro m92 x92 hm92 hx92
          have j92 := j89.nF hm92 hx92
          clear hm92 hx92
          refine hK.out _ _ (A3u j92.1 HS.out) (fun _ => ?_)
          clear hK K
          (try simp only [Act.put]); (try simp only [List.setIfInBounds_toArray]); (try simp only [List.set_cons_succ]); (try simp only [List.set_cons_zero])
          refine wpAnyH_ready (rs := [3]) (by kernel_rfl) (by simp) ?_
          refine AllReadyH.cons (o := { dst := some 11, op := Op.call { callee := Callee.value (Operand.func 29), args := #[Operand.tmp 10], argTypes := #[31] }, type := 31, pos := "span.go:80", after := #[{ on := 2, ground := Ground.data }, { on := 1, ground := Ground.chain }], guard := none }) rfl (fun K hK => ?_) AllReadyH.nil
          · skip
            refine stepCall1 ?_ 29 (.tmp 10) #[31] ?_ (.agg #[.float .f64 c, .float .f64 d, .bool r, .bool s]) ?_ ?_ (enter_canonS _ _) ?_
            · rfl
            · rfl
            · rfl
            · rfl
            refine (HB.out _).mono ?_
            rintro o x93 ⟨rfl, b93⟩
            refine ⟨_, rfl, ?_⟩
            have j93 := j92.up b93
            refine hK.out _ _ (A3u j93.1 HS.out) (fun _ => ?_)
            clear hK K
            (try simp only [Act.put]); (try simp only [List.setIfInBounds_toArray]); (try simp only [List.set_cons_succ]); (try simp only [List.set_cons_zero])
            refine wpAnyH_ready (rs := [6]) (by kernel_rfl) (by simp) ?_
            refine AllReadyH.cons (o := { dst := none, op := Op.store 31 (Operand.tmp 6) (Operand.tmp 9), type := 0, pos := "span.go:80", after := #[{ on := 4, ground := Ground.data }, { on := 1, ground := Ground.data }, { on := 3, ground := Ground.chain }, { on := 0, ground := Ground.phase }, { on := 1, ground := Ground.phase }, { on := 2, ground := Ground.textOnly Departure.lateStores }, { on := 3, ground := Ground.textOnly Departure.lateStoresUnsure }, { on := 4, ground := Ground.phase }, { on := 5, ground := Ground.phase }], guard := none }) rfl (fun K hK => ?_) AllReadyH.nil
            · skip
              refine stepStore ?_ (.tmp 6) (.tmp 9) ?_ m92 u1 v1 e1 e1 ?_ ?_ j93.thereF ?_
              · rfl
              · rfl
              · rfl
              · rfl
              refine hK.out _ _ (A3u (j93.upF _) HS.out) (fun _ => ?_)
              clear hK K
              (try simp only [Act.put]); (try simp only [List.setIfInBounds_toArray]); (try simp only [List.set_cons_succ]); (try simp only [List.set_cons_zero])
              refine wpAnyH_ready (rs := [7]) (by kernel_rfl) (by simp) ?_
              refine AllReadyH.cons (o := { dst := none, op := Op.store 31 (Operand.tmp 7) (Operand.tmp 11), type := 0, pos := "span.go:80", after := #[{ on := 5, ground := Ground.data }, { on := 3, ground := Ground.data }, { on := 6, ground := Ground.chain }, { on := 0, ground := Ground.phase }, { on := 1, ground := Ground.phase }, { on := 2, ground := Ground.phase }, { on := 3, ground := Ground.phase }, { on := 4, ground := Ground.phase }, { on := 5, ground := Ground.phase }, { on := 6, ground := Ground.phase }], guard := none }) rfl (fun K hK => ?_) AllReadyH.nil
              · skip
                refine stepStore ?_ (.tmp 7) (.tmp 11) ?_ m88 u2 v2 e2 e2 ?_ ?_ (j93.thereG _) ?_
                · rfl
                · rfl
                · rfl
                · rfl
                refine hK.out _ _ (A3u (j93.fin u1 v1 u2 v2 e1 e1 e2 e2).2.2 HS.out) (fun _ => ?_)
                clear hK K
                (try simp only [Act.put]); (try simp only [List.setIfInBounds_toArray]); (try simp only [List.set_cons_succ]); (try simp only [List.set_cons_zero])
                refine wpAnyH_done (by kernel_rfl) ?_ _
                refine NoPanic.normal ?_
                go_wp2_with fail
                go_meet
                case rel => exact ⟨m92, m88, rfl, rfl, (j93.fin u1 v1 u2 v2 e1 e1 e2 e2).1, (j93.fin u1 v1 u2 v2 e1 e1 e2 e2).2.1, (j93.fin u1 v1 u2 v2 e1 e1 e2 e2).2.2, (j93.2.1 _ rfl).1, (j93.2.2.1 _ rfl).1⟩
      · skip
        refine stepAlloc ?_ ?_ ?_
        · rfl
        · rfl
        intro m94 x94 hm94 hx94
        have j94 := j88.nF hm94 hx94
        clear hm94 hx94
        refine hK.out _ _ (A3u j94.1 HS.out) (fun _ => ?_)
        clear hK K
        (try simp only [Act.put]); (try simp only [List.setIfInBounds_toArray]); (try simp only [List.set_cons_succ]); (try simp only [List.set_cons_zero])
        refine wpAnyH_ready (rs := [1]) (by kernel_rfl) (by simp) ?_
        refine AllReadyH.cons (o := { dst := some 9, op := Op.call { callee := Callee.value (Operand.func 29), args := #[Operand.tmp 8], argTypes := #[31] }, type := 31, pos := "span.go:80", after := #[{ on := 0, ground := Ground.data }], guard := none }) rfl (fun K hK => ?_) AllReadyH.nil
        · skip
          refine stepCall1 ?_ 29 (.tmp 8) #[31] ?_ (.agg #[.float .f64 a, .float .f64 b, .bool p, .bool q]) ?_ ?_ (enter_canonS _ _) ?_
          · rfl
          · rfl
          · rfl
          · rfl
          refine (HA.out _).mono ?_
          rintro o x95 ⟨rfl, b95⟩
          refine ⟨_, rfl, ?_⟩
          have j95 := j94.up b95
          refine hK.out _ _ (A3u j95.1 HS.out) (fun _ => ?_)
          clear hK K
          (try simp only [Act.put]); (try simp only [List.setIfInBounds_toArray]); (try simp only [List.set_cons_succ]); (try simp only [List.set_cons_zero])
          refine wpAnyH_ready (rs := [3]) (by kernel_rfl) (by simp) ?_
          refine AllReadyH.cons (o := { dst := some 11, op := Op.call { callee := Callee.value (Operand.func 29), args := #[Operand.tmp 10], argTypes := #[31] }, type := 31, pos := "span.go:80", after := #[{ on := 2, ground := Ground.data }, { on := 1, ground := Ground.chain }], guard := none }) rfl (fun K hK => ?_) AllReadyH.nil
          · skip
            refine stepCall1 ?_ 29 (.tmp 10) #[31] ?_ (.agg #[.float .f64 c, .float .f64 d, .bool r, .bool s]) ?_ ?_ (enter_canonS _ _) ?_
            · rfl
            · rfl
            · rfl
            · rfl
            refine (HB.out _).mono ?_
            rintro o x96 ⟨rfl, b96⟩
            refine ⟨_, rfl, ?_⟩
            have j96 := j95.up b96
            refine hK.out _ _ (A3u j96.1 HS.out) (fun _ => ?_)
            clear hK K
            (try simp only [Act.put]); (try simp only [List.setIfInBounds_toArray]); (try simp only [List.set_cons_succ]); (try simp only [List.set_cons_zero])
            refine wpAnyH_ready (rs := [6]) (by kernel_rfl) (by simp) ?_
            refine AllReadyH.cons (o := { dst := none, op := Op.store 31 (Operand.tmp 6) (Operand.tmp 9), type := 0, pos := "span.go:80", after := #[{ on := 4, ground := Ground.data }, { on := 1, ground := Ground.data }, { on := 3, ground := Ground.chain }, { on := 0, ground := Ground.phase }, { on := 1, ground := Ground.phase }, { on := 2, ground := Ground.textOnly Departure.lateStores }, { on := 3, ground := Ground.textOnly Departure.lateStoresUnsure }, { on := 4, ground := Ground.phase }, { on := 5, ground := Ground.phase }], guard := none }) rfl (fun K hK => ?_) AllReadyH.nil
            · skip
              refine stepStore ?_ (.tmp 6) (.tmp 9) ?_ m94 u1 v1 e1 e1 ?_ ?_ j96.thereF ?_
              · rfl
              · rfl
              · rfl
              · rfl
              refine hK.out _ _ (A3u (j96.upF _) HS.out) (fun _ => ?_)
              clear hK K
              (try simp only [Act.put]); (try simp only [List.setIfInBounds_toArray]); (try simp only [List.set_cons_succ]); (try simp only [List.set_cons_zero])
              refine wpAnyH_ready (rs := [7]) (by kernel_rfl) (by simp) ?_
              refine AllReadyH.cons (o := { dst := none, op := Op.store 31 (Operand.tmp 7) (Operand.tmp 11), type := 0, pos := "span.go:80", after := #[{ on := 5, ground := Ground.data }, { on := 3, ground := Ground.data }, { on := 6, ground := Ground.chain }, { on := 0, ground := Ground.phase }, { on := 1, ground := Ground.phase }, { on := 2, ground := Ground.phase }, { on := 3, ground := Ground.phase }, { on := 4, ground := Ground.phase }, { on := 5, ground := Ground.phase }, { on := 6, ground := Ground.phase }], guard := none }) rfl (fun K hK => ?_) AllReadyH.nil
              · skip
                refine stepStore ?_ (.tmp 7) (.tmp 11) ?_ m88 u2 v2 e2 e2 ?_ ?_ (j96.thereG _) ?_
                · rfl
                · rfl
                · rfl
                · rfl
                refine hK.out _ _ (A3u (j96.fin u1 v1 u2 v2 e1 e1 e2 e2).2.2 HS.out) (fun _ => ?_)
                clear hK K
                (try simp only [Act.put]); (try simp only [List.setIfInBounds_toArray]); (try simp only [List.set_cons_succ]); (try simp only [List.set_cons_zero])
                refine wpAnyH_done (by kernel_rfl) ?_ _
                refine NoPanic.normal ?_
                go_wp2_with fail
                go_meet
                case rel => exact ⟨m94, m88, rfl, rfl, (j96.fin u1 v1 u2 v2 e1 e1 e2 e2).1, (j96.fin u1 v1 u2 v2 e1 e1 e2 e2).2.1, (j96.fin u1 v1 u2 v2 e1 e1 e2 e2).2.2, (j96.2.1 _ rfl).1, (j96.2.2.1 _ rfl).1⟩
  case rest =>
    obtain ⟨m, n, rfl, rfl, sm, sn, U1, Lm, Ln⟩ := hcut
    have UW : Up w wc := U0.trans U1
    have t0 : S1 (w.heap.size + 2) 0 0 false false wc := (A3.up HS.out U1).2.1
    have t1 : S1 (w.heap.size + 2) 0 0 false false wc.drew := S1.up ((Up.refl _).drew) t0
    have hT0 : T2 m u1 v1 e1 n u2 v2 e2 wc := ⟨sm, sn⟩
    have hmk : Hid (m ≠ w.heap.size + 2 ∧ n ≠ w.heap.size + 2) := hid (by have := Z0.out; omega)
    clear HS HA HB U0 U1 Z0 Lm Ln
    obtain ⟨R1, R2, R3, R4⟩ := hR.out
    clear hR
    cases e1
    · cases e2
      · clear h1 h2 R1 R2
        go_wp2_with fail
        go_region_held3 (T2 m u1 v1 false n u2 v2 false) (first | assumption | (refine T2.up ?_ hT0; (repeat (first | exact Up.refl _ | assumption | refine Up.drew ?_ | refine Up.alloc ?_ _ | refine Up.trans ?_ ‹Up _ _›)); done)) (first | (go_at_call 38; refine (none_any _).mono ?_; rintro o w5 ⟨rfl, hb5⟩; have t5 : S1 (w.heap.size + 2) 0 0 false false w5 := S1.up hb5 (by first | assumption | (apply S1.up; exact Up.drew (Up.refl _); assumption))))
        have hT5 : T2 m u1 v1 false n u2 v2 false w5 := by assumption
        go_wp2_with fail
        go_region_held3 (T2 m u1 v1 false n u2 v2 false) (first | assumption | (refine T2.up ?_ hT5; (repeat (first | exact Up.refl _ | assumption | refine Up.drew ?_ | refine Up.alloc ?_ _ | refine Up.trans ?_ ‹Up _ _›)); done)) (first | (go_at_call 38; refine (none_any _).mono ?_; rintro o w6 ⟨rfl, hb6⟩; have t6 : S1 (w.heap.size + 2) 0 0 false false w6 := S1.up hb6 (by first | assumption | (apply S1.up; exact Up.drew (Up.refl _); assumption))))
        have hT6' : T2 m u1 v1 false n u2 v2 false w6 := by assumption
        have UW6' : Up w w6 := (by repeat (first | exact Up.refl _ | assumption | refine Up.drew ?_ | refine Up.drewN ?_ _ | refine Up.alloc ?_ _ | refine Up.setCell ?_ ?_ _ | exact Nat.le_refl _ | exact Nat.le_add_right _ _ | (dsimp only; omega) | refine Up.trans ?_ ‹Up _ _›))
        clear hb5 hb6 UW hT0 hT5 t0 t1 t5
        cases k1
        · cases k2
          · obtain ⟨rfl, rfl, rfl, rfl⟩ := R4 rfl
            clear R3 R4
            go_upto_region 8 with (first | (go_at_call_of 44 ([Value.agg #[Value.float FloatKind.f64 u2, Value.float FloatKind.f64 v2, Value.bool false, Value.bool false]]); refine (HG1.out _).mono ?_; rintro o w7 ⟨rfl, hb7⟩; have t7 : S1 (w.heap.size + 2) 0 0 false false w7 := S1.up hb7 (by assumption); have hT7 : T2 m u1 v1 false n u2 v2 false w7 := T2.up hb7 (by assumption)) | (go_at_call_of 44 ([Value.agg #[Value.float FloatKind.f64 u1, Value.float FloatKind.f64 v1, Value.bool false, Value.bool false]]); refine (HG2.out _).mono ?_; rintro o w7 ⟨rfl, hb7⟩; have t7 : S1 (w.heap.size + 2) 0 0 false false w7 := S1.up hb7 (by assumption); have hT7 : T2 m u1 v1 false n u2 v2 false w7 := T2.up hb7 (by assumption)) | (go_at_call 38; refine (none_any _).mono ?_; rintro o w8 ⟨rfl, hb8⟩; have t8 : S1 (w.heap.size + 2) 0 0 false false w8 := S1.up hb8 (by first | assumption | (apply S1.up; exact Up.drew (Up.refl _); assumption))))
            have UW7 : Up w w7 := UW6'.trans (by (repeat (first | exact Up.refl _ | assumption | refine Up.trans ?_ ‹Up _ _›)))
            have t7a : S1 (w.heap.size + 2) 0 0 false false w7 := by assumption
            have hT7a : T2 m u1 v1 false n u2 v2 false w7 := by assumption
            clear hb7 hT6' t6
            have t6 := t7a
            have hT6 := hT7a
            have UW6 := UW7
            clear t7a hT7a UW7
            refine wp_region_noPanic ?_
            refine wp_region_held_drew (S := T2 m u1 v1 false n u2 v2 false) (by kernel_rfl) ?_ (fun hHeld => ?_)
            · exact T2.up ((Up.refl _).drew) hT6
            (try simp only [Act.put]); (try simp only [List.setIfInBounds_toArray]); (try simp only [List.set_cons_succ]); (try simp only [List.set_cons_zero])
            clear hHeld
            refine wpAnyH_take (i := 0) (oi := { dst := some 32, op := Op.fieldAddr 31 (Operand.tmp 6) 0, type := 0, pos := "span.go:89", after := #[], guard := none }) (v := ?vk97) rfl (by kernel_rfl) (by kernel_rfl) (by kernel_rfl) (fun _ _ _ h => h) (Or.inl ⟨by rfl, ?hk97⟩) (T2.up ((Up.refl w7).drew) hT6) ?rk97
            case hk97 => (intro wz hSw; (try dsimp only at hSw); go_simp; try with_reducible rfl)
            (try simp only [Act.put]); (try simp only [List.setIfInBounds_toArray]); (try simp only [List.set_cons_succ]); (try simp only [List.set_cons_zero])
            refine wpAnyH_take (i := 1) (oi := { dst := some 33, op := Op.load 23 (Operand.tmp 32), type := 23, pos := "span.go:89", after := #[{ on := 0, ground := Ground.data }], guard := none }) (v := ?vk98) rfl (by kernel_rfl) (by kernel_rfl) (by kernel_rfl) (fun _ _ _ h => h) (Or.inl ⟨by rfl, ?hk98⟩) (T2.up ((Up.refl w7).drew) hT6) ?rk98
            case hk98 => (intro wz hSw; (try dsimp only at hSw); go_simp; try with_reducible rfl)
            (try simp only [Act.put]); (try simp only [List.setIfInBounds_toArray]); (try simp only [List.set_cons_succ]); (try simp only [List.set_cons_zero])
            refine wpAnyH_take (i := 2) (oi := { dst := some 34, op := Op.fieldAddr 31 (Operand.tmp 7) 0, type := 0, pos := "span.go:89", after := #[], guard := none }) (v := ?vk99) rfl (by kernel_rfl) (by kernel_rfl) (by kernel_rfl) (fun _ _ _ h => h) (Or.inl ⟨by rfl, ?hk99⟩) (T2.up ((Up.refl w7).drew) hT6) ?rk99
            case hk99 => (intro wz hSw; (try dsimp only at hSw); go_simp; try with_reducible rfl)
            (try simp only [Act.put]); (try simp only [List.setIfInBounds_toArray]); (try simp only [List.set_cons_succ]); (try simp only [List.set_cons_zero])
            refine wpAnyH_take (i := 3) (oi := { dst := some 35, op := Op.load 23 (Operand.tmp 34), type := 23, pos := "span.go:89", after := #[{ on := 2, ground := Ground.data }], guard := none }) (v := ?vk100) rfl (by kernel_rfl) (by kernel_rfl) (by kernel_rfl) (fun _ _ _ h => h) (Or.inl ⟨by rfl, ?hk100⟩) (T2.up ((Up.refl w7).drew) hT6) ?rk100
            case hk100 => (intro wz hSw; (try dsimp only at hSw); go_simp; try with_reducible rfl)
            (try simp only [Act.put]); (try simp only [List.setIfInBounds_toArray]); (try simp only [List.set_cons_succ]); (try simp only [List.set_cons_zero])
            refine wpAnyH_take (i := 6) (oi := { dst := some 38, op := Op.fieldAddr 31 (Operand.tmp 6) 1, type := 0, pos := "span.go:89", after := #[], guard := none }) (v := ?vk101) rfl (by kernel_rfl) (by kernel_rfl) (by kernel_rfl) (fun _ _ _ h => h) (Or.inl ⟨by rfl, ?hk101⟩) (T2.up ((Up.refl w7).drew) hT6) ?rk101
            case hk101 => (intro wz hSw; (try dsimp only at hSw); go_simp; try with_reducible rfl)
            (try simp only [Act.put]); (try simp only [List.setIfInBounds_toArray]); (try simp only [List.set_cons_succ]); (try simp only [List.set_cons_zero])
            refine wpAnyH_take (i := 7) (oi := { dst := some 39, op := Op.load 23 (Operand.tmp 38), type := 23, pos := "span.go:89", after := #[{ on := 6, ground := Ground.data }], guard := none }) (v := ?vk102) rfl (by kernel_rfl) (by kernel_rfl) (by kernel_rfl) (fun _ _ _ h => h) (Or.inl ⟨by rfl, ?hk102⟩) (T2.up ((Up.refl w7).drew) hT6) ?rk102
            case hk102 => (intro wz hSw; (try dsimp only at hSw); go_simp; try with_reducible rfl)
            (try simp only [Act.put]); (try simp only [List.setIfInBounds_toArray]); (try simp only [List.set_cons_succ]); (try simp only [List.set_cons_zero])
            refine wpAnyH_take (i := 8) (oi := { dst := some 40, op := Op.fieldAddr 31 (Operand.tmp 7) 1, type := 0, pos := "span.go:89", after := #[], guard := none }) (v := ?vk103) rfl (by kernel_rfl) (by kernel_rfl) (by kernel_rfl) (fun _ _ _ h => h) (Or.inl ⟨by rfl, ?hk103⟩) (T2.up ((Up.refl w7).drew) hT6) ?rk103
            case hk103 => (intro wz hSw; (try dsimp only at hSw); go_simp; try with_reducible rfl)
            (try simp only [Act.put]); (try simp only [List.setIfInBounds_toArray]); (try simp only [List.set_cons_succ]); (try simp only [List.set_cons_zero])
            refine wpAnyH_take (i := 9) (oi := { dst := some 41, op := Op.load 23 (Operand.tmp 40), type := 23, pos := "span.go:89", after := #[{ on := 8, ground := Ground.data }], guard := none }) (v := ?vk104) rfl (by kernel_rfl) (by kernel_rfl) (by kernel_rfl) (fun _ _ _ h => h) (Or.inl ⟨by rfl, ?hk104⟩) (T2.up ((Up.refl w7).drew) hT6) ?rk104
            case hk104 => (intro wz hSw; (try dsimp only at hSw); go_simp; try with_reducible rfl)
            (try simp only [Act.put]); (try simp only [List.setIfInBounds_toArray]); (try simp only [List.set_cons_succ]); (try simp only [List.set_cons_zero])
            refine wpAnyH_ready (rs := [4, 10]) (by kernel_rfl) (by simp) ?_
            refine AllReadyH.cons (o := { dst := some 36, op := Op.buildSlice 22 2 #[(0, Operand.tmp 33), (1, Operand.tmp 35)], type := 22, pos := "span.go:89", after := #[{ on := 1, ground := Ground.data }, { on := 3, ground := Ground.data }], guard := none }) rfl (fun K hK => ?_) (AllReadyH.cons (o := { dst := some 42, op := Op.buildSlice 22 2 #[(0, Operand.tmp 39), (1, Operand.tmp 41)], type := 22, pos := "span.go:89", after := #[{ on := 7, ground := Ground.data }, { on := 9, ground := Ground.data }], guard := none }) rfl (fun K hK => ?_) AllReadyH.nil)
            · skip
              refine stepBuild2 ?_ (.tmp 33) (.tmp 35) ?_ u1 u2 ?_ ?_ ?_
              · rfl
              · rfl
              · rfl
              · rfl
              intro m105 x105 hm105 hx105
              obtain ⟨r105, b105⟩ := R2.new (u := u1) (v := u2) hm105 hx105
              clear hm105 hx105
              have U105 := ((Up.refl w7).drew).trans b105
              refine hK.out _ _ (T2.up U105 hT6) (fun _ => ?_)
              clear hK K
              (try simp only [Act.put]); (try simp only [List.setIfInBounds_toArray]); (try simp only [List.set_cons_succ]); (try simp only [List.set_cons_zero])
              refine wpAnyH_ready (rs := [5, 10]) (by kernel_rfl) (by simp) ?_
              refine AllReadyH.cons (o := { dst := some 37, op := Op.call { callee := Callee.value (Operand.func 9), args := #[Operand.tmp 36], argTypes := #[22] }, type := 23, pos := "span.go:89", after := #[{ on := 4, ground := Ground.data }], guard := none }) rfl (fun K hK => ?_) (AllReadyH.cons (o := { dst := some 42, op := Op.buildSlice 22 2 #[(0, Operand.tmp 39), (1, Operand.tmp 41)], type := 22, pos := "span.go:89", after := #[{ on := 7, ground := Ground.data }, { on := 9, ground := Ground.data }], guard := none }) rfl (fun K hK => ?_) AllReadyH.nil)
              · skip
                refine stepCall1 ?_ 9 (.tmp 36) #[22] ?_ (.slice (some ⟨m105, 0, none⟩) 2 2) ?_ ?_ (enter_least _ _) ?_
                · rfl
                · rfl
                · rfl
                · rfl
                refine (HL.out _ _ _ r105.1 r105.2).mono ?_
                rintro o y106 ⟨rfl, hy106⟩
                have hz106 := hy106.symm
                subst hz106
                clear hy106
                refine ⟨_, rfl, ?_⟩
                refine hK.out _ _ (T2.up U105 hT6) (fun _ => ?_)
                clear hK K
                (try simp only [Act.put]); (try simp only [List.setIfInBounds_toArray]); (try simp only [List.set_cons_succ]); (try simp only [List.set_cons_zero])
                refine wpAnyH_ready (rs := [10]) (by kernel_rfl) (by simp) ?_
                refine AllReadyH.cons (o := { dst := some 42, op := Op.buildSlice 22 2 #[(0, Operand.tmp 39), (1, Operand.tmp 41)], type := 22, pos := "span.go:89", after := #[{ on := 7, ground := Ground.data }, { on := 9, ground := Ground.data }], guard := none }) rfl (fun K hK => ?_) AllReadyH.nil
                · skip
                  refine stepBuild2 ?_ (.tmp 39) (.tmp 41) ?_ v1 v2 ?_ ?_ ?_
                  · rfl
                  · rfl
                  · rfl
                  · rfl
                  intro m107 x107 hm107 hx107
                  obtain ⟨r107, b107⟩ := R2.new (u := v1) (v := v2) hm107 hx107
                  clear hm107 hx107
                  have U107 := U105.trans b107
                  have r105_107 := r105.up b107
                  refine hK.out _ _ (T2.up U107 hT6) (fun _ => ?_)
                  clear hK K
                  (try simp only [Act.put]); (try simp only [List.setIfInBounds_toArray]); (try simp only [List.set_cons_succ]); (try simp only [List.set_cons_zero])
                  refine wpAnyH_ready (rs := [11]) (by kernel_rfl) (by simp) ?_
                  refine AllReadyH.cons (o := { dst := some 43, op := Op.call { callee := Callee.value (Operand.func 10), args := #[Operand.tmp 42], argTypes := #[22] }, type := 23, pos := "span.go:89", after := #[{ on := 10, ground := Ground.data }, { on := 5, ground := Ground.chain }], guard := none }) rfl (fun K hK => ?_) AllReadyH.nil
                  · skip
                    refine stepCall1 ?_ 10 (.tmp 42) #[22] ?_ (.slice (some ⟨m107, 0, none⟩) 2 2) ?_ ?_ (enter_most _ _) ?_
                    · rfl
                    · rfl
                    · rfl
                    · rfl
                    refine (HM.out _ _ _ r107.1 r107.2).mono ?_
                    rintro o y108 ⟨rfl, hy108⟩
                    have hz108 := hy108.symm
                    subst hz108
                    clear hy108
                    refine ⟨_, rfl, ?_⟩
                    refine hK.out _ _ (T2.up U107 hT6) (fun _ => ?_)
                    clear hK K
                    (try simp only [Act.put]); (try simp only [List.setIfInBounds_toArray]); (try simp only [List.set_cons_succ]); (try simp only [List.set_cons_zero])
                    refine wpAnyH_take (i := 12) (oi := { dst := some 44, op := Op.build 31 #[(0, Operand.tmp 37), (1, Operand.tmp 43)], type := 31, pos := "span.go:89", after := #[{ on := 5, ground := Ground.data }, { on := 11, ground := Ground.data }], guard := none }) (v := ?vk109) rfl (by kernel_rfl) (by kernel_rfl) (by kernel_rfl) (fun _ _ _ h => h) (Or.inl ⟨by rfl, ?hk109⟩) (T2.up U107 hT6) ?rk109
                    case hk109 => (intro wz hSw; (try dsimp only at hSw); go_simp; try with_reducible rfl)
                    (try simp only [Act.put]); (try simp only [List.setIfInBounds_toArray]); (try simp only [List.set_cons_succ]); (try simp only [List.set_cons_zero])
                    refine wpAnyH_ready (rs := [13]) (by kernel_rfl) (by simp) ?_
                    refine AllReadyH.cons (o := { dst := none, op := Op.store 31 (Operand.tmp 4) (Operand.tmp 44), type := 0, pos := "span.go:89", after := #[{ on := 12, ground := Ground.data }, { on := 11, ground := Ground.chain }, { on := 0, ground := Ground.phase }, { on := 1, ground := Ground.phase }, { on := 2, ground := Ground.phase }, { on := 3, ground := Ground.phase }, { on := 4, ground := Ground.phase }, { on := 5, ground := Ground.phase }, { on := 6, ground := Ground.phase }, { on := 7, ground := Ground.phase }, { on := 8, ground := Ground.phase }, { on := 9, ground := Ground.phase }, { on := 10, ground := Ground.phase }, { on := 11, ground := Ground.phase }, { on := 12, ground := Ground.phase }], guard := none }) rfl (fun K hK => ?_) AllReadyH.nil
                    · skip
                      have tt : S1 (w.heap.size + 2) 0 0 false false x107 := S1.up U107 t6
                      refine stepStore ?_ (.tmp 4) (.tmp 44) ?_ (w.heap.size + 2) (Fl.mn u1 u2) (Fl.mx v1 v2) false false ?_ ?_ (tt.1.there tt.2) ?_
                      · rfl
                      · rfl
                      · rfl
                      · rfl
                      refine hK.out _ _ ⟨(SpAt.up U107 hT6.1).far hmk.out.1 _ _, (SpAt.up U107 hT6.2).far hmk.out.2 _ _⟩ (fun _ => ?_)
                      clear hK K
                      (try simp only [Act.put]); (try simp only [List.setIfInBounds_toArray]); (try simp only [List.set_cons_succ]); (try simp only [List.set_cons_zero])
                      refine wpAnyH_ready (rs := [14]) (by kernel_rfl) (by simp) ?_
                      refine AllReadyH.cons (o := { dst := some 5, op := Op.assign (Operand.const (Value.bool true)), type := 4, pos := "span.go:89", after := #[{ on := 13, ground := Ground.chain }, { on := 0, ground := Ground.phase }, { on := 1, ground := Ground.phase }, { on := 2, ground := Ground.phase }, { on := 3, ground := Ground.phase }, { on := 4, ground := Ground.phase }, { on := 5, ground := Ground.phase }, { on := 6, ground := Ground.phase }, { on := 7, ground := Ground.phase }, { on := 8, ground := Ground.phase }, { on := 9, ground := Ground.phase }, { on := 10, ground := Ground.phase }, { on := 11, ground := Ground.phase }, { on := 12, ground := Ground.phase }, { on := 13, ground := Ground.phase }], guard := none }) rfl (fun K hK => ?_) AllReadyH.nil
                      · skip
                        go_simp
                        refine hK.out _ _ ⟨(SpAt.up U107 hT6.1).far hmk.out.1 _ _, (SpAt.up U107 hT6.2).far hmk.out.2 _ _⟩ (fun _ => ?_)
                        clear hK K
                        (try simp only [Act.put]); (try simp only [List.setIfInBounds_toArray]); (try simp only [List.set_cons_succ]); (try simp only [List.set_cons_zero])
                        refine wpAnyH_done (by kernel_rfl) ?_ _
                        refine NoPanic.normal ?_
                        have fin := tt.1.stored (Fl.mn u1 u2) (Fl.mx v1 v2) false false
                        have UF : Up w (x107.setCells (w.heap.size + 2) 0 (spanRow (Fl.mn u1 u2) (Fl.mx v1 v2) false false)) := Up.setCells (Nat.le_add_right _ _) _ _ (UW6.trans U107)
                        generalize x107.setCells (w.heap.size + 2) 0 (spanRow (Fl.mn u1 u2) (Fl.mx v1 v2) false false) = xf at fin UF ⊢
                        go_wp2
                        exact bodyPost_ret (v := .tuple #[.agg #[.float .f64 (Fl.mn u1 u2), .float .f64 (Fl.mx v1 v2), .bool false, .bool false], .bool true]) (by simp [results, Try.results23, go_sem, fin]) rfl ⟨rfl, UF⟩
              · skip
                refine stepBuild2 ?_ (.tmp 39) (.tmp 41) ?_ v1 v2 ?_ ?_ ?_
                · rfl
                · rfl
                · rfl
                · rfl
                intro m110 x110 hm110 hx110
                obtain ⟨r110, b110⟩ := R2.new (u := v1) (v := v2) hm110 hx110
                clear hm110 hx110
                have U110 := U105.trans b110
                have r105_110 := r105.up b110
                refine hK.out _ _ (T2.up U110 hT6) (fun _ => ?_)
                clear hK K
                (try simp only [Act.put]); (try simp only [List.setIfInBounds_toArray]); (try simp only [List.set_cons_succ]); (try simp only [List.set_cons_zero])
                refine wpAnyH_ready (rs := [5]) (by kernel_rfl) (by simp) ?_
                refine AllReadyH.cons (o := { dst := some 37, op := Op.call { callee := Callee.value (Operand.func 9), args := #[Operand.tmp 36], argTypes := #[22] }, type := 23, pos := "span.go:89", after := #[{ on := 4, ground := Ground.data }], guard := none }) rfl (fun K hK => ?_) AllReadyH.nil
                · skip
                  refine stepCall1 ?_ 9 (.tmp 36) #[22] ?_ (.slice (some ⟨m105, 0, none⟩) 2 2) ?_ ?_ (enter_least _ _) ?_
                  · rfl
                  · rfl
                  · rfl
                  · rfl
                  refine (HL.out _ _ _ r105_110.1 r105_110.2).mono ?_
                  rintro o y111 ⟨rfl, hy111⟩
                  have hz111 := hy111.symm
                  subst hz111
                  clear hy111
                  refine ⟨_, rfl, ?_⟩
                  refine hK.out _ _ (T2.up U110 hT6) (fun _ => ?_)
                  clear hK K
                  (try simp only [Act.put]); (try simp only [List.setIfInBounds_toArray]); (try simp only [List.set_cons_succ]); (try simp only [List.set_cons_zero])
                  refine wpAnyH_ready (rs := [11]) (by kernel_rfl) (by simp) ?_
                  refine AllReadyH.cons (o := { dst := some 43, op := Op.call { callee := Callee.value (Operand.func 10), args := #[Operand.tmp 42], argTypes := #[22] }, type := 23, pos := "span.go:89", after := #[{ on := 10, ground := Ground.data }, { on := 5, ground := Ground.chain }], guard := none }) rfl (fun K hK => ?_) AllReadyH.nil
                  · skip
                    refine stepCall1 ?_ 10 (.tmp 42) #[22] ?_ (.slice (some ⟨m110, 0, none⟩) 2 2) ?_ ?_ (enter_most _ _) ?_
                    · rfl
                    · rfl
                    · rfl
                    · rfl
                    refine (HM.out _ _ _ r110.1 r110.2).mono ?_
                    rintro o y112 ⟨rfl, hy112⟩
                    have hz112 := hy112.symm
                    subst hz112
                    clear hy112
                    refine ⟨_, rfl, ?_⟩
                    refine hK.out _ _ (T2.up U110 hT6) (fun _ => ?_)
                    clear hK K
                    (try simp only [Act.put]); (try simp only [List.setIfInBounds_toArray]); (try simp only [List.set_cons_succ]); (try simp only [List.set_cons_zero])
                    refine wpAnyH_take (i := 12) (oi := { dst := some 44, op := Op.build 31 #[(0, Operand.tmp 37), (1, Operand.tmp 43)], type := 31, pos := "span.go:89", after := #[{ on := 5, ground := Ground.data }, { on := 11, ground := Ground.data }], guard := none }) (v := ?vk113) rfl (by kernel_rfl) (by kernel_rfl) (by kernel_rfl) (fun _ _ _ h => h) (Or.inl ⟨by rfl, ?hk113⟩) (T2.up U110 hT6) ?rk113
                    case hk113 => (intro wz hSw; (try dsimp only at hSw); go_simp; try with_reducible rfl)
                    (try simp only [Act.put]); (try simp only [List.setIfInBounds_toArray]); (try simp only [List.set_cons_succ]); (try simp only [List.set_cons_zero])
                    refine wpAnyH_ready (rs := [13]) (by kernel_rfl) (by simp) ?_
                    refine AllReadyH.cons (o := { dst := none, op := Op.store 31 (Operand.tmp 4) (Operand.tmp 44), type := 0, pos := "span.go:89", after := #[{ on := 12, ground := Ground.data }, { on := 11, ground := Ground.chain }, { on := 0, ground := Ground.phase }, { on := 1, ground := Ground.phase }, { on := 2, ground := Ground.phase }, { on := 3, ground := Ground.phase }, { on := 4, ground := Ground.phase }, { on := 5, ground := Ground.phase }, { on := 6, ground := Ground.phase }, { on := 7, ground := Ground.phase }, { on := 8, ground := Ground.phase }, { on := 9, ground := Ground.phase }, { on := 10, ground := Ground.phase }, { on := 11, ground := Ground.phase }, { on := 12, ground := Ground.phase }], guard := none }) rfl (fun K hK => ?_) AllReadyH.nil
                    · skip
                      have tt : S1 (w.heap.size + 2) 0 0 false false x110 := S1.up U110 t6
                      refine stepStore ?_ (.tmp 4) (.tmp 44) ?_ (w.heap.size + 2) (Fl.mn u1 u2) (Fl.mx v1 v2) false false ?_ ?_ (tt.1.there tt.2) ?_
                      · rfl
                      · rfl
                      · rfl
                      · rfl
                      refine hK.out _ _ ⟨(SpAt.up U110 hT6.1).far hmk.out.1 _ _, (SpAt.up U110 hT6.2).far hmk.out.2 _ _⟩ (fun _ => ?_)
                      clear hK K
                      (try simp only [Act.put]); (try simp only [List.setIfInBounds_toArray]); (try simp only [List.set_cons_succ]); (try simp only [List.set_cons_zero])
                      refine wpAnyH_ready (rs := [14]) (by kernel_rfl) (by simp) ?_
                      refine AllReadyH.cons (o := { dst := some 5, op := Op.assign (Operand.const (Value.bool true)), type := 4, pos := "span.go:89", after := #[{ on := 13, ground := Ground.chain }, { on := 0, ground := Ground.phase }, { on := 1, ground := Ground.phase }, { on := 2, ground := Ground.phase }, { on := 3, ground := Ground.phase }, { on := 4, ground := Ground.phase }, { on := 5, ground := Ground.phase }, { on := 6, ground := Ground.phase }, { on := 7, ground := Ground.phase }, { on := 8, ground := Ground.phase }, { on := 9, ground := Ground.phase }, { on := 10, ground := Ground.phase }, { on := 11, ground := Ground.phase }, { on := 12, ground := Ground.phase }, { on := 13, ground := Ground.phase }], guard := none }) rfl (fun K hK => ?_) AllReadyH.nil
                      · skip
                        go_simp
                        refine hK.out _ _ ⟨(SpAt.up U110 hT6.1).far hmk.out.1 _ _, (SpAt.up U110 hT6.2).far hmk.out.2 _ _⟩ (fun _ => ?_)
                        clear hK K
                        (try simp only [Act.put]); (try simp only [List.setIfInBounds_toArray]); (try simp only [List.set_cons_succ]); (try simp only [List.set_cons_zero])
                        refine wpAnyH_done (by kernel_rfl) ?_ _
                        refine NoPanic.normal ?_
                        have fin := tt.1.stored (Fl.mn u1 u2) (Fl.mx v1 v2) false false
                        have UF : Up w (x110.setCells (w.heap.size + 2) 0 (spanRow (Fl.mn u1 u2) (Fl.mx v1 v2) false false)) := Up.setCells (Nat.le_add_right _ _) _ _ (UW6.trans U110)
                        generalize x110.setCells (w.heap.size + 2) 0 (spanRow (Fl.mn u1 u2) (Fl.mx v1 v2) false false) = xf at fin UF ⊢
                        go_wp2
                        exact bodyPost_ret (v := .tuple #[.agg #[.float .f64 (Fl.mn u1 u2), .float .f64 (Fl.mx v1 v2), .bool false, .bool false], .bool true]) (by simp [results, Try.results23, go_sem, fin]) rfl ⟨rfl, UF⟩
            · skip
              refine stepBuild2 ?_ (.tmp 39) (.tmp 41) ?_ v1 v2 ?_ ?_ ?_
              · rfl
              · rfl
              · rfl
              · rfl
              intro m114 x114 hm114 hx114
              obtain ⟨r114, b114⟩ := R2.new (u := v1) (v := v2) hm114 hx114
              clear hm114 hx114
              have U114 := ((Up.refl w7).drew).trans b114
              refine hK.out _ _ (T2.up U114 hT6) (fun _ => ?_)
              clear hK K
              (try simp only [Act.put]); (try simp only [List.setIfInBounds_toArray]); (try simp only [List.set_cons_succ]); (try simp only [List.set_cons_zero])
              refine wpAnyH_ready (rs := [4]) (by kernel_rfl) (by simp) ?_
              refine AllReadyH.cons (o := { dst := some 36, op := Op.buildSlice 22 2 #[(0, Operand.tmp 33), (1, Operand.tmp 35)], type := 22, pos := "span.go:89", after := #[{ on := 1, ground := Ground.data }, { on := 3, ground := Ground.data }], guard := none }) rfl (fun K hK => ?_) AllReadyH.nil
              · skip
                refine stepBuild2 ?_ (.tmp 33) (.tmp 35) ?_ u1 u2 ?_ ?_ ?_
                · rfl
                · rfl
                · rfl
                · rfl
                intro m115 x115 hm115 hx115
                obtain ⟨r115, b115⟩ := R2.new (u := u1) (v := u2) hm115 hx115
                clear hm115 hx115
                have U115 := U114.trans b115
                have r114_115 := r114.up b115
                refine hK.out _ _ (T2.up U115 hT6) (fun _ => ?_)
                clear hK K
                (try simp only [Act.put]); (try simp only [List.setIfInBounds_toArray]); (try simp only [List.set_cons_succ]); (try simp only [List.set_cons_zero])
                refine wpAnyH_ready (rs := [5]) (by kernel_rfl) (by simp) ?_
                refine AllReadyH.cons (o := { dst := some 37, op := Op.call { callee := Callee.value (Operand.func 9), args := #[Operand.tmp 36], argTypes := #[22] }, type := 23, pos := "span.go:89", after := #[{ on := 4, ground := Ground.data }], guard := none }) rfl (fun K hK => ?_) AllReadyH.nil
                · skip
                  refine stepCall1 ?_ 9 (.tmp 36) #[22] ?_ (.slice (some ⟨m115, 0, none⟩) 2 2) ?_ ?_ (enter_least _ _) ?_
                  · rfl
                  · rfl
                  · rfl
                  · rfl
                  refine (HL.out _ _ _ r115.1 r115.2).mono ?_
                  rintro o y116 ⟨rfl, hy116⟩
                  have hz116 := hy116.symm
                  subst hz116
                  clear hy116
                  refine ⟨_, rfl, ?_⟩
                  refine hK.out _ _ (T2.up U115 hT6) (fun _ => ?_)
                  clear hK K
                  (try simp only [Act.put]); (try simp only [List.setIfInBounds_toArray]); (try simp only [List.set_cons_succ]); (try simp only [List.set_cons_zero])
                  refine wpAnyH_ready (rs := [11]) (by kernel_rfl) (by simp) ?_
                  refine AllReadyH.cons (o := { dst := some 43, op := Op.call { callee := Callee.value (Operand.func 10), args := #[Operand.tmp 42], argTypes := #[22] }, type := 23, pos := "span.go:89", after := #[{ on := 10, ground := Ground.data }, { on := 5, ground := Ground.chain }], guard := none }) rfl (fun K hK => ?_) AllReadyH.nil
                  · skip
                    refine stepCall1 ?_ 10 (.tmp 42) #[22] ?_ (.slice (some ⟨m114, 0, none⟩) 2 2) ?_ ?_ (enter_most _ _) ?_
                    · rfl
                    · rfl
                    · rfl
                    · rfl
                    refine (HM.out _ _ _ r114_115.1 r114_115.2).mono ?_
                    rintro o y117 ⟨rfl, hy117⟩
                    have hz117 := hy117.symm
                    subst hz117
                    clear hy117
                    refine ⟨_, rfl, ?_⟩
                    refine hK.out _ _ (T2.up U115 hT6) (fun _ => ?_)
                    clear hK K
                    (try simp only [Act.put]); (try simp only [List.setIfInBounds_toArray]); (try simp only [List.set_cons_succ]); (try simp only [List.set_cons_zero])
                    refine wpAnyH_take (i := 12) (oi := { dst := some 44, op := Op.build 31 #[(0, Operand.tmp 37), (1, Operand.tmp 43)], type := 31, pos := "span.go:89", after := #[{ on := 5, ground := Ground.data }, { on := 11, ground := Ground.data }], guard := none }) (v := ?vk118) rfl (by kernel_rfl) (by kernel_rfl) (by kernel_rfl) (fun _ _ _ h => h) (Or.inl ⟨by rfl, ?hk118⟩) (T2.up U115 hT6) ?rk118
                    case hk118 => (intro wz hSw; (try dsimp only at hSw); go_simp; try with_reducible rfl)
                    (try simp only [Act.put]); (try simp only [List.setIfInBounds_toArray]); (try simp only [List.set_cons_succ]); (try simp only [List.set_cons_zero])
                    refine wpAnyH_ready (rs := [13]) (by kernel_rfl) (by simp) ?_
                    refine AllReadyH.cons (o := { dst := none, op := Op.store 31 (Operand.tmp 4) (Operand.tmp 44), type := 0, pos := "span.go:89", after := #[{ on := 12, ground := Ground.data }, { on := 11, ground := Ground.chain }, { on := 0, ground := Ground.phase }, { on := 1, ground := Ground.phase }, { on := 2, ground := Ground.phase }, { on := 3, ground := Ground.phase }, { on := 4, ground := Ground.phase }, { on := 5, ground := Ground.phase }, { on := 6, ground := Ground.phase }, { on := 7, ground := Ground.phase }, { on := 8, ground := Ground.phase }, { on := 9, ground := Ground.phase }, { on := 10, ground := Ground.phase }, { on := 11, ground := Ground.phase }, { on := 12, ground := Ground.phase }], guard := none }) rfl (fun K hK => ?_) AllReadyH.nil
                    · skip
                      have tt : S1 (w.heap.size + 2) 0 0 false false x115 := S1.up U115 t6
                      refine stepStore ?_ (.tmp 4) (.tmp 44) ?_ (w.heap.size + 2) (Fl.mn u1 u2) (Fl.mx v1 v2) false false ?_ ?_ (tt.1.there tt.2) ?_
                      · rfl
                      · rfl
                      · rfl
                      · rfl
                      refine hK.out _ _ ⟨(SpAt.up U115 hT6.1).far hmk.out.1 _ _, (SpAt.up U115 hT6.2).far hmk.out.2 _ _⟩ (fun _ => ?_)
                      clear hK K
                      (try simp only [Act.put]); (try simp only [List.setIfInBounds_toArray]); (try simp only [List.set_cons_succ]); (try simp only [List.set_cons_zero])
                      refine wpAnyH_ready (rs := [14]) (by kernel_rfl) (by simp) ?_
                      refine AllReadyH.cons (o := { dst := some 5, op := Op.assign (Operand.const (Value.bool true)), type := 4, pos := "span.go:89", after := #[{ on := 13, ground := Ground.chain }, { on := 0, ground := Ground.phase }, { on := 1, ground := Ground.phase }, { on := 2, ground := Ground.phase }, { on := 3, ground := Ground.phase }, { on := 4, ground := Ground.phase }, { on := 5, ground := Ground.phase }, { on := 6, ground := Ground.phase }, { on := 7, ground := Ground.phase }, { on := 8, ground := Ground.phase }, { on := 9, ground := Ground.phase }, { on := 10, ground := Ground.phase }, { on := 11, ground := Ground.phase }, { on := 12, ground := Ground.phase }, { on := 13, ground := Ground.phase }], guard := none }) rfl (fun K hK => ?_) AllReadyH.nil
                      · skip
                        go_simp
                        refine hK.out _ _ ⟨(SpAt.up U115 hT6.1).far hmk.out.1 _ _, (SpAt.up U115 hT6.2).far hmk.out.2 _ _⟩ (fun _ => ?_)
                        clear hK K
                        (try simp only [Act.put]); (try simp only [List.setIfInBounds_toArray]); (try simp only [List.set_cons_succ]); (try simp only [List.set_cons_zero])
                        refine wpAnyH_done (by kernel_rfl) ?_ _
                        refine NoPanic.normal ?_
                        have fin := tt.1.stored (Fl.mn u1 u2) (Fl.mx v1 v2) false false
                        have UF : Up w (x115.setCells (w.heap.size + 2) 0 (spanRow (Fl.mn u1 u2) (Fl.mx v1 v2) false false)) := Up.setCells (Nat.le_add_right _ _) _ _ (UW6.trans U115)
                        generalize x115.setCells (w.heap.size + 2) 0 (spanRow (Fl.mn u1 u2) (Fl.mx v1 v2) false false) = xf at fin UF ⊢
                        go_wp2
                        exact bodyPost_ret (v := .tuple #[.agg #[.float .f64 (Fl.mn u1 u2), .float .f64 (Fl.mx v1 v2), .bool false, .bool false], .bool true]) (by simp [results, Try.results23, go_sem, fin]) rfl ⟨rfl, UF⟩
          · obtain ⟨rfl, rfl, rfl, rfl⟩ := R3 rfl
            clear R3 R4 HL HM
            go_wp2_with (first | (go_at_call_of 44 ([Value.agg #[Value.float FloatKind.f64 u2, Value.float FloatKind.f64 v2, Value.bool false, Value.bool false]]); refine (HG1.out _).mono ?_; rintro o w7 ⟨rfl, hb7⟩; have t7 : S1 (w.heap.size + 2) 0 0 false false w7 := S1.up hb7 (by assumption); have hT7 : T2 m u1 v1 false n u2 v2 false w7 := T2.up hb7 (by assumption)) | (go_at_call_of 44 ([Value.agg #[Value.float FloatKind.f64 u1, Value.float FloatKind.f64 v1, Value.bool false, Value.bool false]]); refine (HG2.out _).mono ?_; rintro o w7 ⟨rfl, hb7⟩; have t7 : S1 (w.heap.size + 2) 0 0 false false w7 := S1.up hb7 (by assumption); have hT7 : T2 m u1 v1 false n u2 v2 false w7 := T2.up hb7 (by assumption)) | (go_at_call 38; refine (none_any _).mono ?_; rintro o w8 ⟨rfl, hb8⟩; have t8 : S1 (w.heap.size + 2) 0 0 false false w8 := S1.up hb8 (by first | assumption | (apply S1.up; exact Up.drew (Up.refl _); assumption))))
            all_goals exact bodyPost_ret (v := .tuple #[.agg #[.float .f64 0, .float .f64 0, .bool true, .bool true], .bool false]) (by simp [results, Try.results23, go_sem, *]) rfl ⟨rfl, (by repeat (first | exact Up.refl _ | assumption | refine Up.drew ?_ | refine Up.drewN ?_ _ | refine Up.alloc ?_ _ | refine Up.setCell ?_ ?_ _ | exact Nat.le_refl _ | exact Nat.le_add_right _ _ | (dsimp only; omega) | refine Up.trans ?_ ‹Up _ _›))⟩
        · obtain ⟨rfl, rfl, rfl, rfl⟩ := R3 (by simp)
          clear R3 R4 HL HM
          go_wp2_with (first | (go_at_call_of 44 ([Value.agg #[Value.float FloatKind.f64 u2, Value.float FloatKind.f64 v2, Value.bool false, Value.bool false]]); refine (HG1.out _).mono ?_; rintro o w7 ⟨rfl, hb7⟩; have t7 : S1 (w.heap.size + 2) 0 0 false false w7 := S1.up hb7 (by assumption); have hT7 : T2 m u1 v1 false n u2 v2 false w7 := T2.up hb7 (by assumption)) | (go_at_call_of 44 ([Value.agg #[Value.float FloatKind.f64 u1, Value.float FloatKind.f64 v1, Value.bool false, Value.bool false]]); refine (HG2.out _).mono ?_; rintro o w7 ⟨rfl, hb7⟩; have t7 : S1 (w.heap.size + 2) 0 0 false false w7 := S1.up hb7 (by assumption); have hT7 : T2 m u1 v1 false n u2 v2 false w7 := T2.up hb7 (by assumption)) | (go_at_call 38; refine (none_any _).mono ?_; rintro o w8 ⟨rfl, hb8⟩; have t8 : S1 (w.heap.size + 2) 0 0 false false w8 := S1.up hb8 (by first | assumption | (apply S1.up; exact Up.drew (Up.refl _); assumption))))
          all_goals exact bodyPost_ret (v := .tuple #[.agg #[.float .f64 0, .float .f64 0, .bool true, .bool true], .bool false]) (by simp [results, Try.results23, go_sem, *]) rfl ⟨rfl, (by repeat (first | exact Up.refl _ | assumption | refine Up.drew ?_ | refine Up.drewN ?_ _ | refine Up.alloc ?_ _ | refine Up.setCell ?_ ?_ _ | exact Nat.le_refl _ | exact Nat.le_add_right _ _ | (dsimp only; omega) | refine Up.trans ?_ ‹Up _ _›))⟩
      · obtain ⟨rfl, rfl⟩ := h2 rfl
        obtain ⟨rfl, rfl, rfl, rfl⟩ := R2 rfl
        clear h1 h2 R1 R2 R3 R4 HL HM HG1 HG2
        go_wp2_with fail
        go_region_held3 (T2 m U V false n 0 0 true) (first | assumption | (refine T2.up ?_ hT0; (repeat (first | exact Up.refl _ | assumption | refine Up.drew ?_ | refine Up.alloc ?_ _ | refine Up.trans ?_ ‹Up _ _›)); done)) (first | (go_at_call 38; refine (none_any _).mono ?_; rintro o w5 ⟨rfl, hb5⟩; have t5 : S1 (w.heap.size + 2) 0 0 false false w5 := S1.up hb5 (by first | assumption | (apply S1.up; exact Up.drew (Up.refl _); assumption))))
        have hT5 : T2 m U V false n 0 0 true w5 := by assumption
        go_wp2_with fail
        go_region_held3 (T2 m U V false n 0 0 true) (first | assumption | (refine T2.up ?_ hT5; (repeat (first | exact Up.refl _ | assumption | refine Up.drew ?_ | refine Up.alloc ?_ _ | refine Up.trans ?_ ‹Up _ _›)); done)) (first | (go_at_call 38; refine (none_any _).mono ?_; rintro o w6 ⟨rfl, hb6⟩; have t6 : S1 (w.heap.size + 2) 0 0 false false w6 := S1.up hb6 (by first | assumption | (apply S1.up; exact Up.drew (Up.refl _); assumption))))
        all_goals go_wp2
        all_goals exact bodyPost_ret (v := .tuple #[.agg #[.float .f64 U, .float .f64 V, .bool false, .bool false], .bool true]) (by simp [results, Try.results23, go_sem, *]) rfl ⟨rfl, (by repeat (first | exact Up.refl _ | assumption | refine Up.drew ?_ | refine Up.drewN ?_ _ | refine Up.alloc ?_ _ | refine Up.setCell ?_ ?_ _ | exact Nat.le_refl _ | exact Nat.le_add_right _ _ | (dsimp only; omega) | refine Up.trans ?_ ‹Up _ _›))⟩
    · obtain ⟨rfl, rfl⟩ := h1 rfl
      obtain ⟨rfl, rfl, rfl, rfl⟩ := R1 rfl
      clear h1 h2 R1 R2 R3 R4 HL HM HG1 HG2
      go_wp2_with fail
      go_region_held3 (T2 m 0 0 true n U V E) (first | assumption | (refine T2.up ?_ hT0; (repeat (first | exact Up.refl _ | assumption | refine Up.drew ?_ | refine Up.alloc ?_ _ | refine Up.trans ?_ ‹Up _ _›)); done)) (first | (go_at_call 38; refine (none_any _).mono ?_; rintro o w5 ⟨rfl, hb5⟩; have t5 : S1 (w.heap.size + 2) 0 0 false false w5 := S1.up hb5 (by first | assumption | (apply S1.up; exact Up.drew (Up.refl _); assumption))))
      all_goals go_wp2
      all_goals exact bodyPost_ret (v := .tuple #[.agg #[.float .f64 U, .float .f64 V, .bool E, .bool E], .bool true]) (by simp [results, Try.results23, go_sem, *]) rfl ⟨rfl, (by repeat (first | exact Up.refl _ | assumption | refine Up.drew ?_ | refine Up.drewN ?_ _ | refine Up.alloc ?_ _ | refine Up.setCell ?_ ?_ _ | exact Nat.le_refl _ | exact Nat.le_add_right _ _ | (dsimp only; omega) | refine Up.trans ?_ ‹Up _ _›))⟩
theorem join_at {u1 v1 u2 v2 : Nat} {e1 e2 : Bool} (f1 : Fl.IsForm u1 v1 e1) (f2 : Fl.IsForm u2 v2 e2) (a b c d : Nat) (p q r s : Bool) (HA : Hid (∀ w, Calls Try.prog 29 #[.agg #[.float .f64 a, .float .f64 b, .bool p, .bool q]] w fun o w' => o = .returned (.agg #[.float .f64 u1, .float .f64 v1, .bool e1, .bool e1]) ∧ Up w w')) (HB : Hid (∀ w, Calls Try.prog 29 #[.agg #[.float .f64 c, .float .f64 d, .bool r, .bool s]] w fun o w' => o = .returned (.agg #[.float .f64 u2, .float .f64 v2, .bool e2, .bool e2]) ∧ Up w w')) (w : World) :
    Calls Try.prog 23 #[.agg #[.float .f64 a, .float .f64 b, .bool p, .bool q], .agg #[.float .f64 c, .float .f64 d, .bool r, .bool s]] w fun o w' => o = .returned (.tuple #[.agg #[.float .f64 (Fl.jU u1 v1 e1 u2 v2 e2), .float .f64 (Fl.jV u1 v1 e1 u2 v2 e2), .bool (Fl.jE u1 v1 e1 u2 v2 e2), .bool (Fl.jE u1 v1 e1 u2 v2 e2)], .bool (Fl.jK u1 v1 e1 u2 v2 e2)]) ∧ Up w w' := by
  have n1 := Fl.form_nan f1
  have n2 := Fl.form_nan f2
  refine join_core a b c d u1 v1 u2 v2 _ _ p q r s e1 e2 _ _ (Fl.gp v1 u2) (Fl.gp v2 u1) f1.2.2.1 f2.2.2.1 HA HB (fun m c W h0 h1 => least2 u1 u2 m c f1.1 f2.1 n1.2.2.1 n2.2.2.1 W h0 h1) (fun m c W h0 h1 => most2 v1 v2 m c f1.2.1 f2.2.1 n1.2.2.2 n2.2.2.2 W h0 h1) (fun w => gap_any u1 v1 u2 v2 f1.2.1 f2.1 false false false false w) (fun w => gap_any u2 v2 u1 v1 f2.2.1 f1.1 false false false false w) ?_ w
  refine ⟨?_, ?_, ?_, ?_⟩
  · rintro rfl; exact ⟨rfl, rfl, rfl, rfl⟩
  · intro h; obtain ⟨rfl, rfl⟩ : e1 = false ∧ e2 = true := by simpa using h
    exact ⟨rfl, rfl, rfl, rfl⟩
  · intro h; obtain ⟨⟨rfl, rfl⟩, hk⟩ : (e1 = false ∧ e2 = false) ∧ (Fl.gp v1 u2 || Fl.gp v2 u1) = true := by simpa using h
    have k : Fl.jK u1 v1 false u2 v2 false = false := by unfold Fl.jK; rw [hk]; rfl
    unfold Fl.jU Fl.jV Fl.jE; rw [k]; exact ⟨rfl, rfl, rfl, rfl⟩
  · intro h; obtain ⟨⟨rfl, rfl⟩, hk⟩ : (e1 = false ∧ e2 = false) ∧ (Fl.gp v1 u2 || Fl.gp v2 u1) = false := by simpa using h
    have k : Fl.jK u1 v1 false u2 v2 false = true := by unfold Fl.jK; rw [hk]; rfl
    unfold Fl.jU Fl.jV Fl.jE; rw [k]; exact ⟨rfl, rfl, rfl, rfl⟩
namespace Fl
theorem join_form {u1 v1 u2 v2 : Nat} {e1 e2 : Bool} (h1 : IsForm u1 v1 e1) (h2 : IsForm u2 v2 e2) : IsForm (jU u1 v1 e1 u2 v2 e2) (jV u1 v1 e1 u2 v2 e2) (jE u1 v1 e1 u2 v2 e2) := by
  have n1 := form_nan h1
  have n2 := form_nan h2
  cases e1
  · cases e2
    · cases k : jK u1 v1 false u2 v2 false
      · unfold jU jV jE; rw [k]; exact ⟨W0, W0, fun _ => ⟨rfl, rfl⟩, fun e => (by cases e)⟩
      · unfold jU jV jE; rw [k]
        have c1 := code_mn u1 u2
        have c2 := code_mx v1 v2
        have l1 := (h1.2.2.2 rfl).2.2.2.2
        have l2 := (h2.2.2.2 rfl).2.2.2.2
        refine ⟨mn_W h1.1 h2.1, mx_W h1.2.1 h2.2.1, fun e => (by cases e), fun _ => ⟨mn_canon n1.2.2.1 n2.2.2.1, mx_canon n1.2.2.2 n2.2.2.2, ?_, ?_, ?_⟩⟩
        · simp only [Bool.false_eq_true, if_false, if_true]; rcases mn_cases u1 u2 with ⟨e, _⟩ | ⟨e, _⟩ <;> rw [e]; exact n2.1; exact n1.1
        · simp only [Bool.false_eq_true, if_false, if_true]; rcases mx_cases v1 v2 with ⟨e, _⟩ | ⟨e, _⟩ <;> rw [e]; exact n2.2.1; exact n1.2.1
        · simp only [Bool.false_eq_true, if_false, if_true]; omega
    · exact h1
  · exact h2
end Fl
end Go.Proofs.Ytnggkncmcbcceaa
