/- span.Meet at every two spans; no condition. -/
import Derived.Test.YtnggkncmcbcceaaDr
import Derived.Test.YtnggkncmcbcceaaMt
import Derived.Test.YtnggkncmcbcceaaMm
import Derived.Test.YtnggkncmcbcceaaRg
namespace Go.Proofs.Ytnggkncmcbcceaa
open Go.RowKit
set_option linter.unusedVariables false
attribute [local go_sem] run_bits run_frombits run_store_float eqF
theorem most2 (u v m c : Nat) (hu : Fl.W u) (hv : Fl.W v) (cu : Fl.canon u = u) (cv : Fl.canon v = v) (W : World) (h0 : W.cell? ⟨m, 0, none⟩ = some (.float .f64 u)) (h1 : W.cell? ⟨m, 1, none⟩ = some (.float .f64 v)) :
    Calls Try.prog 10 #[.slice (some ⟨m, 0, none⟩) 2 c] W fun e w' => e = .returned (.float .f64 (Fl.mx u v)) ∧ w' = W := by
  have H := most_any m 0 2 c (fun j => if j = 0 then u else v) (by omega) (by unfold maxLen; omega) (fun i _ => by split <;> assumption) W (row2 u v m W h0 h1)
  have e : Fl.maxU (fun j => if j = 0 then u else v) (2 - 1) = Fl.mx u v := rfl
  rw [e, Fl.mx_canon cu cv] at H; exact H
theorem least2 (u v m c : Nat) (hu : Fl.W u) (hv : Fl.W v) (cu : Fl.canon u = u) (cv : Fl.canon v = v) (W : World) (h0 : W.cell? ⟨m, 0, none⟩ = some (.float .f64 u)) (h1 : W.cell? ⟨m, 1, none⟩ = some (.float .f64 v)) :
    Calls Try.prog 9 #[.slice (some ⟨m, 0, none⟩) 2 c] W fun e w' => e = .returned (.float .f64 (Fl.mn u v)) ∧ w' = W := by
  have H := least_any m 0 2 c (fun j => if j = 0 then u else v) (by omega) (by unfold maxLen; omega) (fun i _ => by split <;> assumption) W (row2 u v m W h0 h1)
  have e : Fl.minU (fun j => if j = 0 then u else v) (2 - 1) = Fl.mn u v := rfl
  rw [e, Fl.mn_canon cu cv] at H; exact H
/-- Two blocks that hold forms. -/
abbrev T2 (m u1 v1 : Nat) (e1 : Bool) (n u2 v2 : Nat) (e2 : Bool) (w : World) : Prop := SpAt m u1 v1 e1 e1 w ∧ SpAt n u2 v2 e2 e2 w
theorem T2.up {m u1 v1 : Nat} {e1 : Bool} {n u2 v2 : Nat} {e2 : Bool} {w w' : World} (u : Up w w') (h : T2 m u1 v1 e1 n u2 v2 e2 w) : T2 m u1 v1 e1 n u2 v2 e2 w' := ⟨SpAt.up u h.1, SpAt.up u h.2⟩
theorem SpAt.farC {m k a b : Nat} {p q : Bool} {w : World} (hn : m ≠ k) (h : SpAt m a b p q w) (o : Nat) (v : Value) : SpAt m a b p q (w.setCell ⟨k, o, none⟩ v) := by
  have H : ∀ j, (w.setCell ⟨k, o, none⟩ v).cell? ⟨m, j, none⟩ = w.cell? ⟨m, j, none⟩ := fun j => World.cell?_setCell_far w ⟨k, o, none⟩ ⟨m, j, none⟩ v (fun e => hn e.symm)
  exact ⟨by rw [H]; exact h.1, by rw [H]; exact h.2.1, by rw [H]; exact h.2.2.1, by rw [H]; exact h.2.2.2⟩
theorem T2.far {m u1 v1 : Nat} {e1 : Bool} {n u2 v2 : Nat} {e2 : Bool} {k : Nat} {w : World} (hm : m ≠ k ∧ n ≠ k) {o : Nat} {v : Value} (h : T2 m u1 v1 e1 n u2 v2 e2 w) : T2 m u1 v1 e1 n u2 v2 e2 (w.setCell ⟨k, o, none⟩ v) := ⟨SpAt.farC hm.1 h.1 o v, SpAt.farC hm.2 h.2 o v⟩

set_option maxHeartbeats 4000000 in
theorem meet_core (a b c d u1 v1 u2 v2 U V : Nat) (p q r s e1 e2 E : Bool) (h1 : e1 = true → u1 = 0 ∧ v1 = 0) (h2 : e2 = true → u2 = 0 ∧ v2 = 0) (hE : (e1 || e2) = true → E = true ∧ U = 0 ∧ V = 0)
    (HA : Hid (∀ w, Calls Try.prog 29 #[.agg #[.float .f64 a, .float .f64 b, .bool p, .bool q]] w fun e w' => e = .returned (.agg #[.float .f64 u1, .float .f64 v1, .bool e1, .bool e1]) ∧ Up w w')) (HB : Hid (∀ w, Calls Try.prog 29 #[.agg #[.float .f64 c, .float .f64 d, .bool r, .bool s]] w fun e w' => e = .returned (.agg #[.float .f64 u2, .float .f64 v2, .bool e2, .bool e2]) ∧ Up w w'))
    (HM : Hid (∀ m c W, W.cell? ⟨m, 0, none⟩ = some (.float .f64 u1) → W.cell? ⟨m, 1, none⟩ = some (.float .f64 u2) → Calls Try.prog 10 #[.slice (some ⟨m, 0, none⟩) 2 c] W fun e w' => e = .returned (.float .f64 (Fl.mx u1 u2)) ∧ w' = W))
    (HL : Hid (∀ m c W, W.cell? ⟨m, 0, none⟩ = some (.float .f64 v1) → W.cell? ⟨m, 1, none⟩ = some (.float .f64 v2) → Calls Try.prog 9 #[.slice (some ⟨m, 0, none⟩) 2 c] W fun e w' => e = .returned (.float .f64 (Fl.mn v1 v2)) ∧ w' = W))
    (HC : Hid ((e1 || e2) = false → ∀ w, Calls Try.prog 39 #[.float .f64 (Fl.mx u1 u2), .float .f64 (Fl.mn v1 v2)] w fun e w' => e = .returned (.agg #[.float .f64 U, .float .f64 V, .bool E, .bool E]) ∧ Up w w')) (w : World) :
    Calls Try.prog 14 #[.agg #[.float .f64 a, .float .f64 b, .bool p, .bool q], .agg #[.float .f64 c, .float .f64 d, .bool r, .bool s]] w fun e w' => e = .returned (.agg #[.float .f64 U, .float .f64 V, .bool E, .bool E]) ∧ Up w w' := by
  go_enter Try.func14, Try.ntmps14
  go_upto_region 1 with fail
  obtain ⟨w0, hw0⟩ : ∃ w0, w0 = (((w.alloc (Obj.cells #[Value.float FloatKind.f64 a, Value.float FloatKind.f64 b, Value.bool p, Value.bool q] 31)).alloc (Obj.cells #[Value.float FloatKind.f64 c, Value.float FloatKind.f64 d, Value.bool r, Value.bool s] 31)).alloc (Obj.cells #[Value.float FloatKind.f64 0, Value.float FloatKind.f64 0, Value.bool false, Value.bool false] 31)) := ⟨_, rfl⟩
  have s0 : A3 w0 w.heap.size a b p q (w.heap.size + 1) c d r s (w.heap.size + 2) w0 := by
    refine ⟨?_, ?_, Up.refl _⟩ <;> rw [hw0] <;> simp [SpAt, FrAt, go_sem]
  have U0 : Up w w0 := by rw [hw0]; exact (((Up.refl w).alloc _).alloc _).alloc _
  have z0 : w0.heap.size = w.heap.size + 3 := by rw [hw0]; simp
  rw [← hw0]
  have Z0 := hid z0
  clear hw0 z0
  have HS := hid s0
  clear s0
  go_cut [5, 6] (fun f g wx => ∃ m n : Nat, f = .pointer (some ⟨m, 0, none⟩) ∧ g = .pointer (some ⟨n, 0, none⟩) ∧ SpAt m u1 v1 e1 e1 wx ∧ SpAt n u2 v2 e2 e2 wx ∧ Up w0 wx ∧ w0.heap.size ≤ m ∧ w0.heap.size ≤ n)
  case first =>
    refine wp_region_noPanic ?_
    refine wp_region_held_drew (S := A3 w0 w.heap.size a b p q (w.heap.size + 1) c d r s (w.heap.size + 2)) (by kernel_rfl) ?_ (fun hHeld => ?_)
    · exact A3.up HS.out ((Up.refl _).drew)
    (try simp only [Act.put]); (try simp only [List.setIfInBounds_toArray]); (try simp only [List.set_cons_succ]); (try simp only [List.set_cons_zero])
    refine wpAnyH_take (i := 0) (oi := { dst := some 7, op := Op.load 31 (Operand.tmp 2), type := 31, pos := "span.go:65", after := #[], guard := none }) (v := ?vv0) rfl (by kernel_rfl) (by kernel_rfl) (by kernel_rfl) (fun _ _ _ h => h) (Or.inl ⟨by rfl, ?hy0⟩) (by assumption) ?rest0
    case hy0 => (intro wz hSw; (try dsimp only at hSw); go_simp; try with_reducible rfl)
    (try simp only [Act.put]); (try simp only [List.setIfInBounds_toArray]); (try simp only [List.set_cons_succ]); (try simp only [List.set_cons_zero])
    refine wpAnyH_take (i := 2) (oi := { dst := some 9, op := Op.load 31 (Operand.tmp 3), type := 31, pos := "span.go:65", after := #[], guard := none }) (v := ?vv2) rfl (by kernel_rfl) (by kernel_rfl) (by kernel_rfl) (fun _ _ _ h => h) (Or.inl ⟨by rfl, ?hy2⟩) (by assumption) ?rest2
    case hy2 => (intro wz hSw; (try dsimp only at hSw); go_simp; try with_reducible rfl)
    (try simp only [Act.put]); (try simp only [List.setIfInBounds_toArray]); (try simp only [List.set_cons_succ]); (try simp only [List.set_cons_zero])
    have j0 := J2.start w0
    generalize hx0 : World.drew w0 = x0 at j0 ⊢
    clear hx0 hHeld
    refine wpAnyH_ready (rs := [1, 4, 5]) (by kernel_rfl) (by simp) ?_
    refine AllReadyH.cons (o := { dst := some 8, op := Op.call { callee := Callee.value (Operand.func 29), args := #[Operand.tmp 7], argTypes := #[31] }, type := 31, pos := "span.go:65", after := #[{ on := 0, ground := Ground.data }], guard := none }) rfl (fun K hK => ?_) (AllReadyH.cons (o := { dst := some 5, op := Op.alloc 31, type := 0, pos := "span.go:65", after := #[], guard := none }) rfl (fun K hK => ?_) (AllReadyH.cons (o := { dst := some 6, op := Op.alloc 31, type := 0, pos := "span.go:65", after := #[], guard := none }) rfl (fun K hK => ?_) AllReadyH.nil))
    · refine stepCall1 ?_ 29 (.tmp 7) #[31] ?_ (.agg #[.float .f64 a, .float .f64 b, .bool p, .bool q]) ?_ ?_ (enter_canonS _ _) ?_
      · rfl
      · rfl
      · rfl
      · rfl
      refine (HA.out _).mono ?_
      rintro o x1 ⟨rfl, b1⟩
      refine ⟨_, rfl, ?_⟩
      have j1 := j0.up b1
      refine hK.out _ _ (A3.up HS.out j1.1) (fun _ => ?_)
      clear hK K
      (try simp only [Act.put]); (try simp only [List.setIfInBounds_toArray]); (try simp only [List.set_cons_succ]); (try simp only [List.set_cons_zero])
      refine wpAnyH_ready (rs := [3, 4, 5]) (by kernel_rfl) (by simp) ?_
      refine AllReadyH.cons (o := { dst := some 10, op := Op.call { callee := Callee.value (Operand.func 29), args := #[Operand.tmp 9], argTypes := #[31] }, type := 31, pos := "span.go:65", after := #[{ on := 2, ground := Ground.data }, { on := 1, ground := Ground.chain }], guard := none }) rfl (fun K hK => ?_) (AllReadyH.cons (o := { dst := some 5, op := Op.alloc 31, type := 0, pos := "span.go:65", after := #[], guard := none }) rfl (fun K hK => ?_) (AllReadyH.cons (o := { dst := some 6, op := Op.alloc 31, type := 0, pos := "span.go:65", after := #[], guard := none }) rfl (fun K hK => ?_) AllReadyH.nil))
      · refine stepCall1 ?_ 29 (.tmp 9) #[31] ?_ (.agg #[.float .f64 c, .float .f64 d, .bool r, .bool s]) ?_ ?_ (enter_canonS _ _) ?_
        · rfl
        · rfl
        · rfl
        · rfl
        refine (HB.out _).mono ?_
        rintro o x2 ⟨rfl, b2⟩
        refine ⟨_, rfl, ?_⟩
        have j2 := j1.up b2
        refine hK.out _ _ (A3.up HS.out j2.1) (fun _ => ?_)
        clear hK K
        (try simp only [Act.put]); (try simp only [List.setIfInBounds_toArray]); (try simp only [List.set_cons_succ]); (try simp only [List.set_cons_zero])
        refine wpAnyH_ready (rs := [4, 5]) (by kernel_rfl) (by simp) ?_
        refine AllReadyH.cons (o := { dst := some 5, op := Op.alloc 31, type := 0, pos := "span.go:65", after := #[], guard := none }) rfl (fun K hK => ?_) (AllReadyH.cons (o := { dst := some 6, op := Op.alloc 31, type := 0, pos := "span.go:65", after := #[], guard := none }) rfl (fun K hK => ?_) AllReadyH.nil)
        · refine stepAlloc ?_ ?_ ?_
          · rfl
          · rfl
          intro m3 x3 hm3 hx3
          have j3 := j2.nF hm3 hx3
          clear hm3 hx3
          refine hK.out _ _ (A3.up HS.out j3.1) (fun _ => ?_)
          clear hK K
          (try simp only [Act.put]); (try simp only [List.setIfInBounds_toArray]); (try simp only [List.set_cons_succ]); (try simp only [List.set_cons_zero])
          refine wpAnyH_ready (rs := [5]) (by kernel_rfl) (by simp) ?_
          refine AllReadyH.cons (o := { dst := some 6, op := Op.alloc 31, type := 0, pos := "span.go:65", after := #[], guard := none }) rfl (fun K hK => ?_) AllReadyH.nil
          · refine stepAlloc ?_ ?_ ?_
            · rfl
            · rfl
            intro m4 x4 hm4 hx4
            have j4 := j3.nG hm4 hx4
            clear hm4 hx4
            refine hK.out _ _ (A3.up HS.out j4.1) (fun _ => ?_)
            clear hK K
            (try simp only [Act.put]); (try simp only [List.setIfInBounds_toArray]); (try simp only [List.set_cons_succ]); (try simp only [List.set_cons_zero])
            refine wpAnyH_ready (rs := [6]) (by kernel_rfl) (by simp) ?_
            refine AllReadyH.cons (o := { dst := none, op := Op.store 31 (Operand.tmp 5) (Operand.tmp 8), type := 0, pos := "span.go:65", after := #[{ on := 4, ground := Ground.data }, { on := 1, ground := Ground.data }, { on := 3, ground := Ground.chain }, { on := 0, ground := Ground.phase }, { on := 1, ground := Ground.phase }, { on := 2, ground := Ground.textOnly Departure.lateStores }, { on := 3, ground := Ground.textOnly Departure.lateStoresUnsure }, { on := 4, ground := Ground.phase }, { on := 5, ground := Ground.phase }], guard := none }) rfl (fun K hK => ?_) AllReadyH.nil
            refine stepStore ?_ (.tmp 5) (.tmp 8) ?_ m3 u1 v1 e1 e1 ?_ ?_ j4.thereF ?_
            · rfl
            · rfl
            · rfl
            · rfl
            refine hK.out _ _ (A3.up HS.out (j4.upF _)) (fun _ => ?_)
            clear hK K
            (try simp only [Act.put]); (try simp only [List.setIfInBounds_toArray]); (try simp only [List.set_cons_succ]); (try simp only [List.set_cons_zero])
            refine wpAnyH_ready (rs := [7]) (by kernel_rfl) (by simp) ?_
            refine AllReadyH.cons (o := { dst := none, op := Op.store 31 (Operand.tmp 6) (Operand.tmp 10), type := 0, pos := "span.go:65", after := #[{ on := 5, ground := Ground.data }, { on := 3, ground := Ground.data }, { on := 6, ground := Ground.chain }, { on := 0, ground := Ground.phase }, { on := 1, ground := Ground.phase }, { on := 2, ground := Ground.phase }, { on := 3, ground := Ground.phase }, { on := 4, ground := Ground.phase }, { on := 5, ground := Ground.phase }, { on := 6, ground := Ground.phase }], guard := none }) rfl (fun K hK => ?_) AllReadyH.nil
            refine stepStore ?_ (.tmp 6) (.tmp 10) ?_ m4 u2 v2 e2 e2 ?_ ?_ (j4.thereG _) ?_
            · rfl
            · rfl
            · rfl
            · rfl
            refine hK.out _ _ (A3.up HS.out (j4.fin u1 v1 u2 v2 e1 e1 e2 e2).2.2) (fun _ => ?_)
            clear hK K
            (try simp only [Act.put]); (try simp only [List.setIfInBounds_toArray]); (try simp only [List.set_cons_succ]); (try simp only [List.set_cons_zero])
            refine wpAnyH_done (by kernel_rfl) ?_ _
            refine NoPanic.normal ?_
            go_wp2_with fail
            go_meet
            case rel => exact ⟨m3, m4, rfl, rfl, (j4.fin u1 v1 u2 v2 e1 e1 e2 e2).1, (j4.fin u1 v1 u2 v2 e1 e1 e2 e2).2.1, (j4.fin u1 v1 u2 v2 e1 e1 e2 e2).2.2, (j4.2.1 _ rfl).1, (j4.2.2.1 _ rfl).1⟩
        · refine stepAlloc ?_ ?_ ?_
          · rfl
          · rfl
          intro m5 x5 hm5 hx5
          have j5 := j2.nG hm5 hx5
          clear hm5 hx5
          refine hK.out _ _ (A3.up HS.out j5.1) (fun _ => ?_)
          clear hK K
          (try simp only [Act.put]); (try simp only [List.setIfInBounds_toArray]); (try simp only [List.set_cons_succ]); (try simp only [List.set_cons_zero])
          refine wpAnyH_ready (rs := [4]) (by kernel_rfl) (by simp) ?_
          refine AllReadyH.cons (o := { dst := some 5, op := Op.alloc 31, type := 0, pos := "span.go:65", after := #[], guard := none }) rfl (fun K hK => ?_) AllReadyH.nil
          · refine stepAlloc ?_ ?_ ?_
            · rfl
            · rfl
            intro m6 x6 hm6 hx6
            have j6 := j5.nF hm6 hx6
            clear hm6 hx6
            refine hK.out _ _ (A3.up HS.out j6.1) (fun _ => ?_)
            clear hK K
            (try simp only [Act.put]); (try simp only [List.setIfInBounds_toArray]); (try simp only [List.set_cons_succ]); (try simp only [List.set_cons_zero])
            refine wpAnyH_ready (rs := [6]) (by kernel_rfl) (by simp) ?_
            refine AllReadyH.cons (o := { dst := none, op := Op.store 31 (Operand.tmp 5) (Operand.tmp 8), type := 0, pos := "span.go:65", after := #[{ on := 4, ground := Ground.data }, { on := 1, ground := Ground.data }, { on := 3, ground := Ground.chain }, { on := 0, ground := Ground.phase }, { on := 1, ground := Ground.phase }, { on := 2, ground := Ground.textOnly Departure.lateStores }, { on := 3, ground := Ground.textOnly Departure.lateStoresUnsure }, { on := 4, ground := Ground.phase }, { on := 5, ground := Ground.phase }], guard := none }) rfl (fun K hK => ?_) AllReadyH.nil
            refine stepStore ?_ (.tmp 5) (.tmp 8) ?_ m6 u1 v1 e1 e1 ?_ ?_ j6.thereF ?_
            · rfl
            · rfl
            · rfl
            · rfl
            refine hK.out _ _ (A3.up HS.out (j6.upF _)) (fun _ => ?_)
            clear hK K
            (try simp only [Act.put]); (try simp only [List.setIfInBounds_toArray]); (try simp only [List.set_cons_succ]); (try simp only [List.set_cons_zero])
            refine wpAnyH_ready (rs := [7]) (by kernel_rfl) (by simp) ?_
            refine AllReadyH.cons (o := { dst := none, op := Op.store 31 (Operand.tmp 6) (Operand.tmp 10), type := 0, pos := "span.go:65", after := #[{ on := 5, ground := Ground.data }, { on := 3, ground := Ground.data }, { on := 6, ground := Ground.chain }, { on := 0, ground := Ground.phase }, { on := 1, ground := Ground.phase }, { on := 2, ground := Ground.phase }, { on := 3, ground := Ground.phase }, { on := 4, ground := Ground.phase }, { on := 5, ground := Ground.phase }, { on := 6, ground := Ground.phase }], guard := none }) rfl (fun K hK => ?_) AllReadyH.nil
            refine stepStore ?_ (.tmp 6) (.tmp 10) ?_ m5 u2 v2 e2 e2 ?_ ?_ (j6.thereG _) ?_
            · rfl
            · rfl
            · rfl
            · rfl
            refine hK.out _ _ (A3.up HS.out (j6.fin u1 v1 u2 v2 e1 e1 e2 e2).2.2) (fun _ => ?_)
            clear hK K
            (try simp only [Act.put]); (try simp only [List.setIfInBounds_toArray]); (try simp only [List.set_cons_succ]); (try simp only [List.set_cons_zero])
            refine wpAnyH_done (by kernel_rfl) ?_ _
            refine NoPanic.normal ?_
            go_wp2_with fail
            go_meet
            case rel => exact ⟨m6, m5, rfl, rfl, (j6.fin u1 v1 u2 v2 e1 e1 e2 e2).1, (j6.fin u1 v1 u2 v2 e1 e1 e2 e2).2.1, (j6.fin u1 v1 u2 v2 e1 e1 e2 e2).2.2, (j6.2.1 _ rfl).1, (j6.2.2.1 _ rfl).1⟩
      · refine stepAlloc ?_ ?_ ?_
        · rfl
        · rfl
        intro m7 x7 hm7 hx7
        have j7 := j1.nF hm7 hx7
        clear hm7 hx7
        refine hK.out _ _ (A3.up HS.out j7.1) (fun _ => ?_)
        clear hK K
        (try simp only [Act.put]); (try simp only [List.setIfInBounds_toArray]); (try simp only [List.set_cons_succ]); (try simp only [List.set_cons_zero])
        refine wpAnyH_ready (rs := [3, 5]) (by kernel_rfl) (by simp) ?_
        refine AllReadyH.cons (o := { dst := some 10, op := Op.call { callee := Callee.value (Operand.func 29), args := #[Operand.tmp 9], argTypes := #[31] }, type := 31, pos := "span.go:65", after := #[{ on := 2, ground := Ground.data }, { on := 1, ground := Ground.chain }], guard := none }) rfl (fun K hK => ?_) (AllReadyH.cons (o := { dst := some 6, op := Op.alloc 31, type := 0, pos := "span.go:65", after := #[], guard := none }) rfl (fun K hK => ?_) AllReadyH.nil)
        · refine stepCall1 ?_ 29 (.tmp 9) #[31] ?_ (.agg #[.float .f64 c, .float .f64 d, .bool r, .bool s]) ?_ ?_ (enter_canonS _ _) ?_
          · rfl
          · rfl
          · rfl
          · rfl
          refine (HB.out _).mono ?_
          rintro o x8 ⟨rfl, b8⟩
          refine ⟨_, rfl, ?_⟩
          have j8 := j7.up b8
          refine hK.out _ _ (A3.up HS.out j8.1) (fun _ => ?_)
          clear hK K
          (try simp only [Act.put]); (try simp only [List.setIfInBounds_toArray]); (try simp only [List.set_cons_succ]); (try simp only [List.set_cons_zero])
          refine wpAnyH_ready (rs := [5]) (by kernel_rfl) (by simp) ?_
          refine AllReadyH.cons (o := { dst := some 6, op := Op.alloc 31, type := 0, pos := "span.go:65", after := #[], guard := none }) rfl (fun K hK => ?_) AllReadyH.nil
          · refine stepAlloc ?_ ?_ ?_
            · rfl
            · rfl
            intro m9 x9 hm9 hx9
            have j9 := j8.nG hm9 hx9
            clear hm9 hx9
            refine hK.out _ _ (A3.up HS.out j9.1) (fun _ => ?_)
            clear hK K
            (try simp only [Act.put]); (try simp only [List.setIfInBounds_toArray]); (try simp only [List.set_cons_succ]); (try simp only [List.set_cons_zero])
            refine wpAnyH_ready (rs := [6]) (by kernel_rfl) (by simp) ?_
            refine AllReadyH.cons (o := { dst := none, op := Op.store 31 (Operand.tmp 5) (Operand.tmp 8), type := 0, pos := "span.go:65", after := #[{ on := 4, ground := Ground.data }, { on := 1, ground := Ground.data }, { on := 3, ground := Ground.chain }, { on := 0, ground := Ground.phase }, { on := 1, ground := Ground.phase }, { on := 2, ground := Ground.textOnly Departure.lateStores }, { on := 3, ground := Ground.textOnly Departure.lateStoresUnsure }, { on := 4, ground := Ground.phase }, { on := 5, ground := Ground.phase }], guard := none }) rfl (fun K hK => ?_) AllReadyH.nil
            refine stepStore ?_ (.tmp 5) (.tmp 8) ?_ m7 u1 v1 e1 e1 ?_ ?_ j9.thereF ?_
            · rfl
            · rfl
            · rfl
            · rfl
            refine hK.out _ _ (A3.up HS.out (j9.upF _)) (fun _ => ?_)
            clear hK K
            (try simp only [Act.put]); (try simp only [List.setIfInBounds_toArray]); (try simp only [List.set_cons_succ]); (try simp only [List.set_cons_zero])
            refine wpAnyH_ready (rs := [7]) (by kernel_rfl) (by simp) ?_
            refine AllReadyH.cons (o := { dst := none, op := Op.store 31 (Operand.tmp 6) (Operand.tmp 10), type := 0, pos := "span.go:65", after := #[{ on := 5, ground := Ground.data }, { on := 3, ground := Ground.data }, { on := 6, ground := Ground.chain }, { on := 0, ground := Ground.phase }, { on := 1, ground := Ground.phase }, { on := 2, ground := Ground.phase }, { on := 3, ground := Ground.phase }, { on := 4, ground := Ground.phase }, { on := 5, ground := Ground.phase }, { on := 6, ground := Ground.phase }], guard := none }) rfl (fun K hK => ?_) AllReadyH.nil
            refine stepStore ?_ (.tmp 6) (.tmp 10) ?_ m9 u2 v2 e2 e2 ?_ ?_ (j9.thereG _) ?_
            · rfl
            · rfl
            · rfl
            · rfl
            refine hK.out _ _ (A3.up HS.out (j9.fin u1 v1 u2 v2 e1 e1 e2 e2).2.2) (fun _ => ?_)
            clear hK K
            (try simp only [Act.put]); (try simp only [List.setIfInBounds_toArray]); (try simp only [List.set_cons_succ]); (try simp only [List.set_cons_zero])
            refine wpAnyH_done (by kernel_rfl) ?_ _
            refine NoPanic.normal ?_
            go_wp2_with fail
            go_meet
            case rel => exact ⟨m7, m9, rfl, rfl, (j9.fin u1 v1 u2 v2 e1 e1 e2 e2).1, (j9.fin u1 v1 u2 v2 e1 e1 e2 e2).2.1, (j9.fin u1 v1 u2 v2 e1 e1 e2 e2).2.2, (j9.2.1 _ rfl).1, (j9.2.2.1 _ rfl).1⟩
        · refine stepAlloc ?_ ?_ ?_
          · rfl
          · rfl
          intro m10 x10 hm10 hx10
          have j10 := j7.nG hm10 hx10
          clear hm10 hx10
          refine hK.out _ _ (A3.up HS.out j10.1) (fun _ => ?_)
          clear hK K
          (try simp only [Act.put]); (try simp only [List.setIfInBounds_toArray]); (try simp only [List.set_cons_succ]); (try simp only [List.set_cons_zero])
          refine wpAnyH_ready (rs := [3]) (by kernel_rfl) (by simp) ?_
          refine AllReadyH.cons (o := { dst := some 10, op := Op.call { callee := Callee.value (Operand.func 29), args := #[Operand.tmp 9], argTypes := #[31] }, type := 31, pos := "span.go:65", after := #[{ on := 2, ground := Ground.data }, { on := 1, ground := Ground.chain }], guard := none }) rfl (fun K hK => ?_) AllReadyH.nil
          · refine stepCall1 ?_ 29 (.tmp 9) #[31] ?_ (.agg #[.float .f64 c, .float .f64 d, .bool r, .bool s]) ?_ ?_ (enter_canonS _ _) ?_
            · rfl
            · rfl
            · rfl
            · rfl
            refine (HB.out _).mono ?_
            rintro o x11 ⟨rfl, b11⟩
            refine ⟨_, rfl, ?_⟩
            have j11 := j10.up b11
            refine hK.out _ _ (A3.up HS.out j11.1) (fun _ => ?_)
            clear hK K
            (try simp only [Act.put]); (try simp only [List.setIfInBounds_toArray]); (try simp only [List.set_cons_succ]); (try simp only [List.set_cons_zero])
            refine wpAnyH_ready (rs := [6]) (by kernel_rfl) (by simp) ?_
            refine AllReadyH.cons (o := { dst := none, op := Op.store 31 (Operand.tmp 5) (Operand.tmp 8), type := 0, pos := "span.go:65", after := #[{ on := 4, ground := Ground.data }, { on := 1, ground := Ground.data }, { on := 3, ground := Ground.chain }, { on := 0, ground := Ground.phase }, { on := 1, ground := Ground.phase }, { on := 2, ground := Ground.textOnly Departure.lateStores }, { on := 3, ground := Ground.textOnly Departure.lateStoresUnsure }, { on := 4, ground := Ground.phase }, { on := 5, ground := Ground.phase }], guard := none }) rfl (fun K hK => ?_) AllReadyH.nil
            refine stepStore ?_ (.tmp 5) (.tmp 8) ?_ m7 u1 v1 e1 e1 ?_ ?_ j11.thereF ?_
            · rfl
            · rfl
            · rfl
            · rfl
            refine hK.out _ _ (A3.up HS.out (j11.upF _)) (fun _ => ?_)
            clear hK K
            (try simp only [Act.put]); (try simp only [List.setIfInBounds_toArray]); (try simp only [List.set_cons_succ]); (try simp only [List.set_cons_zero])
            refine wpAnyH_ready (rs := [7]) (by kernel_rfl) (by simp) ?_
            refine AllReadyH.cons (o := { dst := none, op := Op.store 31 (Operand.tmp 6) (Operand.tmp 10), type := 0, pos := "span.go:65", after := #[{ on := 5, ground := Ground.data }, { on := 3, ground := Ground.data }, { on := 6, ground := Ground.chain }, { on := 0, ground := Ground.phase }, { on := 1, ground := Ground.phase }, { on := 2, ground := Ground.phase }, { on := 3, ground := Ground.phase }, { on := 4, ground := Ground.phase }, { on := 5, ground := Ground.phase }, { on := 6, ground := Ground.phase }], guard := none }) rfl (fun K hK => ?_) AllReadyH.nil
            refine stepStore ?_ (.tmp 6) (.tmp 10) ?_ m10 u2 v2 e2 e2 ?_ ?_ (j11.thereG _) ?_
            · rfl
            · rfl
            · rfl
            · rfl
            refine hK.out _ _ (A3.up HS.out (j11.fin u1 v1 u2 v2 e1 e1 e2 e2).2.2) (fun _ => ?_)
            clear hK K
            (try simp only [Act.put]); (try simp only [List.setIfInBounds_toArray]); (try simp only [List.set_cons_succ]); (try simp only [List.set_cons_zero])
            refine wpAnyH_done (by kernel_rfl) ?_ _
            refine NoPanic.normal ?_
            go_wp2_with fail
            go_meet
            case rel => exact ⟨m7, m10, rfl, rfl, (j11.fin u1 v1 u2 v2 e1 e1 e2 e2).1, (j11.fin u1 v1 u2 v2 e1 e1 e2 e2).2.1, (j11.fin u1 v1 u2 v2 e1 e1 e2 e2).2.2, (j11.2.1 _ rfl).1, (j11.2.2.1 _ rfl).1⟩
      · refine stepAlloc ?_ ?_ ?_
        · rfl
        · rfl
        intro m12 x12 hm12 hx12
        have j12 := j1.nG hm12 hx12
        clear hm12 hx12
        refine hK.out _ _ (A3.up HS.out j12.1) (fun _ => ?_)
        clear hK K
        (try simp only [Act.put]); (try simp only [List.setIfInBounds_toArray]); (try simp only [List.set_cons_succ]); (try simp only [List.set_cons_zero])
        refine wpAnyH_ready (rs := [3, 4]) (by kernel_rfl) (by simp) ?_
        refine AllReadyH.cons (o := { dst := some 10, op := Op.call { callee := Callee.value (Operand.func 29), args := #[Operand.tmp 9], argTypes := #[31] }, type := 31, pos := "span.go:65", after := #[{ on := 2, ground := Ground.data }, { on := 1, ground := Ground.chain }], guard := none }) rfl (fun K hK => ?_) (AllReadyH.cons (o := { dst := some 5, op := Op.alloc 31, type := 0, pos := "span.go:65", after := #[], guard := none }) rfl (fun K hK => ?_) AllReadyH.nil)
        · refine stepCall1 ?_ 29 (.tmp 9) #[31] ?_ (.agg #[.float .f64 c, .float .f64 d, .bool r, .bool s]) ?_ ?_ (enter_canonS _ _) ?_
          · rfl
          · rfl
          · rfl
          · rfl
          refine (HB.out _).mono ?_
          rintro o x13 ⟨rfl, b13⟩
          refine ⟨_, rfl, ?_⟩
          have j13 := j12.up b13
          refine hK.out _ _ (A3.up HS.out j13.1) (fun _ => ?_)
          clear hK K
          (try simp only [Act.put]); (try simp only [List.setIfInBounds_toArray]); (try simp only [List.set_cons_succ]); (try simp only [List.set_cons_zero])
          refine wpAnyH_ready (rs := [4]) (by kernel_rfl) (by simp) ?_
          refine AllReadyH.cons (o := { dst := some 5, op := Op.alloc 31, type := 0, pos := "span.go:65", after := #[], guard := none }) rfl (fun K hK => ?_) AllReadyH.nil
          · refine stepAlloc ?_ ?_ ?_
            · rfl
            · rfl
            intro m14 x14 hm14 hx14
            have j14 := j13.nF hm14 hx14
            clear hm14 hx14
            refine hK.out _ _ (A3.up HS.out j14.1) (fun _ => ?_)
            clear hK K
            (try simp only [Act.put]); (try simp only [List.setIfInBounds_toArray]); (try simp only [List.set_cons_succ]); (try simp only [List.set_cons_zero])
            refine wpAnyH_ready (rs := [6]) (by kernel_rfl) (by simp) ?_
            refine AllReadyH.cons (o := { dst := none, op := Op.store 31 (Operand.tmp 5) (Operand.tmp 8), type := 0, pos := "span.go:65", after := #[{ on := 4, ground := Ground.data }, { on := 1, ground := Ground.data }, { on := 3, ground := Ground.chain }, { on := 0, ground := Ground.phase }, { on := 1, ground := Ground.phase }, { on := 2, ground := Ground.textOnly Departure.lateStores }, { on := 3, ground := Ground.textOnly Departure.lateStoresUnsure }, { on := 4, ground := Ground.phase }, { on := 5, ground := Ground.phase }], guard := none }) rfl (fun K hK => ?_) AllReadyH.nil
            refine stepStore ?_ (.tmp 5) (.tmp 8) ?_ m14 u1 v1 e1 e1 ?_ ?_ j14.thereF ?_
            · rfl
            · rfl
            · rfl
            · rfl
            refine hK.out _ _ (A3.up HS.out (j14.upF _)) (fun _ => ?_)
            clear hK K
            (try simp only [Act.put]); (try simp only [List.setIfInBounds_toArray]); (try simp only [List.set_cons_succ]); (try simp only [List.set_cons_zero])
            refine wpAnyH_ready (rs := [7]) (by kernel_rfl) (by simp) ?_
            refine AllReadyH.cons (o := { dst := none, op := Op.store 31 (Operand.tmp 6) (Operand.tmp 10), type := 0, pos := "span.go:65", after := #[{ on := 5, ground := Ground.data }, { on := 3, ground := Ground.data }, { on := 6, ground := Ground.chain }, { on := 0, ground := Ground.phase }, { on := 1, ground := Ground.phase }, { on := 2, ground := Ground.phase }, { on := 3, ground := Ground.phase }, { on := 4, ground := Ground.phase }, { on := 5, ground := Ground.phase }, { on := 6, ground := Ground.phase }], guard := none }) rfl (fun K hK => ?_) AllReadyH.nil
            refine stepStore ?_ (.tmp 6) (.tmp 10) ?_ m12 u2 v2 e2 e2 ?_ ?_ (j14.thereG _) ?_
            · rfl
            · rfl
            · rfl
            · rfl
            refine hK.out _ _ (A3.up HS.out (j14.fin u1 v1 u2 v2 e1 e1 e2 e2).2.2) (fun _ => ?_)
            clear hK K
            (try simp only [Act.put]); (try simp only [List.setIfInBounds_toArray]); (try simp only [List.set_cons_succ]); (try simp only [List.set_cons_zero])
            refine wpAnyH_done (by kernel_rfl) ?_ _
            refine NoPanic.normal ?_
            go_wp2_with fail
            go_meet
            case rel => exact ⟨m14, m12, rfl, rfl, (j14.fin u1 v1 u2 v2 e1 e1 e2 e2).1, (j14.fin u1 v1 u2 v2 e1 e1 e2 e2).2.1, (j14.fin u1 v1 u2 v2 e1 e1 e2 e2).2.2, (j14.2.1 _ rfl).1, (j14.2.2.1 _ rfl).1⟩
        · refine stepAlloc ?_ ?_ ?_
          · rfl
          · rfl
          intro m15 x15 hm15 hx15
          have j15 := j12.nF hm15 hx15
          clear hm15 hx15
          refine hK.out _ _ (A3.up HS.out j15.1) (fun _ => ?_)
          clear hK K
          (try simp only [Act.put]); (try simp only [List.setIfInBounds_toArray]); (try simp only [List.set_cons_succ]); (try simp only [List.set_cons_zero])
          refine wpAnyH_ready (rs := [3]) (by kernel_rfl) (by simp) ?_
          refine AllReadyH.cons (o := { dst := some 10, op := Op.call { callee := Callee.value (Operand.func 29), args := #[Operand.tmp 9], argTypes := #[31] }, type := 31, pos := "span.go:65", after := #[{ on := 2, ground := Ground.data }, { on := 1, ground := Ground.chain }], guard := none }) rfl (fun K hK => ?_) AllReadyH.nil
          · refine stepCall1 ?_ 29 (.tmp 9) #[31] ?_ (.agg #[.float .f64 c, .float .f64 d, .bool r, .bool s]) ?_ ?_ (enter_canonS _ _) ?_
            · rfl
            · rfl
            · rfl
            · rfl
            refine (HB.out _).mono ?_
            rintro o x16 ⟨rfl, b16⟩
            refine ⟨_, rfl, ?_⟩
            have j16 := j15.up b16
            refine hK.out _ _ (A3.up HS.out j16.1) (fun _ => ?_)
            clear hK K
            (try simp only [Act.put]); (try simp only [List.setIfInBounds_toArray]); (try simp only [List.set_cons_succ]); (try simp only [List.set_cons_zero])
            refine wpAnyH_ready (rs := [6]) (by kernel_rfl) (by simp) ?_
            refine AllReadyH.cons (o := { dst := none, op := Op.store 31 (Operand.tmp 5) (Operand.tmp 8), type := 0, pos := "span.go:65", after := #[{ on := 4, ground := Ground.data }, { on := 1, ground := Ground.data }, { on := 3, ground := Ground.chain }, { on := 0, ground := Ground.phase }, { on := 1, ground := Ground.phase }, { on := 2, ground := Ground.textOnly Departure.lateStores }, { on := 3, ground := Ground.textOnly Departure.lateStoresUnsure }, { on := 4, ground := Ground.phase }, { on := 5, ground := Ground.phase }], guard := none }) rfl (fun K hK => ?_) AllReadyH.nil
            refine stepStore ?_ (.tmp 5) (.tmp 8) ?_ m15 u1 v1 e1 e1 ?_ ?_ j16.thereF ?_
            · rfl
            · rfl
            · rfl
            · rfl
            refine hK.out _ _ (A3.up HS.out (j16.upF _)) (fun _ => ?_)
            clear hK K
            (try simp only [Act.put]); (try simp only [List.setIfInBounds_toArray]); (try simp only [List.set_cons_succ]); (try simp only [List.set_cons_zero])
            refine wpAnyH_ready (rs := [7]) (by kernel_rfl) (by simp) ?_
            refine AllReadyH.cons (o := { dst := none, op := Op.store 31 (Operand.tmp 6) (Operand.tmp 10), type := 0, pos := "span.go:65", after := #[{ on := 5, ground := Ground.data }, { on := 3, ground := Ground.data }, { on := 6, ground := Ground.chain }, { on := 0, ground := Ground.phase }, { on := 1, ground := Ground.phase }, { on := 2, ground := Ground.phase }, { on := 3, ground := Ground.phase }, { on := 4, ground := Ground.phase }, { on := 5, ground := Ground.phase }, { on := 6, ground := Ground.phase }], guard := none }) rfl (fun K hK => ?_) AllReadyH.nil
            refine stepStore ?_ (.tmp 6) (.tmp 10) ?_ m12 u2 v2 e2 e2 ?_ ?_ (j16.thereG _) ?_
            · rfl
            · rfl
            · rfl
            · rfl
            refine hK.out _ _ (A3.up HS.out (j16.fin u1 v1 u2 v2 e1 e1 e2 e2).2.2) (fun _ => ?_)
            clear hK K
            (try simp only [Act.put]); (try simp only [List.setIfInBounds_toArray]); (try simp only [List.set_cons_succ]); (try simp only [List.set_cons_zero])
            refine wpAnyH_done (by kernel_rfl) ?_ _
            refine NoPanic.normal ?_
            go_wp2_with fail
            go_meet
            case rel => exact ⟨m15, m12, rfl, rfl, (j16.fin u1 v1 u2 v2 e1 e1 e2 e2).1, (j16.fin u1 v1 u2 v2 e1 e1 e2 e2).2.1, (j16.fin u1 v1 u2 v2 e1 e1 e2 e2).2.2, (j16.2.1 _ rfl).1, (j16.2.2.1 _ rfl).1⟩
    · refine stepAlloc ?_ ?_ ?_
      · rfl
      · rfl
      intro m17 x17 hm17 hx17
      have j17 := j0.nF hm17 hx17
      clear hm17 hx17
      refine hK.out _ _ (A3.up HS.out j17.1) (fun _ => ?_)
      clear hK K
      (try simp only [Act.put]); (try simp only [List.setIfInBounds_toArray]); (try simp only [List.set_cons_succ]); (try simp only [List.set_cons_zero])
      refine wpAnyH_ready (rs := [1, 5]) (by kernel_rfl) (by simp) ?_
      refine AllReadyH.cons (o := { dst := some 8, op := Op.call { callee := Callee.value (Operand.func 29), args := #[Operand.tmp 7], argTypes := #[31] }, type := 31, pos := "span.go:65", after := #[{ on := 0, ground := Ground.data }], guard := none }) rfl (fun K hK => ?_) (AllReadyH.cons (o := { dst := some 6, op := Op.alloc 31, type := 0, pos := "span.go:65", after := #[], guard := none }) rfl (fun K hK => ?_) AllReadyH.nil)
      · refine stepCall1 ?_ 29 (.tmp 7) #[31] ?_ (.agg #[.float .f64 a, .float .f64 b, .bool p, .bool q]) ?_ ?_ (enter_canonS _ _) ?_
        · rfl
        · rfl
        · rfl
        · rfl
        refine (HA.out _).mono ?_
        rintro o x18 ⟨rfl, b18⟩
        refine ⟨_, rfl, ?_⟩
        have j18 := j17.up b18
        refine hK.out _ _ (A3.up HS.out j18.1) (fun _ => ?_)
        clear hK K
        (try simp only [Act.put]); (try simp only [List.setIfInBounds_toArray]); (try simp only [List.set_cons_succ]); (try simp only [List.set_cons_zero])
        refine wpAnyH_ready (rs := [3, 5]) (by kernel_rfl) (by simp) ?_
        refine AllReadyH.cons (o := { dst := some 10, op := Op.call { callee := Callee.value (Operand.func 29), args := #[Operand.tmp 9], argTypes := #[31] }, type := 31, pos := "span.go:65", after := #[{ on := 2, ground := Ground.data }, { on := 1, ground := Ground.chain }], guard := none }) rfl (fun K hK => ?_) (AllReadyH.cons (o := { dst := some 6, op := Op.alloc 31, type := 0, pos := "span.go:65", after := #[], guard := none }) rfl (fun K hK => ?_) AllReadyH.nil)
        · refine stepCall1 ?_ 29 (.tmp 9) #[31] ?_ (.agg #[.float .f64 c, .float .f64 d, .bool r, .bool s]) ?_ ?_ (enter_canonS _ _) ?_
          · rfl
          · rfl
          · rfl
          · rfl
          refine (HB.out _).mono ?_
          rintro o x19 ⟨rfl, b19⟩
          refine ⟨_, rfl, ?_⟩
          have j19 := j18.up b19
          refine hK.out _ _ (A3.up HS.out j19.1) (fun _ => ?_)
          clear hK K
          (try simp only [Act.put]); (try simp only [List.setIfInBounds_toArray]); (try simp only [List.set_cons_succ]); (try simp only [List.set_cons_zero])
          refine wpAnyH_ready (rs := [5]) (by kernel_rfl) (by simp) ?_
          refine AllReadyH.cons (o := { dst := some 6, op := Op.alloc 31, type := 0, pos := "span.go:65", after := #[], guard := none }) rfl (fun K hK => ?_) AllReadyH.nil
          · refine stepAlloc ?_ ?_ ?_
            · rfl
            · rfl
            intro m20 x20 hm20 hx20
            have j20 := j19.nG hm20 hx20
            clear hm20 hx20
            refine hK.out _ _ (A3.up HS.out j20.1) (fun _ => ?_)
            clear hK K
            (try simp only [Act.put]); (try simp only [List.setIfInBounds_toArray]); (try simp only [List.set_cons_succ]); (try simp only [List.set_cons_zero])
            refine wpAnyH_ready (rs := [6]) (by kernel_rfl) (by simp) ?_
            refine AllReadyH.cons (o := { dst := none, op := Op.store 31 (Operand.tmp 5) (Operand.tmp 8), type := 0, pos := "span.go:65", after := #[{ on := 4, ground := Ground.data }, { on := 1, ground := Ground.data }, { on := 3, ground := Ground.chain }, { on := 0, ground := Ground.phase }, { on := 1, ground := Ground.phase }, { on := 2, ground := Ground.textOnly Departure.lateStores }, { on := 3, ground := Ground.textOnly Departure.lateStoresUnsure }, { on := 4, ground := Ground.phase }, { on := 5, ground := Ground.phase }], guard := none }) rfl (fun K hK => ?_) AllReadyH.nil
            refine stepStore ?_ (.tmp 5) (.tmp 8) ?_ m17 u1 v1 e1 e1 ?_ ?_ j20.thereF ?_
            · rfl
            · rfl
            · rfl
            · rfl
            refine hK.out _ _ (A3.up HS.out (j20.upF _)) (fun _ => ?_)
            clear hK K
            (try simp only [Act.put]); (try simp only [List.setIfInBounds_toArray]); (try simp only [List.set_cons_succ]); (try simp only [List.set_cons_zero])
            refine wpAnyH_ready (rs := [7]) (by kernel_rfl) (by simp) ?_
            refine AllReadyH.cons (o := { dst := none, op := Op.store 31 (Operand.tmp 6) (Operand.tmp 10), type := 0, pos := "span.go:65", after := #[{ on := 5, ground := Ground.data }, { on := 3, ground := Ground.data }, { on := 6, ground := Ground.chain }, { on := 0, ground := Ground.phase }, { on := 1, ground := Ground.phase }, { on := 2, ground := Ground.phase }, { on := 3, ground := Ground.phase }, { on := 4, ground := Ground.phase }, { on := 5, ground := Ground.phase }, { on := 6, ground := Ground.phase }], guard := none }) rfl (fun K hK => ?_) AllReadyH.nil
            refine stepStore ?_ (.tmp 6) (.tmp 10) ?_ m20 u2 v2 e2 e2 ?_ ?_ (j20.thereG _) ?_
            · rfl
            · rfl
            · rfl
            · rfl
            refine hK.out _ _ (A3.up HS.out (j20.fin u1 v1 u2 v2 e1 e1 e2 e2).2.2) (fun _ => ?_)
            clear hK K
            (try simp only [Act.put]); (try simp only [List.setIfInBounds_toArray]); (try simp only [List.set_cons_succ]); (try simp only [List.set_cons_zero])
            refine wpAnyH_done (by kernel_rfl) ?_ _
            refine NoPanic.normal ?_
            go_wp2_with fail
            go_meet
            case rel => exact ⟨m17, m20, rfl, rfl, (j20.fin u1 v1 u2 v2 e1 e1 e2 e2).1, (j20.fin u1 v1 u2 v2 e1 e1 e2 e2).2.1, (j20.fin u1 v1 u2 v2 e1 e1 e2 e2).2.2, (j20.2.1 _ rfl).1, (j20.2.2.1 _ rfl).1⟩
        · refine stepAlloc ?_ ?_ ?_
          · rfl
          · rfl
          intro m21 x21 hm21 hx21
          have j21 := j18.nG hm21 hx21
          clear hm21 hx21
          refine hK.out _ _ (A3.up HS.out j21.1) (fun _ => ?_)
          clear hK K
          (try simp only [Act.put]); (try simp only [List.setIfInBounds_toArray]); (try simp only [List.set_cons_succ]); (try simp only [List.set_cons_zero])
          refine wpAnyH_ready (rs := [3]) (by kernel_rfl) (by simp) ?_
          refine AllReadyH.cons (o := { dst := some 10, op := Op.call { callee := Callee.value (Operand.func 29), args := #[Operand.tmp 9], argTypes := #[31] }, type := 31, pos := "span.go:65", after := #[{ on := 2, ground := Ground.data }, { on := 1, ground := Ground.chain }], guard := none }) rfl (fun K hK => ?_) AllReadyH.nil
          · refine stepCall1 ?_ 29 (.tmp 9) #[31] ?_ (.agg #[.float .f64 c, .float .f64 d, .bool r, .bool s]) ?_ ?_ (enter_canonS _ _) ?_
            · rfl
            · rfl
            · rfl
            · rfl
            refine (HB.out _).mono ?_
            rintro o x22 ⟨rfl, b22⟩
            refine ⟨_, rfl, ?_⟩
            have j22 := j21.up b22
            refine hK.out _ _ (A3.up HS.out j22.1) (fun _ => ?_)
            clear hK K
            (try simp only [Act.put]); (try simp only [List.setIfInBounds_toArray]); (try simp only [List.set_cons_succ]); (try simp only [List.set_cons_zero])
            refine wpAnyH_ready (rs := [6]) (by kernel_rfl) (by simp) ?_
            refine AllReadyH.cons (o := { dst := none, op := Op.store 31 (Operand.tmp 5) (Operand.tmp 8), type := 0, pos := "span.go:65", after := #[{ on := 4, ground := Ground.data }, { on := 1, ground := Ground.data }, { on := 3, ground := Ground.chain }, { on := 0, ground := Ground.phase }, { on := 1, ground := Ground.phase }, { on := 2, ground := Ground.textOnly Departure.lateStores }, { on := 3, ground := Ground.textOnly Departure.lateStoresUnsure }, { on := 4, ground := Ground.phase }, { on := 5, ground := Ground.phase }], guard := none }) rfl (fun K hK => ?_) AllReadyH.nil
            refine stepStore ?_ (.tmp 5) (.tmp 8) ?_ m17 u1 v1 e1 e1 ?_ ?_ j22.thereF ?_
            · rfl
            · rfl
            · rfl
            · rfl
            refine hK.out _ _ (A3.up HS.out (j22.upF _)) (fun _ => ?_)
            clear hK K
            (try simp only [Act.put]); (try simp only [List.setIfInBounds_toArray]); (try simp only [List.set_cons_succ]); (try simp only [List.set_cons_zero])
            refine wpAnyH_ready (rs := [7]) (by kernel_rfl) (by simp) ?_
            refine AllReadyH.cons (o := { dst := none, op := Op.store 31 (Operand.tmp 6) (Operand.tmp 10), type := 0, pos := "span.go:65", after := #[{ on := 5, ground := Ground.data }, { on := 3, ground := Ground.data }, { on := 6, ground := Ground.chain }, { on := 0, ground := Ground.phase }, { on := 1, ground := Ground.phase }, { on := 2, ground := Ground.phase }, { on := 3, ground := Ground.phase }, { on := 4, ground := Ground.phase }, { on := 5, ground := Ground.phase }, { on := 6, ground := Ground.phase }], guard := none }) rfl (fun K hK => ?_) AllReadyH.nil
            refine stepStore ?_ (.tmp 6) (.tmp 10) ?_ m21 u2 v2 e2 e2 ?_ ?_ (j22.thereG _) ?_
            · rfl
            · rfl
            · rfl
            · rfl
            refine hK.out _ _ (A3.up HS.out (j22.fin u1 v1 u2 v2 e1 e1 e2 e2).2.2) (fun _ => ?_)
            clear hK K
            (try simp only [Act.put]); (try simp only [List.setIfInBounds_toArray]); (try simp only [List.set_cons_succ]); (try simp only [List.set_cons_zero])
            refine wpAnyH_done (by kernel_rfl) ?_ _
            refine NoPanic.normal ?_
            go_wp2_with fail
            go_meet
            case rel => exact ⟨m17, m21, rfl, rfl, (j22.fin u1 v1 u2 v2 e1 e1 e2 e2).1, (j22.fin u1 v1 u2 v2 e1 e1 e2 e2).2.1, (j22.fin u1 v1 u2 v2 e1 e1 e2 e2).2.2, (j22.2.1 _ rfl).1, (j22.2.2.1 _ rfl).1⟩
      · refine stepAlloc ?_ ?_ ?_
        · rfl
        · rfl
        intro m23 x23 hm23 hx23
        have j23 := j17.nG hm23 hx23
        clear hm23 hx23
        refine hK.out _ _ (A3.up HS.out j23.1) (fun _ => ?_)
        clear hK K
        (try simp only [Act.put]); (try simp only [List.setIfInBounds_toArray]); (try simp only [List.set_cons_succ]); (try simp only [List.set_cons_zero])
        refine wpAnyH_ready (rs := [1]) (by kernel_rfl) (by simp) ?_
        refine AllReadyH.cons (o := { dst := some 8, op := Op.call { callee := Callee.value (Operand.func 29), args := #[Operand.tmp 7], argTypes := #[31] }, type := 31, pos := "span.go:65", after := #[{ on := 0, ground := Ground.data }], guard := none }) rfl (fun K hK => ?_) AllReadyH.nil
        · refine stepCall1 ?_ 29 (.tmp 7) #[31] ?_ (.agg #[.float .f64 a, .float .f64 b, .bool p, .bool q]) ?_ ?_ (enter_canonS _ _) ?_
          · rfl
          · rfl
          · rfl
          · rfl
          refine (HA.out _).mono ?_
          rintro o x24 ⟨rfl, b24⟩
          refine ⟨_, rfl, ?_⟩
          have j24 := j23.up b24
          refine hK.out _ _ (A3.up HS.out j24.1) (fun _ => ?_)
          clear hK K
          (try simp only [Act.put]); (try simp only [List.setIfInBounds_toArray]); (try simp only [List.set_cons_succ]); (try simp only [List.set_cons_zero])
          refine wpAnyH_ready (rs := [3]) (by kernel_rfl) (by simp) ?_
          refine AllReadyH.cons (o := { dst := some 10, op := Op.call { callee := Callee.value (Operand.func 29), args := #[Operand.tmp 9], argTypes := #[31] }, type := 31, pos := "span.go:65", after := #[{ on := 2, ground := Ground.data }, { on := 1, ground := Ground.chain }], guard := none }) rfl (fun K hK => ?_) AllReadyH.nil
          · refine stepCall1 ?_ 29 (.tmp 9) #[31] ?_ (.agg #[.float .f64 c, .float .f64 d, .bool r, .bool s]) ?_ ?_ (enter_canonS _ _) ?_
            · rfl
            · rfl
            · rfl
            · rfl
            refine (HB.out _).mono ?_
            rintro o x25 ⟨rfl, b25⟩
            refine ⟨_, rfl, ?_⟩
            have j25 := j24.up b25
            refine hK.out _ _ (A3.up HS.out j25.1) (fun _ => ?_)
            clear hK K
            (try simp only [Act.put]); (try simp only [List.setIfInBounds_toArray]); (try simp only [List.set_cons_succ]); (try simp only [List.set_cons_zero])
            refine wpAnyH_ready (rs := [6]) (by kernel_rfl) (by simp) ?_
            refine AllReadyH.cons (o := { dst := none, op := Op.store 31 (Operand.tmp 5) (Operand.tmp 8), type := 0, pos := "span.go:65", after := #[{ on := 4, ground := Ground.data }, { on := 1, ground := Ground.data }, { on := 3, ground := Ground.chain }, { on := 0, ground := Ground.phase }, { on := 1, ground := Ground.phase }, { on := 2, ground := Ground.textOnly Departure.lateStores }, { on := 3, ground := Ground.textOnly Departure.lateStoresUnsure }, { on := 4, ground := Ground.phase }, { on := 5, ground := Ground.phase }], guard := none }) rfl (fun K hK => ?_) AllReadyH.nil
            refine stepStore ?_ (.tmp 5) (.tmp 8) ?_ m17 u1 v1 e1 e1 ?_ ?_ j25.thereF ?_
            · rfl
            · rfl
            · rfl
            · rfl
            refine hK.out _ _ (A3.up HS.out (j25.upF _)) (fun _ => ?_)
            clear hK K
            (try simp only [Act.put]); (try simp only [List.setIfInBounds_toArray]); (try simp only [List.set_cons_succ]); (try simp only [List.set_cons_zero])
            refine wpAnyH_ready (rs := [7]) (by kernel_rfl) (by simp) ?_
            refine AllReadyH.cons (o := { dst := none, op := Op.store 31 (Operand.tmp 6) (Operand.tmp 10), type := 0, pos := "span.go:65", after := #[{ on := 5, ground := Ground.data }, { on := 3, ground := Ground.data }, { on := 6, ground := Ground.chain }, { on := 0, ground := Ground.phase }, { on := 1, ground := Ground.phase }, { on := 2, ground := Ground.phase }, { on := 3, ground := Ground.phase }, { on := 4, ground := Ground.phase }, { on := 5, ground := Ground.phase }, { on := 6, ground := Ground.phase }], guard := none }) rfl (fun K hK => ?_) AllReadyH.nil
            refine stepStore ?_ (.tmp 6) (.tmp 10) ?_ m23 u2 v2 e2 e2 ?_ ?_ (j25.thereG _) ?_
            · rfl
            · rfl
            · rfl
            · rfl
            refine hK.out _ _ (A3.up HS.out (j25.fin u1 v1 u2 v2 e1 e1 e2 e2).2.2) (fun _ => ?_)
            clear hK K
            (try simp only [Act.put]); (try simp only [List.setIfInBounds_toArray]); (try simp only [List.set_cons_succ]); (try simp only [List.set_cons_zero])
            refine wpAnyH_done (by kernel_rfl) ?_ _
            refine NoPanic.normal ?_
            go_wp2_with fail
            go_meet
            case rel => exact ⟨m17, m23, rfl, rfl, (j25.fin u1 v1 u2 v2 e1 e1 e2 e2).1, (j25.fin u1 v1 u2 v2 e1 e1 e2 e2).2.1, (j25.fin u1 v1 u2 v2 e1 e1 e2 e2).2.2, (j25.2.1 _ rfl).1, (j25.2.2.1 _ rfl).1⟩
    · refine stepAlloc ?_ ?_ ?_
      · rfl
      · rfl
      intro m26 x26 hm26 hx26
      have j26 := j0.nG hm26 hx26
      clear hm26 hx26
      refine hK.out _ _ (A3.up HS.out j26.1) (fun _ => ?_)
      clear hK K
      (try simp only [Act.put]); (try simp only [List.setIfInBounds_toArray]); (try simp only [List.set_cons_succ]); (try simp only [List.set_cons_zero])
      refine wpAnyH_ready (rs := [1, 4]) (by kernel_rfl) (by simp) ?_
      refine AllReadyH.cons (o := { dst := some 8, op := Op.call { callee := Callee.value (Operand.func 29), args := #[Operand.tmp 7], argTypes := #[31] }, type := 31, pos := "span.go:65", after := #[{ on := 0, ground := Ground.data }], guard := none }) rfl (fun K hK => ?_) (AllReadyH.cons (o := { dst := some 5, op := Op.alloc 31, type := 0, pos := "span.go:65", after := #[], guard := none }) rfl (fun K hK => ?_) AllReadyH.nil)
      · refine stepCall1 ?_ 29 (.tmp 7) #[31] ?_ (.agg #[.float .f64 a, .float .f64 b, .bool p, .bool q]) ?_ ?_ (enter_canonS _ _) ?_
        · rfl
        · rfl
        · rfl
        · rfl
        refine (HA.out _).mono ?_
        rintro o x27 ⟨rfl, b27⟩
        refine ⟨_, rfl, ?_⟩
        have j27 := j26.up b27
        refine hK.out _ _ (A3.up HS.out j27.1) (fun _ => ?_)
        clear hK K
        (try simp only [Act.put]); (try simp only [List.setIfInBounds_toArray]); (try simp only [List.set_cons_succ]); (try simp only [List.set_cons_zero])
        refine wpAnyH_ready (rs := [3, 4]) (by kernel_rfl) (by simp) ?_
        refine AllReadyH.cons (o := { dst := some 10, op := Op.call { callee := Callee.value (Operand.func 29), args := #[Operand.tmp 9], argTypes := #[31] }, type := 31, pos := "span.go:65", after := #[{ on := 2, ground := Ground.data }, { on := 1, ground := Ground.chain }], guard := none }) rfl (fun K hK => ?_) (AllReadyH.cons (o := { dst := some 5, op := Op.alloc 31, type := 0, pos := "span.go:65", after := #[], guard := none }) rfl (fun K hK => ?_) AllReadyH.nil)
        · refine stepCall1 ?_ 29 (.tmp 9) #[31] ?_ (.agg #[.float .f64 c, .float .f64 d, .bool r, .bool s]) ?_ ?_ (enter_canonS _ _) ?_
          · rfl
          · rfl
          · rfl
          · rfl
          refine (HB.out _).mono ?_
          rintro o x28 ⟨rfl, b28⟩
          refine ⟨_, rfl, ?_⟩
          have j28 := j27.up b28
          refine hK.out _ _ (A3.up HS.out j28.1) (fun _ => ?_)
          clear hK K
          (try simp only [Act.put]); (try simp only [List.setIfInBounds_toArray]); (try simp only [List.set_cons_succ]); (try simp only [List.set_cons_zero])
          refine wpAnyH_ready (rs := [4]) (by kernel_rfl) (by simp) ?_
          refine AllReadyH.cons (o := { dst := some 5, op := Op.alloc 31, type := 0, pos := "span.go:65", after := #[], guard := none }) rfl (fun K hK => ?_) AllReadyH.nil
          · refine stepAlloc ?_ ?_ ?_
            · rfl
            · rfl
            intro m29 x29 hm29 hx29
            have j29 := j28.nF hm29 hx29
            clear hm29 hx29
            refine hK.out _ _ (A3.up HS.out j29.1) (fun _ => ?_)
            clear hK K
            (try simp only [Act.put]); (try simp only [List.setIfInBounds_toArray]); (try simp only [List.set_cons_succ]); (try simp only [List.set_cons_zero])
            refine wpAnyH_ready (rs := [6]) (by kernel_rfl) (by simp) ?_
            refine AllReadyH.cons (o := { dst := none, op := Op.store 31 (Operand.tmp 5) (Operand.tmp 8), type := 0, pos := "span.go:65", after := #[{ on := 4, ground := Ground.data }, { on := 1, ground := Ground.data }, { on := 3, ground := Ground.chain }, { on := 0, ground := Ground.phase }, { on := 1, ground := Ground.phase }, { on := 2, ground := Ground.textOnly Departure.lateStores }, { on := 3, ground := Ground.textOnly Departure.lateStoresUnsure }, { on := 4, ground := Ground.phase }, { on := 5, ground := Ground.phase }], guard := none }) rfl (fun K hK => ?_) AllReadyH.nil
            refine stepStore ?_ (.tmp 5) (.tmp 8) ?_ m29 u1 v1 e1 e1 ?_ ?_ j29.thereF ?_
            · rfl
            · rfl
            · rfl
            · rfl
            refine hK.out _ _ (A3.up HS.out (j29.upF _)) (fun _ => ?_)
            clear hK K
            (try simp only [Act.put]); (try simp only [List.setIfInBounds_toArray]); (try simp only [List.set_cons_succ]); (try simp only [List.set_cons_zero])
            refine wpAnyH_ready (rs := [7]) (by kernel_rfl) (by simp) ?_
            refine AllReadyH.cons (o := { dst := none, op := Op.store 31 (Operand.tmp 6) (Operand.tmp 10), type := 0, pos := "span.go:65", after := #[{ on := 5, ground := Ground.data }, { on := 3, ground := Ground.data }, { on := 6, ground := Ground.chain }, { on := 0, ground := Ground.phase }, { on := 1, ground := Ground.phase }, { on := 2, ground := Ground.phase }, { on := 3, ground := Ground.phase }, { on := 4, ground := Ground.phase }, { on := 5, ground := Ground.phase }, { on := 6, ground := Ground.phase }], guard := none }) rfl (fun K hK => ?_) AllReadyH.nil
            refine stepStore ?_ (.tmp 6) (.tmp 10) ?_ m26 u2 v2 e2 e2 ?_ ?_ (j29.thereG _) ?_
            · rfl
            · rfl
            · rfl
            · rfl
            refine hK.out _ _ (A3.up HS.out (j29.fin u1 v1 u2 v2 e1 e1 e2 e2).2.2) (fun _ => ?_)
            clear hK K
            (try simp only [Act.put]); (try simp only [List.setIfInBounds_toArray]); (try simp only [List.set_cons_succ]); (try simp only [List.set_cons_zero])
            refine wpAnyH_done (by kernel_rfl) ?_ _
            refine NoPanic.normal ?_
            go_wp2_with fail
            go_meet
            case rel => exact ⟨m29, m26, rfl, rfl, (j29.fin u1 v1 u2 v2 e1 e1 e2 e2).1, (j29.fin u1 v1 u2 v2 e1 e1 e2 e2).2.1, (j29.fin u1 v1 u2 v2 e1 e1 e2 e2).2.2, (j29.2.1 _ rfl).1, (j29.2.2.1 _ rfl).1⟩
        · refine stepAlloc ?_ ?_ ?_
          · rfl
          · rfl
          intro m30 x30 hm30 hx30
          have j30 := j27.nF hm30 hx30
          clear hm30 hx30
          refine hK.out _ _ (A3.up HS.out j30.1) (fun _ => ?_)
          clear hK K
          (try simp only [Act.put]); (try simp only [List.setIfInBounds_toArray]); (try simp only [List.set_cons_succ]); (try simp only [List.set_cons_zero])
          refine wpAnyH_ready (rs := [3]) (by kernel_rfl) (by simp) ?_
          refine AllReadyH.cons (o := { dst := some 10, op := Op.call { callee := Callee.value (Operand.func 29), args := #[Operand.tmp 9], argTypes := #[31] }, type := 31, pos := "span.go:65", after := #[{ on := 2, ground := Ground.data }, { on := 1, ground := Ground.chain }], guard := none }) rfl (fun K hK => ?_) AllReadyH.nil
          · refine stepCall1 ?_ 29 (.tmp 9) #[31] ?_ (.agg #[.float .f64 c, .float .f64 d, .bool r, .bool s]) ?_ ?_ (enter_canonS _ _) ?_
            · rfl
            · rfl
            · rfl
            · rfl
            refine (HB.out _).mono ?_
            rintro o x31 ⟨rfl, b31⟩
            refine ⟨_, rfl, ?_⟩
            have j31 := j30.up b31
            refine hK.out _ _ (A3.up HS.out j31.1) (fun _ => ?_)
            clear hK K
            (try simp only [Act.put]); (try simp only [List.setIfInBounds_toArray]); (try simp only [List.set_cons_succ]); (try simp only [List.set_cons_zero])
            refine wpAnyH_ready (rs := [6]) (by kernel_rfl) (by simp) ?_
            refine AllReadyH.cons (o := { dst := none, op := Op.store 31 (Operand.tmp 5) (Operand.tmp 8), type := 0, pos := "span.go:65", after := #[{ on := 4, ground := Ground.data }, { on := 1, ground := Ground.data }, { on := 3, ground := Ground.chain }, { on := 0, ground := Ground.phase }, { on := 1, ground := Ground.phase }, { on := 2, ground := Ground.textOnly Departure.lateStores }, { on := 3, ground := Ground.textOnly Departure.lateStoresUnsure }, { on := 4, ground := Ground.phase }, { on := 5, ground := Ground.phase }], guard := none }) rfl (fun K hK => ?_) AllReadyH.nil
            refine stepStore ?_ (.tmp 5) (.tmp 8) ?_ m30 u1 v1 e1 e1 ?_ ?_ j31.thereF ?_
            · rfl
            · rfl
            · rfl
            · rfl
            refine hK.out _ _ (A3.up HS.out (j31.upF _)) (fun _ => ?_)
            clear hK K
            (try simp only [Act.put]); (try simp only [List.setIfInBounds_toArray]); (try simp only [List.set_cons_succ]); (try simp only [List.set_cons_zero])
            refine wpAnyH_ready (rs := [7]) (by kernel_rfl) (by simp) ?_
            refine AllReadyH.cons (o := { dst := none, op := Op.store 31 (Operand.tmp 6) (Operand.tmp 10), type := 0, pos := "span.go:65", after := #[{ on := 5, ground := Ground.data }, { on := 3, ground := Ground.data }, { on := 6, ground := Ground.chain }, { on := 0, ground := Ground.phase }, { on := 1, ground := Ground.phase }, { on := 2, ground := Ground.phase }, { on := 3, ground := Ground.phase }, { on := 4, ground := Ground.phase }, { on := 5, ground := Ground.phase }, { on := 6, ground := Ground.phase }], guard := none }) rfl (fun K hK => ?_) AllReadyH.nil
            refine stepStore ?_ (.tmp 6) (.tmp 10) ?_ m26 u2 v2 e2 e2 ?_ ?_ (j31.thereG _) ?_
            · rfl
            · rfl
            · rfl
            · rfl
            refine hK.out _ _ (A3.up HS.out (j31.fin u1 v1 u2 v2 e1 e1 e2 e2).2.2) (fun _ => ?_)
            clear hK K
            (try simp only [Act.put]); (try simp only [List.setIfInBounds_toArray]); (try simp only [List.set_cons_succ]); (try simp only [List.set_cons_zero])
            refine wpAnyH_done (by kernel_rfl) ?_ _
            refine NoPanic.normal ?_
            go_wp2_with fail
            go_meet
            case rel => exact ⟨m30, m26, rfl, rfl, (j31.fin u1 v1 u2 v2 e1 e1 e2 e2).1, (j31.fin u1 v1 u2 v2 e1 e1 e2 e2).2.1, (j31.fin u1 v1 u2 v2 e1 e1 e2 e2).2.2, (j31.2.1 _ rfl).1, (j31.2.2.1 _ rfl).1⟩
      · refine stepAlloc ?_ ?_ ?_
        · rfl
        · rfl
        intro m32 x32 hm32 hx32
        have j32 := j26.nF hm32 hx32
        clear hm32 hx32
        refine hK.out _ _ (A3.up HS.out j32.1) (fun _ => ?_)
        clear hK K
        (try simp only [Act.put]); (try simp only [List.setIfInBounds_toArray]); (try simp only [List.set_cons_succ]); (try simp only [List.set_cons_zero])
        refine wpAnyH_ready (rs := [1]) (by kernel_rfl) (by simp) ?_
        refine AllReadyH.cons (o := { dst := some 8, op := Op.call { callee := Callee.value (Operand.func 29), args := #[Operand.tmp 7], argTypes := #[31] }, type := 31, pos := "span.go:65", after := #[{ on := 0, ground := Ground.data }], guard := none }) rfl (fun K hK => ?_) AllReadyH.nil
        · refine stepCall1 ?_ 29 (.tmp 7) #[31] ?_ (.agg #[.float .f64 a, .float .f64 b, .bool p, .bool q]) ?_ ?_ (enter_canonS _ _) ?_
          · rfl
          · rfl
          · rfl
          · rfl
          refine (HA.out _).mono ?_
          rintro o x33 ⟨rfl, b33⟩
          refine ⟨_, rfl, ?_⟩
          have j33 := j32.up b33
          refine hK.out _ _ (A3.up HS.out j33.1) (fun _ => ?_)
          clear hK K
          (try simp only [Act.put]); (try simp only [List.setIfInBounds_toArray]); (try simp only [List.set_cons_succ]); (try simp only [List.set_cons_zero])
          refine wpAnyH_ready (rs := [3]) (by kernel_rfl) (by simp) ?_
          refine AllReadyH.cons (o := { dst := some 10, op := Op.call { callee := Callee.value (Operand.func 29), args := #[Operand.tmp 9], argTypes := #[31] }, type := 31, pos := "span.go:65", after := #[{ on := 2, ground := Ground.data }, { on := 1, ground := Ground.chain }], guard := none }) rfl (fun K hK => ?_) AllReadyH.nil
          · refine stepCall1 ?_ 29 (.tmp 9) #[31] ?_ (.agg #[.float .f64 c, .float .f64 d, .bool r, .bool s]) ?_ ?_ (enter_canonS _ _) ?_
            · rfl
            · rfl
            · rfl
            · rfl
            refine (HB.out _).mono ?_
            rintro o x34 ⟨rfl, b34⟩
            refine ⟨_, rfl, ?_⟩
            have j34 := j33.up b34
            refine hK.out _ _ (A3.up HS.out j34.1) (fun _ => ?_)
            clear hK K
            (try simp only [Act.put]); (try simp only [List.setIfInBounds_toArray]); (try simp only [List.set_cons_succ]); (try simp only [List.set_cons_zero])
            refine wpAnyH_ready (rs := [6]) (by kernel_rfl) (by simp) ?_
            refine AllReadyH.cons (o := { dst := none, op := Op.store 31 (Operand.tmp 5) (Operand.tmp 8), type := 0, pos := "span.go:65", after := #[{ on := 4, ground := Ground.data }, { on := 1, ground := Ground.data }, { on := 3, ground := Ground.chain }, { on := 0, ground := Ground.phase }, { on := 1, ground := Ground.phase }, { on := 2, ground := Ground.textOnly Departure.lateStores }, { on := 3, ground := Ground.textOnly Departure.lateStoresUnsure }, { on := 4, ground := Ground.phase }, { on := 5, ground := Ground.phase }], guard := none }) rfl (fun K hK => ?_) AllReadyH.nil
            refine stepStore ?_ (.tmp 5) (.tmp 8) ?_ m32 u1 v1 e1 e1 ?_ ?_ j34.thereF ?_
            · rfl
            · rfl
            · rfl
            · rfl
            refine hK.out _ _ (A3.up HS.out (j34.upF _)) (fun _ => ?_)
            clear hK K
            (try simp only [Act.put]); (try simp only [List.setIfInBounds_toArray]); (try simp only [List.set_cons_succ]); (try simp only [List.set_cons_zero])
            refine wpAnyH_ready (rs := [7]) (by kernel_rfl) (by simp) ?_
            refine AllReadyH.cons (o := { dst := none, op := Op.store 31 (Operand.tmp 6) (Operand.tmp 10), type := 0, pos := "span.go:65", after := #[{ on := 5, ground := Ground.data }, { on := 3, ground := Ground.data }, { on := 6, ground := Ground.chain }, { on := 0, ground := Ground.phase }, { on := 1, ground := Ground.phase }, { on := 2, ground := Ground.phase }, { on := 3, ground := Ground.phase }, { on := 4, ground := Ground.phase }, { on := 5, ground := Ground.phase }, { on := 6, ground := Ground.phase }], guard := none }) rfl (fun K hK => ?_) AllReadyH.nil
            refine stepStore ?_ (.tmp 6) (.tmp 10) ?_ m26 u2 v2 e2 e2 ?_ ?_ (j34.thereG _) ?_
            · rfl
            · rfl
            · rfl
            · rfl
            refine hK.out _ _ (A3.up HS.out (j34.fin u1 v1 u2 v2 e1 e1 e2 e2).2.2) (fun _ => ?_)
            clear hK K
            (try simp only [Act.put]); (try simp only [List.setIfInBounds_toArray]); (try simp only [List.set_cons_succ]); (try simp only [List.set_cons_zero])
            refine wpAnyH_done (by kernel_rfl) ?_ _
            refine NoPanic.normal ?_
            go_wp2_with fail
            go_meet
            case rel => exact ⟨m32, m26, rfl, rfl, (j34.fin u1 v1 u2 v2 e1 e1 e2 e2).1, (j34.fin u1 v1 u2 v2 e1 e1 e2 e2).2.1, (j34.fin u1 v1 u2 v2 e1 e1 e2 e2).2.2, (j34.2.1 _ rfl).1, (j34.2.2.1 _ rfl).1⟩
  case rest =>
    obtain ⟨m, n, rfl, rfl, sm, sn, U1, Lm, Ln⟩ := hcut
    have U2 : Up w wc := U0.trans U1
    have t0 : S1 (w.heap.size + 2) 0 0 false false wc := (A3.up HS.out U1).2.1
    have hT0 : T2 m u1 v1 e1 n u2 v2 e2 wc := ⟨sm, sn⟩
    have hmk : Hid (m ≠ w.heap.size + 2 ∧ n ≠ w.heap.size + 2) := hid (by have := Z0.out; omega)
    clear Z0 Lm Ln
    have t1 : S1 (w.heap.size + 2) 0 0 false false wc.drew := S1.up ((Up.refl _).drew) t0
    have zz : w.heap.size + 2 < wc.heap.size := World.block_lt_of_cell? wc _ t0.1.1
    clear HS HA HB U0 U1
    have o0 : FloatKind.f64.format.order 0 0 = some .eq := by decide +kernel
    cases e1
    · cases e2
      · clear h1 h2 hE
        have HC' := hid (HC.out rfl)
        clear HC
        go_wp2_with fail
        go_region_held3 (T2 m u1 v1 false n u2 v2 false) (first | assumption | (refine T2.up ?_ hT0; (repeat (first | exact Up.refl _ | assumption | refine Up.drew ?_ | refine Up.alloc ?_ _ | refine Up.trans ?_ ‹Up _ _›)); done) | ((repeat (refine T2.far hmk.out ?_)); assumption)) (first | (go_at_call 38; refine (none_any _).mono ?_; rintro o w5 ⟨rfl, hb5⟩; have t5 : S1 (w.heap.size + 2) 0 0 false false w5 := S1.up hb5 (by first | assumption | exact (And.right ‹_›) | (apply S1.up; exact Up.drew (Up.refl _); assumption))))
        have hT : T2 m u1 v1 false n u2 v2 false w5 := by assumption
        go_wp2_with fail
        have UW5 : Up w w5 := (by repeat (first | exact Up.refl _ | assumption | refine Up.drew ?_ | refine Up.drewN ?_ _ | refine Up.alloc ?_ _ | refine Up.setCell ?_ ?_ _ | exact Nat.le_refl _ | exact Nat.le_add_right _ _ | (dsimp only; omega) | refine Up.trans ?_ ‹Up _ _›))
        refine wp_region_noPanic ?_
        refine wp_region_held_drew (S := T2 m u1 v1 false n u2 v2 false) (by kernel_rfl) ?_ (fun hHeld => ?_)
        · exact T2.up ((Up.refl _).drew) hT
        (try simp only [Act.put]); (try simp only [List.setIfInBounds_toArray]); (try simp only [List.set_cons_succ]); (try simp only [List.set_cons_zero])
        clear hHeld
        refine wpAnyH_take (i := 0) (oi := { dst := some 20, op := Op.fieldAddr 31 (Operand.tmp 5) 0, type := 0, pos := "span.go:69", after := #[], guard := none }) (v := ?vk1) rfl (by kernel_rfl) (by kernel_rfl) (by kernel_rfl) (fun _ _ _ h => h) (Or.inl ⟨by rfl, ?hk1⟩) (T2.up ((Up.refl w5).drew) hT) ?rk1
        case hk1 => (intro wz hSw; (try dsimp only at hSw); go_simp; try with_reducible rfl)
        (try simp only [Act.put]); (try simp only [List.setIfInBounds_toArray]); (try simp only [List.set_cons_succ]); (try simp only [List.set_cons_zero])
        refine wpAnyH_take (i := 1) (oi := { dst := some 21, op := Op.load 23 (Operand.tmp 20), type := 23, pos := "span.go:69", after := #[{ on := 0, ground := Ground.data }], guard := none }) (v := ?vk2) rfl (by kernel_rfl) (by kernel_rfl) (by kernel_rfl) (fun _ _ _ h => h) (Or.inl ⟨by rfl, ?hk2⟩) (T2.up ((Up.refl w5).drew) hT) ?rk2
        case hk2 => (intro wz hSw; (try dsimp only at hSw); go_simp; try with_reducible rfl)
        (try simp only [Act.put]); (try simp only [List.setIfInBounds_toArray]); (try simp only [List.set_cons_succ]); (try simp only [List.set_cons_zero])
        refine wpAnyH_take (i := 2) (oi := { dst := some 22, op := Op.fieldAddr 31 (Operand.tmp 6) 0, type := 0, pos := "span.go:69", after := #[], guard := none }) (v := ?vk3) rfl (by kernel_rfl) (by kernel_rfl) (by kernel_rfl) (fun _ _ _ h => h) (Or.inl ⟨by rfl, ?hk3⟩) (T2.up ((Up.refl w5).drew) hT) ?rk3
        case hk3 => (intro wz hSw; (try dsimp only at hSw); go_simp; try with_reducible rfl)
        (try simp only [Act.put]); (try simp only [List.setIfInBounds_toArray]); (try simp only [List.set_cons_succ]); (try simp only [List.set_cons_zero])
        refine wpAnyH_take (i := 3) (oi := { dst := some 23, op := Op.load 23 (Operand.tmp 22), type := 23, pos := "span.go:69", after := #[{ on := 2, ground := Ground.data }], guard := none }) (v := ?vk4) rfl (by kernel_rfl) (by kernel_rfl) (by kernel_rfl) (fun _ _ _ h => h) (Or.inl ⟨by rfl, ?hk4⟩) (T2.up ((Up.refl w5).drew) hT) ?rk4
        case hk4 => (intro wz hSw; (try dsimp only at hSw); go_simp; try with_reducible rfl)
        (try simp only [Act.put]); (try simp only [List.setIfInBounds_toArray]); (try simp only [List.set_cons_succ]); (try simp only [List.set_cons_zero])
        refine wpAnyH_take (i := 6) (oi := { dst := some 26, op := Op.fieldAddr 31 (Operand.tmp 5) 1, type := 0, pos := "span.go:69", after := #[], guard := none }) (v := ?vk5) rfl (by kernel_rfl) (by kernel_rfl) (by kernel_rfl) (fun _ _ _ h => h) (Or.inl ⟨by rfl, ?hk5⟩) (T2.up ((Up.refl w5).drew) hT) ?rk5
        case hk5 => (intro wz hSw; (try dsimp only at hSw); go_simp; try with_reducible rfl)
        (try simp only [Act.put]); (try simp only [List.setIfInBounds_toArray]); (try simp only [List.set_cons_succ]); (try simp only [List.set_cons_zero])
        refine wpAnyH_take (i := 7) (oi := { dst := some 27, op := Op.load 23 (Operand.tmp 26), type := 23, pos := "span.go:69", after := #[{ on := 6, ground := Ground.data }], guard := none }) (v := ?vk6) rfl (by kernel_rfl) (by kernel_rfl) (by kernel_rfl) (fun _ _ _ h => h) (Or.inl ⟨by rfl, ?hk6⟩) (T2.up ((Up.refl w5).drew) hT) ?rk6
        case hk6 => (intro wz hSw; (try dsimp only at hSw); go_simp; try with_reducible rfl)
        (try simp only [Act.put]); (try simp only [List.setIfInBounds_toArray]); (try simp only [List.set_cons_succ]); (try simp only [List.set_cons_zero])
        refine wpAnyH_take (i := 8) (oi := { dst := some 28, op := Op.fieldAddr 31 (Operand.tmp 6) 1, type := 0, pos := "span.go:69", after := #[], guard := none }) (v := ?vk7) rfl (by kernel_rfl) (by kernel_rfl) (by kernel_rfl) (fun _ _ _ h => h) (Or.inl ⟨by rfl, ?hk7⟩) (T2.up ((Up.refl w5).drew) hT) ?rk7
        case hk7 => (intro wz hSw; (try dsimp only at hSw); go_simp; try with_reducible rfl)
        (try simp only [Act.put]); (try simp only [List.setIfInBounds_toArray]); (try simp only [List.set_cons_succ]); (try simp only [List.set_cons_zero])
        refine wpAnyH_take (i := 9) (oi := { dst := some 29, op := Op.load 23 (Operand.tmp 28), type := 23, pos := "span.go:69", after := #[{ on := 8, ground := Ground.data }], guard := none }) (v := ?vk8) rfl (by kernel_rfl) (by kernel_rfl) (by kernel_rfl) (fun _ _ _ h => h) (Or.inl ⟨by rfl, ?hk8⟩) (T2.up ((Up.refl w5).drew) hT) ?rk8
        case hk8 => (intro wz hSw; (try dsimp only at hSw); go_simp; try with_reducible rfl)
        (try simp only [Act.put]); (try simp only [List.setIfInBounds_toArray]); (try simp only [List.set_cons_succ]); (try simp only [List.set_cons_zero])
        refine wpAnyH_ready (rs := [4, 10]) (by kernel_rfl) (by simp) ?_
        refine AllReadyH.cons (o := { dst := some 24, op := Op.buildSlice 22 2 #[(0, Operand.tmp 21), (1, Operand.tmp 23)], type := 22, pos := "span.go:69", after := #[{ on := 1, ground := Ground.data }, { on := 3, ground := Ground.data }], guard := none }) rfl (fun K hK => ?_) (AllReadyH.cons (o := { dst := some 30, op := Op.buildSlice 22 2 #[(0, Operand.tmp 27), (1, Operand.tmp 29)], type := 22, pos := "span.go:69", after := #[{ on := 7, ground := Ground.data }, { on := 9, ground := Ground.data }], guard := none }) rfl (fun K hK => ?_) AllReadyH.nil)
        · skip
          refine stepBuild2 ?_ (.tmp 21) (.tmp 23) ?_ u1 u2 ?_ ?_ ?_
          · rfl
          · rfl
          · rfl
          · rfl
          intro m9 x9 hm9 hx9
          obtain ⟨r9, b9⟩ := R2.new (u := u1) (v := u2) hm9 hx9
          clear hm9 hx9
          have U9 := ((Up.refl w5).drew).trans b9
          refine hK.out _ _ (T2.up U9 hT) (fun _ => ?_)
          clear hK K
          (try simp only [Act.put]); (try simp only [List.setIfInBounds_toArray]); (try simp only [List.set_cons_succ]); (try simp only [List.set_cons_zero])
          refine wpAnyH_ready (rs := [5, 10]) (by kernel_rfl) (by simp) ?_
          refine AllReadyH.cons (o := { dst := some 25, op := Op.call { callee := Callee.value (Operand.func 10), args := #[Operand.tmp 24], argTypes := #[22] }, type := 23, pos := "span.go:69", after := #[{ on := 4, ground := Ground.data }], guard := none }) rfl (fun K hK => ?_) (AllReadyH.cons (o := { dst := some 30, op := Op.buildSlice 22 2 #[(0, Operand.tmp 27), (1, Operand.tmp 29)], type := 22, pos := "span.go:69", after := #[{ on := 7, ground := Ground.data }, { on := 9, ground := Ground.data }], guard := none }) rfl (fun K hK => ?_) AllReadyH.nil)
          · skip
            refine stepCall1 ?_ 10 (.tmp 24) #[22] ?_ (.slice (some ⟨m9, 0, none⟩) 2 2) ?_ ?_ (enter_most _ _) ?_
            · rfl
            · rfl
            · rfl
            · rfl
            refine (HM.out _ _ _ r9.1 r9.2).mono ?_
            rintro o y10 ⟨rfl, rfl⟩
            refine ⟨_, rfl, ?_⟩
            refine hK.out _ _ (T2.up U9 hT) (fun _ => ?_)
            clear hK K
            (try simp only [Act.put]); (try simp only [List.setIfInBounds_toArray]); (try simp only [List.set_cons_succ]); (try simp only [List.set_cons_zero])
            refine wpAnyH_ready (rs := [10]) (by kernel_rfl) (by simp) ?_
            refine AllReadyH.cons (o := { dst := some 30, op := Op.buildSlice 22 2 #[(0, Operand.tmp 27), (1, Operand.tmp 29)], type := 22, pos := "span.go:69", after := #[{ on := 7, ground := Ground.data }, { on := 9, ground := Ground.data }], guard := none }) rfl (fun K hK => ?_) AllReadyH.nil
            · skip
              refine stepBuild2 ?_ (.tmp 27) (.tmp 29) ?_ v1 v2 ?_ ?_ ?_
              · rfl
              · rfl
              · rfl
              · rfl
              intro m11 x11 hm11 hx11
              obtain ⟨r11, b11⟩ := R2.new (u := v1) (v := v2) hm11 hx11
              clear hm11 hx11
              have U11 := U9.trans b11
              have r9_11 := r9.up b11
              refine hK.out _ _ (T2.up U11 hT) (fun _ => ?_)
              clear hK K
              (try simp only [Act.put]); (try simp only [List.setIfInBounds_toArray]); (try simp only [List.set_cons_succ]); (try simp only [List.set_cons_zero])
              refine wpAnyH_ready (rs := [11]) (by kernel_rfl) (by simp) ?_
              refine AllReadyH.cons (o := { dst := some 31, op := Op.call { callee := Callee.value (Operand.func 9), args := #[Operand.tmp 30], argTypes := #[22] }, type := 23, pos := "span.go:69", after := #[{ on := 10, ground := Ground.data }, { on := 5, ground := Ground.chain }], guard := none }) rfl (fun K hK => ?_) AllReadyH.nil
              · skip
                refine stepCall1 ?_ 9 (.tmp 30) #[22] ?_ (.slice (some ⟨m11, 0, none⟩) 2 2) ?_ ?_ (enter_least _ _) ?_
                · rfl
                · rfl
                · rfl
                · rfl
                refine (HL.out _ _ _ r11.1 r11.2).mono ?_
                rintro o y12 ⟨rfl, rfl⟩
                refine ⟨_, rfl, ?_⟩
                refine hK.out _ _ (T2.up U11 hT) (fun _ => ?_)
                clear hK K
                (try simp only [Act.put]); (try simp only [List.setIfInBounds_toArray]); (try simp only [List.set_cons_succ]); (try simp only [List.set_cons_zero])
                refine wpAnyH_ready (rs := [12]) (by kernel_rfl) (by simp) ?_
                refine AllReadyH.cons (o := { dst := some 32, op := Op.call { callee := Callee.value (Operand.func 39), args := #[Operand.tmp 25, Operand.tmp 31], argTypes := #[23, 23] }, type := 31, pos := "span.go:69", after := #[{ on := 5, ground := Ground.data }, { on := 11, ground := Ground.data }, { on := 11, ground := Ground.chain }], guard := none }) rfl (fun K hK => ?_) AllReadyH.nil
                · skip
                  refine stepCall2 ?_ 39 (.tmp 25) (.tmp 31) #[23, 23] ?_ (.float .f64 (Fl.mx u1 u2)) (.float .f64 (Fl.mn v1 v2)) ?_ ?_ ?_ (enter_closed _ _) ?_
                  · rfl
                  · rfl
                  · rfl
                  · rfl
                  · rfl
                  refine (HC'.out _).mono ?_
                  rintro o x13 ⟨rfl, b13⟩
                  refine ⟨_, rfl, ?_⟩
                  have U13 := U11.trans b13
                  refine hK.out _ _ (T2.up U13 hT) (fun _ => ?_)
                  clear hK K
                  (try simp only [Act.put]); (try simp only [List.setIfInBounds_toArray]); (try simp only [List.set_cons_succ]); (try simp only [List.set_cons_zero])
                  refine wpAnyH_ready (rs := [13]) (by kernel_rfl) (by simp) ?_
                  refine AllReadyH.cons (o := { dst := none, op := Op.store 31 (Operand.tmp 4) (Operand.tmp 32), type := 0, pos := "span.go:69", after := #[{ on := 12, ground := Ground.data }, { on := 12, ground := Ground.chain }, { on := 0, ground := Ground.phase }, { on := 1, ground := Ground.phase }, { on := 2, ground := Ground.phase }, { on := 3, ground := Ground.phase }, { on := 4, ground := Ground.phase }, { on := 5, ground := Ground.phase }, { on := 6, ground := Ground.phase }, { on := 7, ground := Ground.phase }, { on := 8, ground := Ground.phase }, { on := 9, ground := Ground.phase }, { on := 10, ground := Ground.phase }, { on := 11, ground := Ground.phase }, { on := 12, ground := Ground.phase }], guard := none }) rfl (fun K hK => ?_) AllReadyH.nil
                  · skip
                    have tt : S1 (w.heap.size + 2) 0 0 false false x13 := S1.up U13 t5
                    refine stepStore ?_ (.tmp 4) (.tmp 32) ?_ (w.heap.size + 2) U V E E ?_ ?_ (tt.1.there tt.2) ?_
                    · rfl
                    · rfl
                    · rfl
                    · rfl
                    refine hK.out _ _ ⟨(SpAt.up U13 hT.1).far hmk.out.1 _ _, (SpAt.up U13 hT.2).far hmk.out.2 _ _⟩ (fun _ => ?_)
                    clear hK K
                    (try simp only [Act.put]); (try simp only [List.setIfInBounds_toArray]); (try simp only [List.set_cons_succ]); (try simp only [List.set_cons_zero])
                    refine wpAnyH_done (by kernel_rfl) ?_ _
                    refine NoPanic.normal ?_
                    have fin := tt.1.stored U V E E
                    have UF : Up w (x13.setCells (w.heap.size + 2) 0 (spanRow U V E E)) := Up.setCells (Nat.le_add_right _ _) _ _ (UW5.trans U13)
                    generalize x13.setCells (w.heap.size + 2) 0 (spanRow U V E E) = xf at fin UF ⊢
                    go_wp2
                    exact bodyPost_ret (v := .agg #[.float .f64 U, .float .f64 V, .bool E, .bool E]) (by simp [results, Try.results14, go_sem, fin]) rfl ⟨rfl, UF⟩
          · skip
            refine stepBuild2 ?_ (.tmp 27) (.tmp 29) ?_ v1 v2 ?_ ?_ ?_
            · rfl
            · rfl
            · rfl
            · rfl
            intro m14 x14 hm14 hx14
            obtain ⟨r14, b14⟩ := R2.new (u := v1) (v := v2) hm14 hx14
            clear hm14 hx14
            have U14 := U9.trans b14
            have r9_14 := r9.up b14
            refine hK.out _ _ (T2.up U14 hT) (fun _ => ?_)
            clear hK K
            (try simp only [Act.put]); (try simp only [List.setIfInBounds_toArray]); (try simp only [List.set_cons_succ]); (try simp only [List.set_cons_zero])
            refine wpAnyH_ready (rs := [5]) (by kernel_rfl) (by simp) ?_
            refine AllReadyH.cons (o := { dst := some 25, op := Op.call { callee := Callee.value (Operand.func 10), args := #[Operand.tmp 24], argTypes := #[22] }, type := 23, pos := "span.go:69", after := #[{ on := 4, ground := Ground.data }], guard := none }) rfl (fun K hK => ?_) AllReadyH.nil
            · skip
              refine stepCall1 ?_ 10 (.tmp 24) #[22] ?_ (.slice (some ⟨m9, 0, none⟩) 2 2) ?_ ?_ (enter_most _ _) ?_
              · rfl
              · rfl
              · rfl
              · rfl
              refine (HM.out _ _ _ r9_14.1 r9_14.2).mono ?_
              rintro o y15 ⟨rfl, rfl⟩
              refine ⟨_, rfl, ?_⟩
              refine hK.out _ _ (T2.up U14 hT) (fun _ => ?_)
              clear hK K
              (try simp only [Act.put]); (try simp only [List.setIfInBounds_toArray]); (try simp only [List.set_cons_succ]); (try simp only [List.set_cons_zero])
              refine wpAnyH_ready (rs := [11]) (by kernel_rfl) (by simp) ?_
              refine AllReadyH.cons (o := { dst := some 31, op := Op.call { callee := Callee.value (Operand.func 9), args := #[Operand.tmp 30], argTypes := #[22] }, type := 23, pos := "span.go:69", after := #[{ on := 10, ground := Ground.data }, { on := 5, ground := Ground.chain }], guard := none }) rfl (fun K hK => ?_) AllReadyH.nil
              · skip
                refine stepCall1 ?_ 9 (.tmp 30) #[22] ?_ (.slice (some ⟨m14, 0, none⟩) 2 2) ?_ ?_ (enter_least _ _) ?_
                · rfl
                · rfl
                · rfl
                · rfl
                refine (HL.out _ _ _ r14.1 r14.2).mono ?_
                rintro o y16 ⟨rfl, rfl⟩
                refine ⟨_, rfl, ?_⟩
                refine hK.out _ _ (T2.up U14 hT) (fun _ => ?_)
                clear hK K
                (try simp only [Act.put]); (try simp only [List.setIfInBounds_toArray]); (try simp only [List.set_cons_succ]); (try simp only [List.set_cons_zero])
                refine wpAnyH_ready (rs := [12]) (by kernel_rfl) (by simp) ?_
                refine AllReadyH.cons (o := { dst := some 32, op := Op.call { callee := Callee.value (Operand.func 39), args := #[Operand.tmp 25, Operand.tmp 31], argTypes := #[23, 23] }, type := 31, pos := "span.go:69", after := #[{ on := 5, ground := Ground.data }, { on := 11, ground := Ground.data }, { on := 11, ground := Ground.chain }], guard := none }) rfl (fun K hK => ?_) AllReadyH.nil
                · skip
                  refine stepCall2 ?_ 39 (.tmp 25) (.tmp 31) #[23, 23] ?_ (.float .f64 (Fl.mx u1 u2)) (.float .f64 (Fl.mn v1 v2)) ?_ ?_ ?_ (enter_closed _ _) ?_
                  · rfl
                  · rfl
                  · rfl
                  · rfl
                  · rfl
                  refine (HC'.out _).mono ?_
                  rintro o x17 ⟨rfl, b17⟩
                  refine ⟨_, rfl, ?_⟩
                  have U17 := U14.trans b17
                  refine hK.out _ _ (T2.up U17 hT) (fun _ => ?_)
                  clear hK K
                  (try simp only [Act.put]); (try simp only [List.setIfInBounds_toArray]); (try simp only [List.set_cons_succ]); (try simp only [List.set_cons_zero])
                  refine wpAnyH_ready (rs := [13]) (by kernel_rfl) (by simp) ?_
                  refine AllReadyH.cons (o := { dst := none, op := Op.store 31 (Operand.tmp 4) (Operand.tmp 32), type := 0, pos := "span.go:69", after := #[{ on := 12, ground := Ground.data }, { on := 12, ground := Ground.chain }, { on := 0, ground := Ground.phase }, { on := 1, ground := Ground.phase }, { on := 2, ground := Ground.phase }, { on := 3, ground := Ground.phase }, { on := 4, ground := Ground.phase }, { on := 5, ground := Ground.phase }, { on := 6, ground := Ground.phase }, { on := 7, ground := Ground.phase }, { on := 8, ground := Ground.phase }, { on := 9, ground := Ground.phase }, { on := 10, ground := Ground.phase }, { on := 11, ground := Ground.phase }, { on := 12, ground := Ground.phase }], guard := none }) rfl (fun K hK => ?_) AllReadyH.nil
                  · skip
                    have tt : S1 (w.heap.size + 2) 0 0 false false x17 := S1.up U17 t5
                    refine stepStore ?_ (.tmp 4) (.tmp 32) ?_ (w.heap.size + 2) U V E E ?_ ?_ (tt.1.there tt.2) ?_
                    · rfl
                    · rfl
                    · rfl
                    · rfl
                    refine hK.out _ _ ⟨(SpAt.up U17 hT.1).far hmk.out.1 _ _, (SpAt.up U17 hT.2).far hmk.out.2 _ _⟩ (fun _ => ?_)
                    clear hK K
                    (try simp only [Act.put]); (try simp only [List.setIfInBounds_toArray]); (try simp only [List.set_cons_succ]); (try simp only [List.set_cons_zero])
                    refine wpAnyH_done (by kernel_rfl) ?_ _
                    refine NoPanic.normal ?_
                    have fin := tt.1.stored U V E E
                    have UF : Up w (x17.setCells (w.heap.size + 2) 0 (spanRow U V E E)) := Up.setCells (Nat.le_add_right _ _) _ _ (UW5.trans U17)
                    generalize x17.setCells (w.heap.size + 2) 0 (spanRow U V E E) = xf at fin UF ⊢
                    go_wp2
                    exact bodyPost_ret (v := .agg #[.float .f64 U, .float .f64 V, .bool E, .bool E]) (by simp [results, Try.results14, go_sem, fin]) rfl ⟨rfl, UF⟩
        · skip
          refine stepBuild2 ?_ (.tmp 27) (.tmp 29) ?_ v1 v2 ?_ ?_ ?_
          · rfl
          · rfl
          · rfl
          · rfl
          intro m18 x18 hm18 hx18
          obtain ⟨r18, b18⟩ := R2.new (u := v1) (v := v2) hm18 hx18
          clear hm18 hx18
          have U18 := ((Up.refl w5).drew).trans b18
          refine hK.out _ _ (T2.up U18 hT) (fun _ => ?_)
          clear hK K
          (try simp only [Act.put]); (try simp only [List.setIfInBounds_toArray]); (try simp only [List.set_cons_succ]); (try simp only [List.set_cons_zero])
          refine wpAnyH_ready (rs := [4]) (by kernel_rfl) (by simp) ?_
          refine AllReadyH.cons (o := { dst := some 24, op := Op.buildSlice 22 2 #[(0, Operand.tmp 21), (1, Operand.tmp 23)], type := 22, pos := "span.go:69", after := #[{ on := 1, ground := Ground.data }, { on := 3, ground := Ground.data }], guard := none }) rfl (fun K hK => ?_) AllReadyH.nil
          · skip
            refine stepBuild2 ?_ (.tmp 21) (.tmp 23) ?_ u1 u2 ?_ ?_ ?_
            · rfl
            · rfl
            · rfl
            · rfl
            intro m19 x19 hm19 hx19
            obtain ⟨r19, b19⟩ := R2.new (u := u1) (v := u2) hm19 hx19
            clear hm19 hx19
            have U19 := U18.trans b19
            have r18_19 := r18.up b19
            refine hK.out _ _ (T2.up U19 hT) (fun _ => ?_)
            clear hK K
            (try simp only [Act.put]); (try simp only [List.setIfInBounds_toArray]); (try simp only [List.set_cons_succ]); (try simp only [List.set_cons_zero])
            refine wpAnyH_ready (rs := [5]) (by kernel_rfl) (by simp) ?_
            refine AllReadyH.cons (o := { dst := some 25, op := Op.call { callee := Callee.value (Operand.func 10), args := #[Operand.tmp 24], argTypes := #[22] }, type := 23, pos := "span.go:69", after := #[{ on := 4, ground := Ground.data }], guard := none }) rfl (fun K hK => ?_) AllReadyH.nil
            · skip
              refine stepCall1 ?_ 10 (.tmp 24) #[22] ?_ (.slice (some ⟨m19, 0, none⟩) 2 2) ?_ ?_ (enter_most _ _) ?_
              · rfl
              · rfl
              · rfl
              · rfl
              refine (HM.out _ _ _ r19.1 r19.2).mono ?_
              rintro o y20 ⟨rfl, rfl⟩
              refine ⟨_, rfl, ?_⟩
              refine hK.out _ _ (T2.up U19 hT) (fun _ => ?_)
              clear hK K
              (try simp only [Act.put]); (try simp only [List.setIfInBounds_toArray]); (try simp only [List.set_cons_succ]); (try simp only [List.set_cons_zero])
              refine wpAnyH_ready (rs := [11]) (by kernel_rfl) (by simp) ?_
              refine AllReadyH.cons (o := { dst := some 31, op := Op.call { callee := Callee.value (Operand.func 9), args := #[Operand.tmp 30], argTypes := #[22] }, type := 23, pos := "span.go:69", after := #[{ on := 10, ground := Ground.data }, { on := 5, ground := Ground.chain }], guard := none }) rfl (fun K hK => ?_) AllReadyH.nil
              · skip
                refine stepCall1 ?_ 9 (.tmp 30) #[22] ?_ (.slice (some ⟨m18, 0, none⟩) 2 2) ?_ ?_ (enter_least _ _) ?_
                · rfl
                · rfl
                · rfl
                · rfl
                refine (HL.out _ _ _ r18_19.1 r18_19.2).mono ?_
                rintro o y21 ⟨rfl, rfl⟩
                refine ⟨_, rfl, ?_⟩
                refine hK.out _ _ (T2.up U19 hT) (fun _ => ?_)
                clear hK K
                (try simp only [Act.put]); (try simp only [List.setIfInBounds_toArray]); (try simp only [List.set_cons_succ]); (try simp only [List.set_cons_zero])
                refine wpAnyH_ready (rs := [12]) (by kernel_rfl) (by simp) ?_
                refine AllReadyH.cons (o := { dst := some 32, op := Op.call { callee := Callee.value (Operand.func 39), args := #[Operand.tmp 25, Operand.tmp 31], argTypes := #[23, 23] }, type := 31, pos := "span.go:69", after := #[{ on := 5, ground := Ground.data }, { on := 11, ground := Ground.data }, { on := 11, ground := Ground.chain }], guard := none }) rfl (fun K hK => ?_) AllReadyH.nil
                · skip
                  refine stepCall2 ?_ 39 (.tmp 25) (.tmp 31) #[23, 23] ?_ (.float .f64 (Fl.mx u1 u2)) (.float .f64 (Fl.mn v1 v2)) ?_ ?_ ?_ (enter_closed _ _) ?_
                  · rfl
                  · rfl
                  · rfl
                  · rfl
                  · rfl
                  refine (HC'.out _).mono ?_
                  rintro o x22 ⟨rfl, b22⟩
                  refine ⟨_, rfl, ?_⟩
                  have U22 := U19.trans b22
                  refine hK.out _ _ (T2.up U22 hT) (fun _ => ?_)
                  clear hK K
                  (try simp only [Act.put]); (try simp only [List.setIfInBounds_toArray]); (try simp only [List.set_cons_succ]); (try simp only [List.set_cons_zero])
                  refine wpAnyH_ready (rs := [13]) (by kernel_rfl) (by simp) ?_
                  refine AllReadyH.cons (o := { dst := none, op := Op.store 31 (Operand.tmp 4) (Operand.tmp 32), type := 0, pos := "span.go:69", after := #[{ on := 12, ground := Ground.data }, { on := 12, ground := Ground.chain }, { on := 0, ground := Ground.phase }, { on := 1, ground := Ground.phase }, { on := 2, ground := Ground.phase }, { on := 3, ground := Ground.phase }, { on := 4, ground := Ground.phase }, { on := 5, ground := Ground.phase }, { on := 6, ground := Ground.phase }, { on := 7, ground := Ground.phase }, { on := 8, ground := Ground.phase }, { on := 9, ground := Ground.phase }, { on := 10, ground := Ground.phase }, { on := 11, ground := Ground.phase }, { on := 12, ground := Ground.phase }], guard := none }) rfl (fun K hK => ?_) AllReadyH.nil
                  · skip
                    have tt : S1 (w.heap.size + 2) 0 0 false false x22 := S1.up U22 t5
                    refine stepStore ?_ (.tmp 4) (.tmp 32) ?_ (w.heap.size + 2) U V E E ?_ ?_ (tt.1.there tt.2) ?_
                    · rfl
                    · rfl
                    · rfl
                    · rfl
                    refine hK.out _ _ ⟨(SpAt.up U22 hT.1).far hmk.out.1 _ _, (SpAt.up U22 hT.2).far hmk.out.2 _ _⟩ (fun _ => ?_)
                    clear hK K
                    (try simp only [Act.put]); (try simp only [List.setIfInBounds_toArray]); (try simp only [List.set_cons_succ]); (try simp only [List.set_cons_zero])
                    refine wpAnyH_done (by kernel_rfl) ?_ _
                    refine NoPanic.normal ?_
                    have fin := tt.1.stored U V E E
                    have UF : Up w (x22.setCells (w.heap.size + 2) 0 (spanRow U V E E)) := Up.setCells (Nat.le_add_right _ _) _ _ (UW5.trans U22)
                    generalize x22.setCells (w.heap.size + 2) 0 (spanRow U V E E) = xf at fin UF ⊢
                    go_wp2
                    exact bodyPost_ret (v := .agg #[.float .f64 U, .float .f64 V, .bool E, .bool E]) (by simp [results, Try.results14, go_sem, fin]) rfl ⟨rfl, UF⟩
      · obtain ⟨rfl, rfl⟩ := h2 rfl
        obtain ⟨rfl, rfl, rfl⟩ := hE rfl
        clear h1 h2 hE HC HM HL
        go_wp2_with fail
        go_region_held3 (T2 m u1 v1 false n 0 0 true) (first | assumption | (refine T2.up ?_ hT0; (repeat (first | exact Up.refl _ | assumption | refine Up.drew ?_ | refine Up.alloc ?_ _ | refine Up.trans ?_ ‹Up _ _›)); done) | ((repeat (refine T2.far hmk.out ?_)); assumption)) (first | (go_at_call 38; refine (none_any _).mono ?_; rintro o w5 ⟨rfl, hb5⟩; have t5 : S1 (w.heap.size + 2) 0 0 false false w5 := S1.up hb5 (by first | assumption | exact (And.right ‹_›) | (apply S1.up; exact Up.drew (Up.refl _); assumption))))
        all_goals go_wp2_with (go_at_call 38; refine (none_any _).mono ?_; rintro o w6 ⟨rfl, hb6⟩; have t6 : S1 (w.heap.size + 2) 0 0 false false w6 := S1.up hb6 (by first | assumption | exact (And.right ‹_›) | (apply S1.up; exact Up.drew (Up.refl _); assumption)))
        all_goals exact bodyPost_ret (v := .agg #[.float .f64 0, .float .f64 0, .bool true, .bool true]) (by simp [results, Try.results14, go_sem, *]) rfl ⟨rfl, (by repeat (first | exact Up.refl _ | assumption | refine Up.drew ?_ | refine Up.drewN ?_ _ | refine Up.alloc ?_ _ | refine Up.setCell ?_ ?_ _ | exact Nat.le_refl _ | exact Nat.le_add_right _ _ | (dsimp only; omega) | refine Up.trans ?_ ‹Up _ _›))⟩
    · obtain ⟨rfl, rfl⟩ := h1 rfl
      obtain ⟨rfl, rfl, rfl⟩ := hE rfl
      clear h1 h2 hE HC HM HL
      go_wp2_with fail
      first | go_region_with (first | (go_at_call 38; refine (none_any _).mono ?_; rintro o w5 ⟨rfl, hb5⟩; have s5 : SpAt m 0 0 true true w5 := SpAt.up hb5 (by first | assumption | (apply SpAt.up; exact Up.drew (Up.refl _); assumption)); have t5 : S1 (w.heap.size + 2) 0 0 false false w5 := S1.up hb5 (by first | assumption | (apply S1.up; exact Up.drew (Up.refl _); assumption)))) | done
      all_goals go_wp2_with (go_at_call 38; refine (none_any _).mono ?_; rintro o w6 ⟨rfl, hb6⟩; have t6 : S1 (w.heap.size + 2) 0 0 false false w6 := S1.up hb6 (by first | assumption | exact (And.right ‹_›) | (apply S1.up; exact Up.drew (Up.refl _); assumption)))
      all_goals exact bodyPost_ret (v := .agg #[.float .f64 0, .float .f64 0, .bool true, .bool true]) (by simp [results, Try.results14, go_sem, *]) rfl ⟨rfl, (by repeat (first | exact Up.refl _ | assumption | refine Up.drew ?_ | refine Up.drewN ?_ _ | refine Up.alloc ?_ _ | refine Up.setCell ?_ ?_ _ | exact Nat.le_refl _ | exact Nat.le_add_right _ _ | (dsimp only; omega) | refine Up.trans ?_ ‹Up _ _›))⟩

set_option maxHeartbeats 400000 in
theorem meet_at {u1 v1 u2 v2 : Nat} {e1 e2 : Bool} (f1 : Fl.IsForm u1 v1 e1) (f2 : Fl.IsForm u2 v2 e2) (a b c d : Nat) (p q r s : Bool)
    (HA : Hid (∀ w, Calls Try.prog 29 #[.agg #[.float .f64 a, .float .f64 b, .bool p, .bool q]] w fun e w' => e = .returned (.agg #[.float .f64 u1, .float .f64 v1, .bool e1, .bool e1]) ∧ Up w w')) (HB : Hid (∀ w, Calls Try.prog 29 #[.agg #[.float .f64 c, .float .f64 d, .bool r, .bool s]] w fun e w' => e = .returned (.agg #[.float .f64 u2, .float .f64 v2, .bool e2, .bool e2]) ∧ Up w w')) (w : World) :
    Calls Try.prog 14 #[.agg #[.float .f64 a, .float .f64 b, .bool p, .bool q], .agg #[.float .f64 c, .float .f64 d, .bool r, .bool s]] w fun e w' => e = .returned (.agg #[.float .f64 (Fl.mU u1 v1 e1 u2 v2 e2), .float .f64 (Fl.mV u1 v1 e1 u2 v2 e2), .bool (Fl.mE u1 v1 e1 u2 v2 e2), .bool (Fl.mE u1 v1 e1 u2 v2 e2)]) ∧ Up w w' := by
  have n1 := Fl.form_nan f1
  have n2 := Fl.form_nan f2
  refine meet_core a b c d u1 v1 u2 v2 _ _ p q r s e1 e2 _ f1.2.2.1 f2.2.2.1 ?_ HA HB (fun m c W h0 h1 => most2 u1 u2 m c f1.1 f2.1 n1.2.2.1 n2.2.2.1 W h0 h1) (fun m c W h0 h1 => least2 v1 v2 m c f1.2.1 f2.2.1 n1.2.2.2 n2.2.2.2 W h0 h1) ?_ w
  · intro h
    have e : Fl.mE u1 v1 e1 u2 v2 e2 = true := by unfold Fl.mE; rw [h]; rfl
    unfold Fl.mU Fl.mV; rw [e]; exact ⟨rfl, rfl, rfl⟩
  · intro h w
    by_cases hc : Fl.code (Fl.mn v1 v2) < Fl.code (Fl.mx u1 u2)
    · have e : Fl.mE u1 v1 e1 u2 v2 e2 = true := by unfold Fl.mE; rw [h]; simp [hc]
      unfold Fl.mU Fl.mV; rw [e]
      exact closed_none _ _ (Fl.mx_W f1.1 f2.1) (Fl.mn_W f1.2.1 f2.2.1) hc w
    · have e : Fl.mE u1 v1 e1 u2 v2 e2 = false := by unfold Fl.mE; rw [h]; simp; omega
      unfold Fl.mU Fl.mV; rw [e]
      exact closed_some _ _ (Fl.mx_W f1.1 f2.1) (Fl.mn_W f1.2.1 f2.2.1) (by omega) w
theorem meet_any (a b c d : Nat) (p q r s : Bool) (ha : Fl.W a) (hb : Fl.W b) (hc : Fl.W c) (hd : Fl.W d) (w : World) :
    Calls Try.prog 14 #[.agg #[.float .f64 a, .float .f64 b, .bool p, .bool q], .agg #[.float .f64 c, .float .f64 d, .bool r, .bool s]] w fun e w' => e = .returned (.agg #[.float .f64 (Fl.mU (Fl.csU a b p q) (Fl.csV a b p q) (Fl.csE a b p q) (Fl.csU c d r s) (Fl.csV c d r s) (Fl.csE c d r s)), .float .f64 (Fl.mV (Fl.csU a b p q) (Fl.csV a b p q) (Fl.csE a b p q) (Fl.csU c d r s) (Fl.csV c d r s) (Fl.csE c d r s)), .bool (Fl.mE (Fl.csU a b p q) (Fl.csV a b p q) (Fl.csE a b p q) (Fl.csU c d r s) (Fl.csV c d r s) (Fl.csE c d r s)), .bool (Fl.mE (Fl.csU a b p q) (Fl.csV a b p q) (Fl.csE a b p q) (Fl.csU c d r s) (Fl.csV c d r s) (Fl.csE c d r s))]) ∧ Up w w' :=
  meet_at (Fl.cs_isForm a b p q ha hb) (Fl.cs_isForm c d r s hc hd) a b c d p q r s (fun w => canonS_any a b ha hb p q w) (fun w => canonS_any c d hc hd r s w) w
end Go.Proofs.Ytnggkncmcbcceaa
