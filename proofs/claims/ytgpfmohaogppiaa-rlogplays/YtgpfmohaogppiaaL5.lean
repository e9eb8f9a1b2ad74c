/- rlog's ahead, Term, Has at every log whose indexes follow; conditions: it lies in memory. -/
import Derived.Test.YtgpfmohaogppiaaL4
namespace Go.Proofs.Ytgpfmohaogppiaa
open Go.RowKit Go.Lib
set_option linter.unusedVariables false
set_option linter.unusedSimpArgs false
set_option maxRecDepth 20000
/-- A log whose indexes follow. -/
def LogS (w : World) (lb : Nat) (ix tm : Int) (n : Nat) (f : Nat → Ent) : Prop := LogR w lb ix tm n f ∧ 0 ≤ ix ∧ ix + n ≤ 1099511627776 ∧ ∀ i, i < n → (f i).i = ix + i + 1
theorem LogS.old {w w' : World} {lb : Nat} {ix tm : Int} {n : Nat} {f : Nat → Ent} (h : LogS w lb ix tm n f) (u : Old w w') : LogS w' lb ix tm n f := ⟨h.1.old u, h.2⟩
theorem LogS.last {w : World} {lb : Nat} {ix tm : Int} {n : Nat} {f : Nat → Ent} (h : LogS w lb ix tm n f) : lastI ix n f = ix + n := by
  unfold lastI
  split
  · rename_i e; rw [e]; simp
  · rename_i e; rw [h.2.2.2 (n - 1) (by omega)]; omega
def ahN (ix : Int) (n : Nat) (a : Int) : Int := max (ix + 1) (min a (ix + n + 1)) - ix - 1
/-- What Term reads. -/
abbrev TmS (lb g off n c j : Nat) (et : Int) : World → Prop := fun wz => wz.cell? ⟨lb, 2, none⟩ = some (.slice (some ⟨g, off, none⟩) n c) ∧ wz.cell? ⟨g, off + j * 4 + 1, none⟩ = some (.int .i64 et)
theorem TmS.old {lb g off n c j : Nat} {et : Int} {w w' : World} (u : Old w w') (h : TmS lb g off n c j et w) : TmS lb g off n c j et w' := ⟨u.keep h.1, u.keep h.2⟩
theorem wantCall2 {P : Program} {ops : Array Oper} {o : Oper} {a : Act} {w : World} {K : Act → World → Prop} {Q : Exit → Act → World → Prop} {E : Prop} (hw : Region.wanted o (yielded ops a.tmps) = true) (F : FuncId) (x y : Operand) (ts : Array TypeId)
    (hop : o.op = Op.call { callee := Callee.value (Operand.func F), args := #[x, y], argTypes := ts }) (u v : Value) (hx : a.eval x = u) (hy : a.eval y = v) (hF : a.eval (Operand.func F) = .func (.func F) #[] #[])
    (henter : (callFunc F #[u, v]).run P w = .ok (.enter F #[u, v]) w)
    (hc : Calls P F #[u, v] w fun e w' => ∃ r, e = .returned r ∧ K (a.put o.dst r) w') :
    if Region.wanted o (yielded ops a.tmps) = true then Oper.wp P o a w K Q else E := by
  rw [if_pos hw]
  unfold Oper.wp
  simp [execOp, hop, resolve, invoke, hx, hy, hF, Deferred.ofValue]
  rw [henter]
  refine hc.mono ?_
  rintro e w' ⟨r, rfl, hk⟩
  exact hk
set_option maxHeartbeats 2000000 in
set_option maxRecDepth 20000 in
theorem ahead_any (lb : Nat) (ix tm : Int) (n : Nat) (f : Nat → Ent) (a : Int) (w : World) (h : LogS w lb ix tm n f) :
    Calls Try.prog 33 #[.pointer (some ⟨lb, 0, none⟩), .int .i64 a] w fun e w' => e = .returned (.int .i64 (ahN ix n a)) ∧ Old w w' := by
  have HL := hid (last_any lb ix tm n f w h.1)
  rw [h.last] at HL
  obtain ⟨⟨h1, _⟩, h2, h3, _⟩ := h
  generalize lastT tm n f = lt at *
  go_enter Try.func33, Try.ntmps33
  go_upto_region 2 with (go_at_call 8; refine HL.out.mono ?_; rintro e w1 ⟨rfl, o1⟩; have O1 := hid o1; have x0 := o1.keep h1; clear o1)
  go_quiet (fail)
  generalize hmn : (if ix + (n : Int) + 1 < a then ix + (n : Int) + 1 else a) = mn
  generalize hmx : (if ix + 1 < mn then mn else ix + 1) = mx
  have HMN := hid hmn
  have HMX := hid hmx
  clear hmn hmx
  go_wp2
  go_ret
  exact ⟨ret_i (by have h1 := HMN.out; have h2 := HMX.out; unfold ahN; split at h1 <;> split at h2 <;> omega), O1.out.drewN _⟩
/-- The term at an index. -/
def tmB (ix : Int) (n : Nat) (a : Int) : Bool := decide (ix ≤ a) && decide (a ≤ ix + n)
def tmV (ix tm : Int) (n : Nat) (f : Nat → Ent) (a : Int) : Int := if tmB ix n a = true then (if a = ix then tm else (f (a - ix - 1).toNat).t) else 0
set_option maxHeartbeats 4000000 in
set_option maxRecDepth 20000 in
theorem term_any (lb : Nat) (ix tm : Int) (n : Nat) (f : Nat → Ent) (a : Int) (w : World) (h : LogS w lb ix tm n f) :
    Calls Try.prog 18 #[.pointer (some ⟨lb, 0, none⟩), .int .i64 a] w fun e w' => e = .returned (.tuple #[.int .i64 (tmV ix tm n f a), .bool (tmB ix n a)]) ∧ Old w w' := by
  have HL := hid (last_any lb ix tm n f w h.1)
  rw [h.last] at HL
  have HA0 := hid (fun (W : World) (u : Old w W) => ahead_any lb ix tm n f a W (h.old u))
  obtain ⟨⟨h1, h1t, hn, p, c, hp, hnc, hcm, hE⟩, h2, h3, _⟩ := h
  generalize lastT tm n f = lt at *
  go_enter Try.func18, Try.ntmps18
  go_upto_region 2 with (go_at_call 8; refine HL.out.mono ?_; rintro e w1 ⟨rfl, o1⟩; have O1 := hid o1; have x0 := o1.keep h1; have x1 := o1.keep h1t; clear o1)
  by_cases q1 : a < ix
  · have d1 : decide (a < ix) = true := decide_eq_true q1
    have e1 : tmB ix n a = false := by unfold tmB; simp; omega
    have e2 : tmV ix tm n f a = 0 := by unfold tmV; rw [e1]; rfl
    go_wp2
    go_ret2
    exact ⟨by first | rfl | (rw [e1, e2]; rfl), O1.out⟩
  · have d1 : decide (a < ix) = false := decide_eq_false q1
    by_cases q2 : ix + n < a
    · have d2 : decide (ix + (n : Int) < a) = true := decide_eq_true q2
      have e1 : tmB ix n a = false := by unfold tmB; simp; omega
      have e2 : tmV ix tm n f a = 0 := by unfold tmV; rw [e1]; rfl
      go_wp2
      go_ret2
      exact ⟨by first | rfl | (rw [e1, e2]; rfl), O1.out⟩
    · have d2 : decide (ix + (n : Int) < a) = false := decide_eq_false q2
      have e1 : tmB ix n a = true := by unfold tmB; simp; omega
      by_cases q3 : a = ix
      · have e2 : tmV ix tm n f a = tm := by unfold tmV; rw [e1, if_pos rfl, if_pos q3]
        subst q3
        have d3 : (a == a) = true := by simp
        go_wp2
        go_ret2
        exact ⟨by first | rfl | (rw [e1, e2]; rfl), O1.out⟩
      · have e2 : tmV ix tm n f a = (f (a - ix - 1).toNat).t := by unfold tmV; rw [e1, if_pos rfl, if_neg q3]
        have d3 : (a == ix) = false := by simp [q3]
        have e3 : ahN ix n a = (((a - ix - 1).toNat : Nat) : Int) := by unfold ahN; omega
        obtain ⟨g, off, rfl, y0, y1, y2, y3⟩ := hE (a - ix - 1).toNat (by omega)
        have l2 : (((a - ix - 1).toNat : Nat) : Int) < (n : Int) := by omega
        have l1 : (0 : Int) ≤ (((a - ix - 1).toNat : Nat) : Int) := by omega
        rw [e3] at HA0
        clear hE y0 y2 y3
        have HS := hid (show TmS lb g off n c (a - ix - 1).toNat (f (a - ix - 1).toNat).t w1 from ⟨O1.out.keep hp, O1.out.keep y1⟩)
        have HAh := hid (fun (W : World) (u : Old w1 W) => HA0.out W (O1.out.trans u))
        clear HA0 y1 hp
        generalize (f (a - ix - 1).toNat).t = et at *
        generalize hj : (a - ix - 1).toNat = j at *
        have E1 := hid e1
        have E2 := hid e2
        clear e1 e2 e3
        go_upto_region 6 with (fail)
        refine wp_region_noPanic ?_
        refine wp_region_held_drew (S := TmS lb g off n c j et) (by kernel_rfl) ?_ (fun hHeld => ?_)
        · exact TmS.old ((Old.refl _).drew) HS.out
        (try simp only [Act.put]); (try simp only [List.setIfInBounds_toArray]); (try simp only [List.set_cons_succ]); (try simp only [List.set_cons_zero])
        clear hHeld
        refine wpAnyH_take (i := 0) (oi := { dst := some 36, op := Op.move (Operand.tmp 0), type := 26, pos := "tell.go:26", after := #[], guard := none }) (v := ?vk1) rfl (by kernel_rfl) (by kernel_rfl) (by kernel_rfl) (fun _ _ _ h => h) (Or.inl ⟨by rfl, ?hk1⟩) (TmS.old ((Old.refl w1).drew) HS.out) ?rk1
        case hk1 => (intro wz hSw; (try dsimp only at hSw); go_simp; try with_reducible rfl)
        (try simp only [Act.put]); (try simp only [List.setIfInBounds_toArray]); (try simp only [List.set_cons_succ]); (try simp only [List.set_cons_zero])
        refine wpAnyH_take (i := 1) (oi := { dst := some 37, op := Op.nilCheck (Operand.tmp 36), type := 0, pos := "tell.go:26", after := #[{ on := 0, ground := Ground.data }], guard := none }) (v := ?vk2) rfl (by kernel_rfl) (by kernel_rfl) (by kernel_rfl) (fun _ _ _ h => h) (Or.inl ⟨by rfl, ?hk2⟩) (TmS.old ((Old.refl w1).drew) HS.out) ?rk2
        case hk2 => (intro wz hSw; (try dsimp only at hSw); go_simp; try with_reducible rfl)
        (try simp only [Act.put]); (try simp only [List.setIfInBounds_toArray]); (try simp only [List.set_cons_succ]); (try simp only [List.set_cons_zero])
        refine wpAnyH_take (i := 2) (oi := { dst := some 38, op := Op.fieldAddr 68 (Operand.tmp 37) 2, type := 0, pos := "tell.go:26", after := #[{ on := 1, ground := Ground.data }], guard := none }) (v := ?vk3) rfl (by kernel_rfl) (by kernel_rfl) (by kernel_rfl) (fun _ _ _ h => h) (Or.inl ⟨by rfl, ?hk3⟩) (TmS.old ((Old.refl w1).drew) HS.out) ?rk3
        case hk3 => (intro wz hSw; (try dsimp only at hSw); go_simp; try with_reducible rfl)
        (try simp only [Act.put]); (try simp only [List.setIfInBounds_toArray]); (try simp only [List.set_cons_succ]); (try simp only [List.set_cons_zero])
        refine wpAnyH_take (i := 3) (oi := { dst := some 39, op := Op.load 29 (Operand.tmp 38), type := 29, pos := "tell.go:26", after := #[{ on := 2, ground := Ground.data }], guard := none }) (v := ?vk4) rfl (by kernel_rfl) (by kernel_rfl) (by kernel_rfl) (fun _ _ _ h => h) (Or.inl ⟨by rfl, ?hk4⟩) (TmS.old ((Old.refl w1).drew) HS.out) ?rk4
        case hk4 => (intro wz hSw; (try dsimp only at hSw); go_simp; try with_reducible rfl)
        (try simp only [Act.put]); (try simp only [List.setIfInBounds_toArray]); (try simp only [List.set_cons_succ]); (try simp only [List.set_cons_zero])
        refine wpAnyH_take (i := 4) (oi := { dst := some 40, op := Op.move (Operand.tmp 0), type := 26, pos := "tell.go:26", after := #[], guard := none }) (v := ?vk5) rfl (by kernel_rfl) (by kernel_rfl) (by kernel_rfl) (fun _ _ _ h => h) (Or.inl ⟨by rfl, ?hk5⟩) (TmS.old ((Old.refl w1).drew) HS.out) ?rk5
        case hk5 => (intro wz hSw; (try dsimp only at hSw); go_simp; try with_reducible rfl)
        (try simp only [Act.put]); (try simp only [List.setIfInBounds_toArray]); (try simp only [List.set_cons_succ]); (try simp only [List.set_cons_zero])
        refine wpAnyH_take (i := 5) (oi := { dst := some 41, op := Op.move (Operand.tmp 1), type := 2, pos := "tell.go:26", after := #[], guard := none }) (v := ?vk6) rfl (by kernel_rfl) (by kernel_rfl) (by kernel_rfl) (fun _ _ _ h => h) (Or.inl ⟨by rfl, ?hk6⟩) (TmS.old ((Old.refl w1).drew) HS.out) ?rk6
        case hk6 => (intro wz hSw; (try dsimp only at hSw); go_simp; try with_reducible rfl)
        (try simp only [Act.put]); (try simp only [List.setIfInBounds_toArray]); (try simp only [List.set_cons_succ]); (try simp only [List.set_cons_zero])
        refine wpAnyH_ready (rs := [6]) (by kernel_rfl) (by simp) ?_
        refine AllReadyH.cons (o := { dst := some 42, op := Op.call { callee := Callee.value (Operand.func 33), args := #[Operand.tmp 40, Operand.tmp 41], argTypes := #[26, 2] }, type := 3, pos := "tell.go:26", after := #[{ on := 4, ground := Ground.data }, { on := 5, ground := Ground.data }], guard := none }) rfl (fun K hK => ?_) AllReadyH.nil
        refine wantCall2 ?_ 33 (.tmp 40) (.tmp 41) #[26, 2] ?_ (.pointer (some ⟨lb, 0, none⟩)) (.int .i64 a) ?_ ?_ ?_ ((enters_of Try.func33 (by kernel_rfl) rfl) _ _) ?_
        · rfl
        · rfl
        · rfl
        · rfl
        · rfl
        refine (HAh.out _ ((Old.refl w1).drew)).mono ?_
        rintro o x7 ⟨rfl, b7⟩
        refine ⟨_, rfl, ?_⟩
        have U7 := ((Old.refl w1).drew).trans b7
        refine hK.out _ _ (TmS.old U7 HS.out) (fun _ => ?_)
        clear hK K
        (try simp only [Act.put]); (try simp only [List.setIfInBounds_toArray]); (try simp only [List.set_cons_succ]); (try simp only [List.set_cons_zero])
        refine wpAnyH_take (i := 7) (oi := { dst := some 43, op := Op.indexAddr 29 (Operand.tmp 39) (Operand.tmp 42), type := 0, pos := "tell.go:26", after := #[{ on := 3, ground := Ground.data }, { on := 6, ground := Ground.data }], guard := none }) (v := ?vk8) rfl (by kernel_rfl) (by kernel_rfl) (by kernel_rfl) (fun _ _ _ h => h) (Or.inl ⟨by rfl, ?hk8⟩) (TmS.old U7 HS.out) ?rk8
        case hk8 => (intro wz hSw; (try dsimp only at hSw); go_simp; try with_reducible rfl)
        (try simp only [Act.put]); (try simp only [List.setIfInBounds_toArray]); (try simp only [List.set_cons_succ]); (try simp only [List.set_cons_zero])
        refine wpAnyH_take (i := 8) (oi := { dst := some 44, op := Op.fieldAddr 41 (Operand.tmp 43) 1, type := 0, pos := "tell.go:26", after := #[{ on := 7, ground := Ground.data }], guard := none }) (v := ?vk9) rfl (by kernel_rfl) (by kernel_rfl) (by kernel_rfl) (fun _ _ _ h => h) (Or.inl ⟨by rfl, ?hk9⟩) (TmS.old U7 HS.out) ?rk9
        case hk9 => (intro wz hSw; (try dsimp only at hSw); go_simp; try with_reducible rfl)
        (try simp only [Act.put]); (try simp only [List.setIfInBounds_toArray]); (try simp only [List.set_cons_succ]); (try simp only [List.set_cons_zero])
        refine wpAnyH_take (i := 9) (oi := { dst := some 45, op := Op.load 2 (Operand.tmp 44), type := 2, pos := "tell.go:26", after := #[{ on := 8, ground := Ground.data }], guard := none }) (v := ?vk10) rfl (by kernel_rfl) (by kernel_rfl) (by kernel_rfl) (fun _ _ _ h => h) (Or.inl ⟨by rfl, ?hk10⟩) (TmS.old U7 HS.out) ?rk10
        case hk10 => (intro wz hSw; (try dsimp only at hSw); go_simp; try with_reducible rfl)
        (try simp only [Act.put]); (try simp only [List.setIfInBounds_toArray]); (try simp only [List.set_cons_succ]); (try simp only [List.set_cons_zero])
        refine wpAnyH_ready (rs := [10]) (by kernel_rfl) (by simp) ?_
        refine AllReadyH.cons (o := { dst := some 4, op := Op.assign (Operand.tmp 45), type := 2, pos := "tell.go:26", after := #[{ on := 9, ground := Ground.data }, { on := 6, ground := Ground.chain }, { on := 0, ground := Ground.phase }, { on := 1, ground := Ground.phase }, { on := 2, ground := Ground.phase }, { on := 3, ground := Ground.phase }, { on := 4, ground := Ground.phase }, { on := 5, ground := Ground.phase }, { on := 6, ground := Ground.phase }, { on := 7, ground := Ground.phase }, { on := 8, ground := Ground.phase }, { on := 9, ground := Ground.phase }], guard := none }) rfl (fun K hK => ?_) AllReadyH.nil
        go_simp
        refine hK.out _ _ (TmS.old U7 HS.out) (fun _ => ?_)
        clear hK K
        (try simp only [Act.put]); (try simp only [List.setIfInBounds_toArray]); (try simp only [List.set_cons_succ]); (try simp only [List.set_cons_zero])
        refine wpAnyH_ready (rs := [11]) (by kernel_rfl) (by simp) ?_
        refine AllReadyH.cons (o := { dst := some 5, op := Op.assign (Operand.const (Value.bool true)), type := 4, pos := "tell.go:26", after := #[{ on := 10, ground := Ground.chain }, { on := 0, ground := Ground.phase }, { on := 1, ground := Ground.phase }, { on := 2, ground := Ground.phase }, { on := 3, ground := Ground.phase }, { on := 4, ground := Ground.phase }, { on := 5, ground := Ground.phase }, { on := 6, ground := Ground.phase }, { on := 7, ground := Ground.phase }, { on := 8, ground := Ground.phase }, { on := 9, ground := Ground.phase }, { on := 10, ground := Ground.phase }], guard := none }) rfl (fun K hK => ?_) AllReadyH.nil
        go_simp
        refine hK.out _ _ (TmS.old U7 HS.out) (fun _ => ?_)
        clear hK K
        (try simp only [Act.put]); (try simp only [List.setIfInBounds_toArray]); (try simp only [List.set_cons_succ]); (try simp only [List.set_cons_zero])
        refine wpAnyH_done (by kernel_rfl) ?_ _
        refine NoPanic.normal ?_
        have UZ := hid U7
        go_wp2
        go_ret2
        exact ⟨by rw [E1.out, E2.out]; rfl, O1.out.trans UZ.out⟩
set_option maxHeartbeats 2000000 in
set_option maxRecDepth 20000 in
theorem has_any (lb : Nat) (ix tm : Int) (n : Nat) (f : Nat → Ent) (a b : Int) (w : World) (h : LogS w lb ix tm n f) :
    Calls Try.prog 15 #[.pointer (some ⟨lb, 0, none⟩), .int .i64 a, .int .i64 b] w fun e w' => e = .returned (.bool (tmB ix n a && (tmV ix tm n f a == b))) ∧ Old w w' := by
  have HT := hid (term_any lb ix tm n f a w h)
  clear h
  generalize tmB ix n a = B at *
  generalize tmV ix tm n f a = V at *
  go_enter Try.func15, Try.ntmps15
  go_upto_region 2 with (go_at_call 18; refine HT.out.mono ?_; rintro e w1 ⟨rfl, o1⟩; have O1 := hid o1; clear o1)
  cases B with
  | false =>
    go_wp2
    go_ret
    exact ⟨rfl, O1.out⟩
  | true =>
    go_wp2
    go_ret
    exact ⟨by simp, O1.out⟩
end Go.Proofs.Ytgpfmohaogppiaa
