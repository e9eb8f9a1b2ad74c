/- The example that the laws of layer 16 begin with; no condition. -/
import Derived.Test.YtgpfmohaogppiaaL9
namespace Go.Proofs.Ytgpfmohaogppiaa
open Go.RowKit Go.Lib
set_option linter.unusedVariables false
set_option linter.unusedSimpArgs false
set_option maxRecDepth 20000
theorem wantCall0 {P : Program} {ops : Array Oper} {o : Oper} {a : Act} {w : World} {K : Act → World → Prop} {Q : Exit → Act → World → Prop} {E : Prop} (hw : Region.wanted o (yielded ops a.tmps) = true) (F : FuncId) (ts : Array TypeId)
    (hop : o.op = Op.call { callee := Callee.value (Operand.func F), args := #[], argTypes := ts }) (hF : a.eval (Operand.func F) = .func (.func F) #[] #[])
    (henter : (callFunc F #[]).run P w = .ok (.enter F #[]) w)
    (hc : Calls P F #[] w fun e w' => ∃ r, e = .returned r ∧ K (a.put o.dst r) w') :
    if Region.wanted o (yielded ops a.tmps) = true then Oper.wp P o a w K Q else E := by
  rw [if_pos hw]
  unfold Oper.wp
  simp [execOp, hop, resolve, invoke, hF, Deferred.ofValue]
  rw [henter]
  refine hc.mono ?_
  rintro e w' ⟨r, rfl, hk⟩
  exact hk
theorem wantCall3 {P : Program} {ops : Array Oper} {o : Oper} {a : Act} {w : World} {K : Act → World → Prop} {Q : Exit → Act → World → Prop} {E : Prop} (hw : Region.wanted o (yielded ops a.tmps) = true) (F : FuncId) (x y z : Operand) (ts : Array TypeId)
    (hop : o.op = Op.call { callee := Callee.value (Operand.func F), args := #[x, y, z], argTypes := ts }) (u v t : Value) (hx : a.eval x = u) (hy : a.eval y = v) (hz : a.eval z = t) (hF : a.eval (Operand.func F) = .func (.func F) #[] #[])
    (henter : (callFunc F #[u, v, t]).run P w = .ok (.enter F #[u, v, t]) w)
    (hc : Calls P F #[u, v, t] w fun e w' => ∃ r, e = .returned r ∧ K (a.put o.dst r) w') :
    if Region.wanted o (yielded ops a.tmps) = true then Oper.wp P o a w K Q else E := by
  rw [if_pos hw]
  unfold Oper.wp
  simp [execOp, hop, resolve, invoke, hx, hy, hz, hF, Deferred.ofValue]
  rw [henter]
  refine hc.mono ?_
  rintro e w' ⟨r, rfl, hk⟩
  exact hk
abbrev BxS (cb : Nat) (a b : Value) : World → Prop := fun wz => wz.cell? ⟨cb, 0, none⟩ = some a ∧ wz.cell? ⟨cb, 1, none⟩ = some b
theorem BxS.old {cb : Nat} {a b : Value} {w w' : World} (u : Old w w') (h : BxS cb a b w) : BxS cb a b w' := ⟨u.keep h.1, u.keep h.2⟩
def ue : Nat → Int | 0 => 0 | 1 => 1 | _ => 3
theorem nilRow (w : World) : NRowL w (.slice none 0 0) 0 (fun _ => 0) := ⟨by omega, none, 0, rfl, by omega, by omega, fun i hi => by omega⟩
theorem Ex.old {w0 W W' : World} {lb gc g : Nat} {u1 u2 : Value} (h : Ex w0 lb gc g u1 u2 W) (u : Old W W') : Ex w0 lb gc g u1 u2 W' := by
  obtain ⟨c, h2, h3, h4⟩ := h.c2
  exact ⟨h.u.trans u, u.keep h.c0, u.keep h.c1, ⟨c, u.keep h2, h3, h4⟩, u.keep h.c3, h.e.old u, u.keep h.k0, u.keep h.k1, u.keep h.k2⟩
set_option maxHeartbeats 8000000 in
set_option maxRecDepth 20000 in
theorem alive_any (w : World) : Calls Try.prog 7 #[] w fun e w' => e = .returned (.bool true) ∧ Old w w' := by
  go_enter Try.func7, Try.ntmps7
  go_upto_region 2 with (first | (go_at_call 16; refine (first_any _).mono ?_; rintro e w1 ⟨b1, rfl, r1, o1⟩; have R1 := hid r1; have O1 := hid o1; clear r1 o1) | (go_at_call 6; refine (new_ok _ (.slice none 0 0) 2 0 _ (fun _ => 0) w1 R1.out (nilRow _) (.inr ⟨_, _, _, _, rfl⟩) (.inl rfl)).mono ?_; rintro e w2 ⟨W1, lb, gc, u1, u2, rfl, ow, n1, n2, s1, s2, l2⟩; have L2 := hid l2; have OW := hid (O1.out.trans ow); have N1 := hid n1; have N2 := hid n2; have S1 := hid s1; have S2 := hid s2; clear l2 ow n1 n2 s1 s2))
  clear R1 O1
  have HAp := hid (append_ok W1 lb gc (.slice none 0 0) 0 0 0 u1 u2 [] 0 ue w2.heap.size 2 (w2.alloc (.cells #[.int .i64 1, .int .i64 1, .int .i64 0, .slice none 0 0, .int .i64 2, .int .i64 3, .int .i64 0, .slice none 0 0] 41)) (L2.out.old ((Old.refl _).alloc _)) (by decide) rfl rfl (by decide) (fun k hk => by match k, hk with | 0, _ => decide | 1, _ => decide) (fun k hk => by match k, hk with | 0, _ => decide | 1, _ => decide | 2, _ => decide) (fun k hk => by match k, hk with | 0, _ => exact ⟨by simp [en, ue], by simp [en, ue], by simp [en, ue], by simp [en, ue]⟩ | 1, _ => exact ⟨by simp [en, ue], by simp [en, ue], by simp [en, ue], by simp [en, ue]⟩) L2.out.lt (by simp [Value.ownBlock]))
  rw [show ([] : List Ent) ++ lsE 0 ue 2 = exL from by simp [lsE, exL, ue, en]] at HAp
  go_upto_region 4 with (go_at_call 10; refine HAp.out.mono ?_; rintro e w3 ⟨rfl, v3, l3⟩; have L3 := hid l3; clear l3)
  clear HAp L2
  have HLa := hid (last_any lb 0 0 2 (entA exL) w3 L3.out.s.1)
  rw [show lastI 0 2 (entA exL) = 2 from rfl, show lastT 0 2 (entA exL) = 3 from rfl] at HLa
  go_upto_region 5 with (go_at_call 8; refine HLa.out.mono ?_; rintro e w4 ⟨rfl, o4⟩; have L4 := hid (L3.out.old o4); clear o4)
  clear HLa L3
  have HN1 := hid (newer_any lb 0 0 2 (entA exL) 1 4 2 3 w4 L4.out.s.1 rfl rfl)
  have HN2 := hid (fun (W : World) (u : Old w4 W) => newer_any lb 0 0 2 (entA exL) 1 3 2 3 W (L4.out.old u).s.1 rfl rfl)
  rw [show newB 2 3 1 4 = true from by decide] at HN1
  rw [show newB 2 3 1 3 = false from by decide] at HN2
  have tok1 : True := trivial
  go_upto_region 6 with (first | (go_at_call 22; have _t := tok1; clear tok1 _t; refine HN1.out.mono ?_; rintro e w5 ⟨rfl, o5⟩; have O5 := hid o5; clear o5) | (go_at_call 22; refine (HN2.out _ O5.out).mono ?_; rintro e w6 ⟨rfl, o6⟩; have L6 := hid (L4.out.old (O5.out.trans o6)); clear o6))
  clear HN1 HN2 L4 O5
  have HD := hid (dropTo_ex W1 lb gc v3 u1 u2 w6 L6.out)
  go_upto_region 7 with (go_at_call 13; refine HD.out.mono ?_; rintro e w7 ⟨rfl, g, x7⟩; have X7 := hid x7; clear x7)
  clear HD L6
  have HB := hid (base_any lb 1 1 1 (fun _ => en 2 3) w7 X7.out.s.1)
  have HTm := hid (fun (W : World) (u : Old w7 W) => term_any lb 1 1 1 (fun _ => en 2 3) 2 W (X7.out.s.old u))
  rw [show tmV 1 1 1 (fun _ => en 2 3) 2 = 3 from by decide, show tmB 1 1 2 = true from by decide] at HTm
  go_upto_region 9 with (first | (go_at_call 9; refine HB.out.mono ?_; rintro e y1 ⟨rfl, o1⟩; have V1 := hid o1; clear o1) | (go_at_call 18; refine (HTm.out _ V1.out).mono ?_; rintro e y2 ⟨rfl, o2⟩; have X8 := hid (X7.out.old (V1.out.trans o2)); clear o2))
  clear HB HTm V1 X7
  have HCf := hid (conf_one lb gc 1 u1 u2 2 0 _ _ y2 ⟨X8.out.c3, X8.out.k0, X8.out.k1, X8.out.k2⟩ (N1.out.old X8.out.u) (N2.out.old X8.out.u) S1.out S2.out)
  go_upto_region 10 with (go_at_call 17; refine HCf.out.mono ?_; rintro e y3 ⟨c1, c2, rfl, m1, m2, o3⟩; have M1 := hid m1; have M2 := hid m2; have X9 := hid (X8.out.old o3); obtain ⟨q1, d1, e1, _⟩ := m1.shape; subst e1; obtain ⟨q2, d2, e2, _⟩ := m2.shape; subst e2; clear m1 m2 o3)
  clear HCf X8
  have HBx := hid (show BxS y3.heap.size (.slice q1 2 d1) (.slice q2 0 d2) (y3.alloc (.cells #[.slice q1 2 d1, .slice q2 0 d2] 24)) from ⟨by simp, by simp⟩)
  have X10 := hid (X9.out.old ((Old.refl y3).alloc (.cells #[.slice q1 2 d1, .slice q2 0 d2] 24)))
  have M3 := hid (M1.out.old ((Old.refl y3).alloc (.cells #[.slice q1 2 d1, .slice q2 0 d2] 24)))
  have M4 := hid (M2.out.old ((Old.refl y3).alloc (.cells #[.slice q1 2 d1, .slice q2 0 d2] 24)))
  generalize hw9 : y3.alloc (.cells #[.slice q1 2 d1, .slice q2 0 d2] 24) = w9 at *
  generalize hcb : y3.heap.size = cb at *
  clear hw9 hcb X9 M1 M2
  have OW2 := hid (OW.out.trans X10.out.u)
  clear OW
  have OW := OW2
  clear OW2
  have HHs := hid (fun (W : World) (u : Old w9 W) => has_any lb 1 1 1 (fun _ => en 2 3) 2 3 W (X10.out.s.old u))
  rw [show (tmB 1 1 2 && (tmV 1 1 1 (fun _ => en 2 3) 2 == 3)) = true from by decide] at HHs
  have HEn := hid (fun (W : World) (u : Old w9 W) => entries_ex W1 lb gc g u1 u2 W (X10.out.old u))
  have HFi := hid (fun (W : World) (u : Old w9 W) => first_any W)
  have HSa := hid (fun (W : World) (b : Nat) (q : Old w9 W ∧ NRowL W (.slice (some ⟨b, 0, none⟩) 2 2) 2 (fun i => (i : Int) + 1)) => same_eq (.slice q1 2 d1) (.slice q2 0 d2) (.slice (some ⟨b, 0, none⟩) 2 2) (.slice none 0 0) 2 0 _ (fun _ => 0) W (M3.out.old q.1) (M4.out.old q.1) q.2 (nilRow _))
  clear M3 M4 X10 N1 N2 S1 S2
  refine wp_region_noPanic ?_
  refine wp_region_held_drew (S := BxS cb (.slice q1 2 d1) (.slice q2 0 d2)) (by kernel_rfl) ?_ (fun hHeld => ?_)
  · exact BxS.old ((Old.refl w9).drew) HBx.out
  (try simp only [Act.put]); (try simp only [List.setIfInBounds_toArray]); (try simp only [List.set_cons_succ]); (try simp only [List.set_cons_zero])
  clear hHeld
  refine wpAnyH_take (i := 0) (oi := { dst := some 51, op := Op.move (Operand.tmp 2), type := 2, pos := "law.go:35", after := #[], guard := none }) (v := ?vk1) rfl (by kernel_rfl) (by kernel_rfl) (by kernel_rfl) (fun _ _ _ h => h) (Or.inl ⟨by rfl, ?hk1⟩) (BxS.old ((Old.refl w9).drew) HBx.out) ?rk1
  case hk1 => (intro wz hSw; (try dsimp only at hSw); go_simp; try with_reducible rfl)
  (try simp only [Act.put]); (try simp only [List.setIfInBounds_toArray]); (try simp only [List.set_cons_succ]); (try simp only [List.set_cons_zero])
  refine wpAnyH_take (i := 1) (oi := { dst := some 52, op := Op.binOp BinOp.eql 2 (Operand.tmp 51) (Operand.const (Value.int IntKind.i64 2)) 2, type := 4, pos := "law.go:35", after := #[{ on := 0, ground := Ground.data }], guard := none }) (v := ?vk2) rfl (by kernel_rfl) (by kernel_rfl) (by kernel_rfl) (fun _ _ _ h => h) (Or.inl ⟨by rfl, ?hk2⟩) (BxS.old ((Old.refl w9).drew) HBx.out) ?rk2
  case hk2 => (intro wz hSw; (try dsimp only at hSw); go_simp; try with_reducible rfl)
  (try simp only [Act.put]); (try simp only [List.setIfInBounds_toArray]); (try simp only [List.set_cons_succ]); (try simp only [List.set_cons_zero])
  refine wpAnyH_take (i := 2) (oi := { dst := some 53, op := Op.move (Operand.tmp 52), type := 4, pos := "law.go:35", after := #[{ on := 1, ground := Ground.data }], guard := none }) (v := ?vk3) rfl (by kernel_rfl) (by kernel_rfl) (by kernel_rfl) (fun _ _ _ h => h) (Or.inl ⟨by rfl, ?hk3⟩) (BxS.old ((Old.refl w9).drew) HBx.out) ?rk3
  case hk3 => (intro wz hSw; (try dsimp only at hSw); go_simp; try with_reducible rfl)
  (try simp only [Act.put]); (try simp only [List.setIfInBounds_toArray]); (try simp only [List.set_cons_succ]); (try simp only [List.set_cons_zero])
  refine wpAnyH_take (i := 3) (oi := { dst := some 54, op := Op.move (Operand.tmp 3), type := 2, pos := "law.go:35", after := #[{ on := 2, ground := Ground.guard }], guard := some (2, true) }) (v := ?vk4) rfl (by kernel_rfl) (by kernel_rfl) (by kernel_rfl) (fun _ _ _ h => h) (Or.inl ⟨by rfl, ?hk4⟩) (BxS.old ((Old.refl w9).drew) HBx.out) ?rk4
  case hk4 => (intro wz hSw; (try dsimp only at hSw); go_simp; try with_reducible rfl)
  (try simp only [Act.put]); (try simp only [List.setIfInBounds_toArray]); (try simp only [List.set_cons_succ]); (try simp only [List.set_cons_zero])
  refine wpAnyH_take (i := 4) (oi := { dst := some 55, op := Op.binOp BinOp.eql 2 (Operand.tmp 54) (Operand.const (Value.int IntKind.i64 3)) 2, type := 4, pos := "law.go:35", after := #[{ on := 3, ground := Ground.data }, { on := 2, ground := Ground.guard }], guard := some (2, true) }) (v := ?vk5) rfl (by kernel_rfl) (by kernel_rfl) (by kernel_rfl) (fun _ _ _ h => h) (Or.inl ⟨by rfl, ?hk5⟩) (BxS.old ((Old.refl w9).drew) HBx.out) ?rk5
  case hk5 => (intro wz hSw; (try dsimp only at hSw); go_simp; try with_reducible rfl)
  (try simp only [Act.put]); (try simp only [List.setIfInBounds_toArray]); (try simp only [List.set_cons_succ]); (try simp only [List.set_cons_zero])
  refine wpAnyH_take (i := 5) (oi := { dst := some 56, op := Op.pick (Operand.tmp 53) (Operand.tmp 55) (Operand.const (Value.bool false)), type := 4, pos := "law.go:35", after := #[{ on := 2, ground := Ground.data }, { on := 4, ground := Ground.data }], guard := none }) (v := ?vk6) rfl (by kernel_rfl) (by kernel_rfl) (by kernel_rfl) (fun _ _ _ h => h) (Or.inl ⟨by rfl, ?hk6⟩) (BxS.old ((Old.refl w9).drew) HBx.out) ?rk6
  case hk6 => (intro wz hSw; (try dsimp only at hSw); go_simp; try with_reducible rfl)
  (try simp only [Act.put]); (try simp only [List.setIfInBounds_toArray]); (try simp only [List.set_cons_succ]); (try simp only [List.set_cons_zero])
  refine wpAnyH_take (i := 6) (oi := { dst := some 57, op := Op.move (Operand.tmp 56), type := 4, pos := "law.go:35", after := #[{ on := 5, ground := Ground.data }, { on := 2, ground := Ground.chain }], guard := none }) (v := ?vk7) rfl (by kernel_rfl) (by kernel_rfl) (by kernel_rfl) (fun _ _ _ h => h) (Or.inl ⟨by rfl, ?hk7⟩) (BxS.old ((Old.refl w9).drew) HBx.out) ?rk7
  case hk7 => (intro wz hSw; (try dsimp only at hSw); go_simp; try with_reducible rfl)
  (try simp only [Act.put]); (try simp only [List.setIfInBounds_toArray]); (try simp only [List.set_cons_succ]); (try simp only [List.set_cons_zero])
  refine wpAnyH_take (i := 7) (oi := { dst := some 58, op := Op.move (Operand.tmp 4), type := 4, pos := "law.go:35", after := #[{ on := 6, ground := Ground.guard }], guard := some (6, true) }) (v := ?vk8) rfl (by kernel_rfl) (by kernel_rfl) (by kernel_rfl) (fun _ _ _ h => h) (Or.inl ⟨by rfl, ?hk8⟩) (BxS.old ((Old.refl w9).drew) HBx.out) ?rk8
  case hk8 => (intro wz hSw; (try dsimp only at hSw); go_simp; try with_reducible rfl)
  (try simp only [Act.put]); (try simp only [List.setIfInBounds_toArray]); (try simp only [List.set_cons_succ]); (try simp only [List.set_cons_zero])
  refine wpAnyH_take (i := 8) (oi := { dst := some 59, op := Op.pick (Operand.tmp 57) (Operand.tmp 58) (Operand.const (Value.bool false)), type := 4, pos := "law.go:35", after := #[{ on := 6, ground := Ground.data }, { on := 7, ground := Ground.data }], guard := none }) (v := ?vk9) rfl (by kernel_rfl) (by kernel_rfl) (by kernel_rfl) (fun _ _ _ h => h) (Or.inl ⟨by rfl, ?hk9⟩) (BxS.old ((Old.refl w9).drew) HBx.out) ?rk9
  case hk9 => (intro wz hSw; (try dsimp only at hSw); go_simp; try with_reducible rfl)
  (try simp only [Act.put]); (try simp only [List.setIfInBounds_toArray]); (try simp only [List.set_cons_succ]); (try simp only [List.set_cons_zero])
  refine wpAnyH_take (i := 9) (oi := { dst := some 60, op := Op.move (Operand.tmp 59), type := 4, pos := "law.go:35", after := #[{ on := 8, ground := Ground.data }, { on := 6, ground := Ground.chain }], guard := none }) (v := ?vk10) rfl (by kernel_rfl) (by kernel_rfl) (by kernel_rfl) (fun _ _ _ h => h) (Or.inl ⟨by rfl, ?hk10⟩) (BxS.old ((Old.refl w9).drew) HBx.out) ?rk10
  case hk10 => (intro wz hSw; (try dsimp only at hSw); go_simp; try with_reducible rfl)
  (try simp only [Act.put]); (try simp only [List.setIfInBounds_toArray]); (try simp only [List.set_cons_succ]); (try simp only [List.set_cons_zero])
  refine wpAnyH_take (i := 10) (oi := { dst := some 61, op := Op.move (Operand.tmp 5), type := 4, pos := "law.go:35", after := #[{ on := 9, ground := Ground.guard }], guard := some (9, true) }) (v := ?vk11) rfl (by kernel_rfl) (by kernel_rfl) (by kernel_rfl) (fun _ _ _ h => h) (Or.inl ⟨by rfl, ?hk11⟩) (BxS.old ((Old.refl w9).drew) HBx.out) ?rk11
  case hk11 => (intro wz hSw; (try dsimp only at hSw); go_simp; try with_reducible rfl)
  (try simp only [Act.put]); (try simp only [List.setIfInBounds_toArray]); (try simp only [List.set_cons_succ]); (try simp only [List.set_cons_zero])
  refine wpAnyH_take (i := 11) (oi := { dst := some 62, op := Op.unOp UnOp.not 4 (Operand.tmp 61), type := 4, pos := "law.go:35", after := #[{ on := 10, ground := Ground.data }, { on := 9, ground := Ground.guard }], guard := some (9, true) }) (v := ?vk12) rfl (by kernel_rfl) (by kernel_rfl) (by kernel_rfl) (fun _ _ _ h => h) (Or.inl ⟨by rfl, ?hk12⟩) (BxS.old ((Old.refl w9).drew) HBx.out) ?rk12
  case hk12 => (intro wz hSw; (try dsimp only at hSw); go_simp; try with_reducible rfl)
  (try simp only [Act.put]); (try simp only [List.setIfInBounds_toArray]); (try simp only [List.set_cons_succ]); (try simp only [List.set_cons_zero])
  refine wpAnyH_take (i := 12) (oi := { dst := some 63, op := Op.pick (Operand.tmp 60) (Operand.tmp 62) (Operand.const (Value.bool false)), type := 4, pos := "law.go:35", after := #[{ on := 9, ground := Ground.data }, { on := 11, ground := Ground.data }], guard := none }) (v := ?vk13) rfl (by kernel_rfl) (by kernel_rfl) (by kernel_rfl) (fun _ _ _ h => h) (Or.inl ⟨by rfl, ?hk13⟩) (BxS.old ((Old.refl w9).drew) HBx.out) ?rk13
  case hk13 => (intro wz hSw; (try dsimp only at hSw); go_simp; try with_reducible rfl)
  (try simp only [Act.put]); (try simp only [List.setIfInBounds_toArray]); (try simp only [List.set_cons_succ]); (try simp only [List.set_cons_zero])
  refine wpAnyH_take (i := 13) (oi := { dst := some 64, op := Op.move (Operand.tmp 63), type := 4, pos := "law.go:35", after := #[{ on := 12, ground := Ground.data }, { on := 9, ground := Ground.chain }], guard := none }) (v := ?vk14) rfl (by kernel_rfl) (by kernel_rfl) (by kernel_rfl) (fun _ _ _ h => h) (Or.inl ⟨by rfl, ?hk14⟩) (BxS.old ((Old.refl w9).drew) HBx.out) ?rk14
  case hk14 => (intro wz hSw; (try dsimp only at hSw); go_simp; try with_reducible rfl)
  (try simp only [Act.put]); (try simp only [List.setIfInBounds_toArray]); (try simp only [List.set_cons_succ]); (try simp only [List.set_cons_zero])
  refine wpAnyH_take (i := 14) (oi := { dst := some 65, op := Op.move (Operand.tmp 6), type := 34, pos := "law.go:35", after := #[{ on := 13, ground := Ground.guard }], guard := some (13, true) }) (v := ?vk15) rfl (by kernel_rfl) (by kernel_rfl) (by kernel_rfl) (fun _ _ _ h => h) (Or.inl ⟨by rfl, ?hk15⟩) (BxS.old ((Old.refl w9).drew) HBx.out) ?rk15
  case hk15 => (intro wz hSw; (try dsimp only at hSw); go_simp; try with_reducible rfl)
  (try simp only [Act.put]); (try simp only [List.setIfInBounds_toArray]); (try simp only [List.set_cons_succ]); (try simp only [List.set_cons_zero])
  refine wpAnyH_take (i := 15) (oi := { dst := some 66, op := Op.binOp BinOp.eql 34 (Operand.tmp 65) (Operand.const (Value.int IntKind.i64 0)) 34, type := 4, pos := "law.go:35", after := #[{ on := 14, ground := Ground.data }, { on := 13, ground := Ground.guard }], guard := some (13, true) }) (v := ?vk16) rfl (by kernel_rfl) (by kernel_rfl) (by kernel_rfl) (fun _ _ _ h => h) (Or.inl ⟨by rfl, ?hk16⟩) (BxS.old ((Old.refl w9).drew) HBx.out) ?rk16
  case hk16 => (intro wz hSw; (try dsimp only at hSw); go_simp; try with_reducible rfl)
  (try simp only [Act.put]); (try simp only [List.setIfInBounds_toArray]); (try simp only [List.set_cons_succ]); (try simp only [List.set_cons_zero])
  refine wpAnyH_take (i := 16) (oi := { dst := some 67, op := Op.pick (Operand.tmp 64) (Operand.tmp 66) (Operand.const (Value.bool false)), type := 4, pos := "law.go:35", after := #[{ on := 13, ground := Ground.data }, { on := 15, ground := Ground.data }], guard := none }) (v := ?vk17) rfl (by kernel_rfl) (by kernel_rfl) (by kernel_rfl) (fun _ _ _ h => h) (Or.inl ⟨by rfl, ?hk17⟩) (BxS.old ((Old.refl w9).drew) HBx.out) ?rk17
  case hk17 => (intro wz hSw; (try dsimp only at hSw); go_simp; try with_reducible rfl)
  (try simp only [Act.put]); (try simp only [List.setIfInBounds_toArray]); (try simp only [List.set_cons_succ]); (try simp only [List.set_cons_zero])
  refine wpAnyH_take (i := 17) (oi := { dst := some 68, op := Op.move (Operand.tmp 67), type := 4, pos := "law.go:35", after := #[{ on := 16, ground := Ground.data }, { on := 13, ground := Ground.chain }], guard := none }) (v := ?vk18) rfl (by kernel_rfl) (by kernel_rfl) (by kernel_rfl) (fun _ _ _ h => h) (Or.inl ⟨by rfl, ?hk18⟩) (BxS.old ((Old.refl w9).drew) HBx.out) ?rk18
  case hk18 => (intro wz hSw; (try dsimp only at hSw); go_simp; try with_reducible rfl)
  (try simp only [Act.put]); (try simp only [List.setIfInBounds_toArray]); (try simp only [List.set_cons_succ]); (try simp only [List.set_cons_zero])
  refine wpAnyH_take (i := 18) (oi := { dst := some 69, op := Op.move (Operand.tmp 7), type := 2, pos := "law.go:35", after := #[{ on := 17, ground := Ground.guard }], guard := some (17, true) }) (v := ?vk19) rfl (by kernel_rfl) (by kernel_rfl) (by kernel_rfl) (fun _ _ _ h => h) (Or.inl ⟨by rfl, ?hk19⟩) (BxS.old ((Old.refl w9).drew) HBx.out) ?rk19
  case hk19 => (intro wz hSw; (try dsimp only at hSw); go_simp; try with_reducible rfl)
  (try simp only [Act.put]); (try simp only [List.setIfInBounds_toArray]); (try simp only [List.set_cons_succ]); (try simp only [List.set_cons_zero])
  refine wpAnyH_take (i := 19) (oi := { dst := some 70, op := Op.binOp BinOp.eql 2 (Operand.tmp 69) (Operand.const (Value.int IntKind.i64 1)) 2, type := 4, pos := "law.go:35", after := #[{ on := 18, ground := Ground.data }, { on := 17, ground := Ground.guard }], guard := some (17, true) }) (v := ?vk20) rfl (by kernel_rfl) (by kernel_rfl) (by kernel_rfl) (fun _ _ _ h => h) (Or.inl ⟨by rfl, ?hk20⟩) (BxS.old ((Old.refl w9).drew) HBx.out) ?rk20
  case hk20 => (intro wz hSw; (try dsimp only at hSw); go_simp; try with_reducible rfl)
  (try simp only [Act.put]); (try simp only [List.setIfInBounds_toArray]); (try simp only [List.set_cons_succ]); (try simp only [List.set_cons_zero])
  refine wpAnyH_take (i := 20) (oi := { dst := some 71, op := Op.pick (Operand.tmp 68) (Operand.tmp 70) (Operand.const (Value.bool false)), type := 4, pos := "law.go:35", after := #[{ on := 17, ground := Ground.data }, { on := 19, ground := Ground.data }], guard := none }) (v := ?vk21) rfl (by kernel_rfl) (by kernel_rfl) (by kernel_rfl) (fun _ _ _ h => h) (Or.inl ⟨by rfl, ?hk21⟩) (BxS.old ((Old.refl w9).drew) HBx.out) ?rk21
  case hk21 => (intro wz hSw; (try dsimp only at hSw); go_simp; try with_reducible rfl)
  (try simp only [Act.put]); (try simp only [List.setIfInBounds_toArray]); (try simp only [List.set_cons_succ]); (try simp only [List.set_cons_zero])
  refine wpAnyH_take (i := 21) (oi := { dst := some 72, op := Op.move (Operand.tmp 71), type := 4, pos := "law.go:35", after := #[{ on := 20, ground := Ground.data }, { on := 17, ground := Ground.chain }], guard := none }) (v := ?vk22) rfl (by kernel_rfl) (by kernel_rfl) (by kernel_rfl) (fun _ _ _ h => h) (Or.inl ⟨by rfl, ?hk22⟩) (BxS.old ((Old.refl w9).drew) HBx.out) ?rk22
  case hk22 => (intro wz hSw; (try dsimp only at hSw); go_simp; try with_reducible rfl)
  (try simp only [Act.put]); (try simp only [List.setIfInBounds_toArray]); (try simp only [List.set_cons_succ]); (try simp only [List.set_cons_zero])
  refine wpAnyH_take (i := 22) (oi := { dst := some 73, op := Op.move (Operand.tmp 8), type := 2, pos := "law.go:35", after := #[{ on := 21, ground := Ground.guard }], guard := some (21, true) }) (v := ?vk23) rfl (by kernel_rfl) (by kernel_rfl) (by kernel_rfl) (fun _ _ _ h => h) (Or.inl ⟨by rfl, ?hk23⟩) (BxS.old ((Old.refl w9).drew) HBx.out) ?rk23
  case hk23 => (intro wz hSw; (try dsimp only at hSw); go_simp; try with_reducible rfl)
  (try simp only [Act.put]); (try simp only [List.setIfInBounds_toArray]); (try simp only [List.set_cons_succ]); (try simp only [List.set_cons_zero])
  refine wpAnyH_take (i := 23) (oi := { dst := some 74, op := Op.binOp BinOp.eql 2 (Operand.tmp 73) (Operand.const (Value.int IntKind.i64 1)) 2, type := 4, pos := "law.go:35", after := #[{ on := 22, ground := Ground.data }, { on := 21, ground := Ground.guard }], guard := some (21, true) }) (v := ?vk24) rfl (by kernel_rfl) (by kernel_rfl) (by kernel_rfl) (fun _ _ _ h => h) (Or.inl ⟨by rfl, ?hk24⟩) (BxS.old ((Old.refl w9).drew) HBx.out) ?rk24
  case hk24 => (intro wz hSw; (try dsimp only at hSw); go_simp; try with_reducible rfl)
  (try simp only [Act.put]); (try simp only [List.setIfInBounds_toArray]); (try simp only [List.set_cons_succ]); (try simp only [List.set_cons_zero])
  refine wpAnyH_take (i := 24) (oi := { dst := some 75, op := Op.pick (Operand.tmp 72) (Operand.tmp 74) (Operand.const (Value.bool false)), type := 4, pos := "law.go:35", after := #[{ on := 21, ground := Ground.data }, { on := 23, ground := Ground.data }], guard := none }) (v := ?vk25) rfl (by kernel_rfl) (by kernel_rfl) (by kernel_rfl) (fun _ _ _ h => h) (Or.inl ⟨by rfl, ?hk25⟩) (BxS.old ((Old.refl w9).drew) HBx.out) ?rk25
  case hk25 => (intro wz hSw; (try dsimp only at hSw); go_simp; try with_reducible rfl)
  (try simp only [Act.put]); (try simp only [List.setIfInBounds_toArray]); (try simp only [List.set_cons_succ]); (try simp only [List.set_cons_zero])
  refine wpAnyH_take (i := 25) (oi := { dst := some 76, op := Op.move (Operand.tmp 75), type := 4, pos := "law.go:35", after := #[{ on := 24, ground := Ground.data }, { on := 21, ground := Ground.chain }], guard := none }) (v := ?vk26) rfl (by kernel_rfl) (by kernel_rfl) (by kernel_rfl) (fun _ _ _ h => h) (Or.inl ⟨by rfl, ?hk26⟩) (BxS.old ((Old.refl w9).drew) HBx.out) ?rk26
  case hk26 => (intro wz hSw; (try dsimp only at hSw); go_simp; try with_reducible rfl)
  (try simp only [Act.put]); (try simp only [List.setIfInBounds_toArray]); (try simp only [List.set_cons_succ]); (try simp only [List.set_cons_zero])
  refine wpAnyH_take (i := 26) (oi := { dst := some 77, op := Op.move (Operand.tmp 9), type := 2, pos := "law.go:35", after := #[{ on := 25, ground := Ground.guard }], guard := some (25, true) }) (v := ?vk27) rfl (by kernel_rfl) (by kernel_rfl) (by kernel_rfl) (fun _ _ _ h => h) (Or.inl ⟨by rfl, ?hk27⟩) (BxS.old ((Old.refl w9).drew) HBx.out) ?rk27
  case hk27 => (intro wz hSw; (try dsimp only at hSw); go_simp; try with_reducible rfl)
  (try simp only [Act.put]); (try simp only [List.setIfInBounds_toArray]); (try simp only [List.set_cons_succ]); (try simp only [List.set_cons_zero])
  refine wpAnyH_take (i := 27) (oi := { dst := some 78, op := Op.binOp BinOp.eql 2 (Operand.tmp 77) (Operand.const (Value.int IntKind.i64 3)) 2, type := 4, pos := "law.go:35", after := #[{ on := 26, ground := Ground.data }, { on := 25, ground := Ground.guard }], guard := some (25, true) }) (v := ?vk28) rfl (by kernel_rfl) (by kernel_rfl) (by kernel_rfl) (fun _ _ _ h => h) (Or.inl ⟨by rfl, ?hk28⟩) (BxS.old ((Old.refl w9).drew) HBx.out) ?rk28
  case hk28 => (intro wz hSw; (try dsimp only at hSw); go_simp; try with_reducible rfl)
  (try simp only [Act.put]); (try simp only [List.setIfInBounds_toArray]); (try simp only [List.set_cons_succ]); (try simp only [List.set_cons_zero])
  refine wpAnyH_take (i := 28) (oi := { dst := some 79, op := Op.pick (Operand.tmp 76) (Operand.tmp 78) (Operand.const (Value.bool false)), type := 4, pos := "law.go:35", after := #[{ on := 25, ground := Ground.data }, { on := 27, ground := Ground.data }], guard := none }) (v := ?vk29) rfl (by kernel_rfl) (by kernel_rfl) (by kernel_rfl) (fun _ _ _ h => h) (Or.inl ⟨by rfl, ?hk29⟩) (BxS.old ((Old.refl w9).drew) HBx.out) ?rk29
  case hk29 => (intro wz hSw; (try dsimp only at hSw); go_simp; try with_reducible rfl)
  (try simp only [Act.put]); (try simp only [List.setIfInBounds_toArray]); (try simp only [List.set_cons_succ]); (try simp only [List.set_cons_zero])
  refine wpAnyH_take (i := 29) (oi := { dst := some 80, op := Op.move (Operand.tmp 79), type := 4, pos := "law.go:35", after := #[{ on := 28, ground := Ground.data }, { on := 25, ground := Ground.chain }], guard := none }) (v := ?vk30) rfl (by kernel_rfl) (by kernel_rfl) (by kernel_rfl) (fun _ _ _ h => h) (Or.inl ⟨by rfl, ?hk30⟩) (BxS.old ((Old.refl w9).drew) HBx.out) ?rk30
  case hk30 => (intro wz hSw; (try dsimp only at hSw); go_simp; try with_reducible rfl)
  (try simp only [Act.put]); (try simp only [List.setIfInBounds_toArray]); (try simp only [List.set_cons_succ]); (try simp only [List.set_cons_zero])
  refine wpAnyH_take (i := 30) (oi := { dst := some 81, op := Op.move (Operand.tmp 10), type := 4, pos := "law.go:35", after := #[{ on := 29, ground := Ground.guard }], guard := some (29, true) }) (v := ?vk31) rfl (by kernel_rfl) (by kernel_rfl) (by kernel_rfl) (fun _ _ _ h => h) (Or.inl ⟨by rfl, ?hk31⟩) (BxS.old ((Old.refl w9).drew) HBx.out) ?rk31
  case hk31 => (intro wz hSw; (try dsimp only at hSw); go_simp; try with_reducible rfl)
  (try simp only [Act.put]); (try simp only [List.setIfInBounds_toArray]); (try simp only [List.set_cons_succ]); (try simp only [List.set_cons_zero])
  refine wpAnyH_take (i := 31) (oi := { dst := some 82, op := Op.pick (Operand.tmp 80) (Operand.tmp 81) (Operand.const (Value.bool false)), type := 4, pos := "law.go:35", after := #[{ on := 29, ground := Ground.data }, { on := 30, ground := Ground.data }], guard := none }) (v := ?vk32) rfl (by kernel_rfl) (by kernel_rfl) (by kernel_rfl) (fun _ _ _ h => h) (Or.inl ⟨by rfl, ?hk32⟩) (BxS.old ((Old.refl w9).drew) HBx.out) ?rk32
  case hk32 => (intro wz hSw; (try dsimp only at hSw); go_simp; try with_reducible rfl)
  (try simp only [Act.put]); (try simp only [List.setIfInBounds_toArray]); (try simp only [List.set_cons_succ]); (try simp only [List.set_cons_zero])
  refine wpAnyH_take (i := 32) (oi := { dst := some 83, op := Op.move (Operand.tmp 82), type := 4, pos := "law.go:35", after := #[{ on := 31, ground := Ground.data }, { on := 29, ground := Ground.chain }], guard := none }) (v := ?vk33) rfl (by kernel_rfl) (by kernel_rfl) (by kernel_rfl) (fun _ _ _ h => h) (Or.inl ⟨by rfl, ?hk33⟩) (BxS.old ((Old.refl w9).drew) HBx.out) ?rk33
  case hk33 => (intro wz hSw; (try dsimp only at hSw); go_simp; try with_reducible rfl)
  (try simp only [Act.put]); (try simp only [List.setIfInBounds_toArray]); (try simp only [List.set_cons_succ]); (try simp only [List.set_cons_zero])
  refine wpAnyH_take (i := 33) (oi := { dst := some 84, op := Op.move (Operand.tmp 1), type := 26, pos := "law.go:35", after := #[{ on := 32, ground := Ground.guard }], guard := some (32, true) }) (v := ?vk34) rfl (by kernel_rfl) (by kernel_rfl) (by kernel_rfl) (fun _ _ _ h => h) (Or.inl ⟨by rfl, ?hk34⟩) (BxS.old ((Old.refl w9).drew) HBx.out) ?rk34
  case hk34 => (intro wz hSw; (try dsimp only at hSw); go_simp; try with_reducible rfl)
  (try simp only [Act.put]); (try simp only [List.setIfInBounds_toArray]); (try simp only [List.set_cons_succ]); (try simp only [List.set_cons_zero])
  refine wpAnyH_ready (rs := [34]) (by kernel_rfl) (by simp) ?_
  refine AllReadyH.cons (o := { dst := some 85, op := Op.call { callee := Callee.value (Operand.func 15), args := #[Operand.tmp 84, Operand.const (Value.int IntKind.i64 2), Operand.const (Value.int IntKind.i64 3)], argTypes := #[26, 2, 2] }, type := 4, pos := "law.go:35", after := #[{ on := 33, ground := Ground.data }, { on := 32, ground := Ground.chain }, { on := 32, ground := Ground.guard }], guard := some (32, true) }) rfl (fun K hK => ?_) AllReadyH.nil
  refine wantCall3 ?_ 15 (.tmp 84) (.const (.int .i64 2)) (.const (.int .i64 3)) #[26, 2, 2] ?_ (.pointer (some ⟨lb, 0, none⟩)) (.int .i64 2) (.int .i64 3) ?_ ?_ ?_ ?_ ((enters_of Try.func15 (by kernel_rfl) rfl) _ _) ?_
  · rfl
  · rfl
  · rfl
  · rfl
  · rfl
  · rfl
  refine (HHs.out _ ((Old.refl w9).drew)).mono ?_
  rintro o x35 ⟨rfl, b35⟩
  refine ⟨_, rfl, ?_⟩
  have U35 := ((Old.refl w9).drew).trans b35
  refine hK.out _ _ (BxS.old U35 HBx.out) (fun _ => ?_)
  clear hK K
  (try simp only [Act.put]); (try simp only [List.setIfInBounds_toArray]); (try simp only [List.set_cons_succ]); (try simp only [List.set_cons_zero])
  refine wpAnyH_take (i := 35) (oi := { dst := some 86, op := Op.pick (Operand.tmp 83) (Operand.tmp 85) (Operand.const (Value.bool false)), type := 4, pos := "law.go:35", after := #[{ on := 32, ground := Ground.data }, { on := 34, ground := Ground.data }], guard := none }) (v := ?vk36) rfl (by kernel_rfl) (by kernel_rfl) (by kernel_rfl) (fun _ _ _ h => h) (Or.inl ⟨by rfl, ?hk36⟩) (BxS.old U35 HBx.out) ?rk36
  case hk36 => (intro wz hSw; (try dsimp only at hSw); go_simp; try with_reducible rfl)
  (try simp only [Act.put]); (try simp only [List.setIfInBounds_toArray]); (try simp only [List.set_cons_succ]); (try simp only [List.set_cons_zero])
  refine wpAnyH_take (i := 36) (oi := { dst := some 87, op := Op.move (Operand.tmp 86), type := 4, pos := "law.go:35", after := #[{ on := 35, ground := Ground.data }, { on := 34, ground := Ground.chain }], guard := none }) (v := ?vk37) rfl (by kernel_rfl) (by kernel_rfl) (by kernel_rfl) (fun _ _ _ h => h) (Or.inl ⟨by rfl, ?hk37⟩) (BxS.old U35 HBx.out) ?rk37
  case hk37 => (intro wz hSw; (try dsimp only at hSw); go_simp; try with_reducible rfl)
  (try simp only [Act.put]); (try simp only [List.setIfInBounds_toArray]); (try simp only [List.set_cons_succ]); (try simp only [List.set_cons_zero])
  refine wpAnyH_take (i := 37) (oi := { dst := some 88, op := Op.move (Operand.tmp 1), type := 26, pos := "law.go:35", after := #[{ on := 36, ground := Ground.guard }], guard := some (36, true) }) (v := ?vk38) rfl (by kernel_rfl) (by kernel_rfl) (by kernel_rfl) (fun _ _ _ h => h) (Or.inl ⟨by rfl, ?hk38⟩) (BxS.old U35 HBx.out) ?rk38
  case hk38 => (intro wz hSw; (try dsimp only at hSw); go_simp; try with_reducible rfl)
  (try simp only [Act.put]); (try simp only [List.setIfInBounds_toArray]); (try simp only [List.set_cons_succ]); (try simp only [List.set_cons_zero])
  refine wpAnyH_ready (rs := [38]) (by kernel_rfl) (by simp) ?_
  refine AllReadyH.cons (o := { dst := some 89, op := Op.call { callee := Callee.value (Operand.func 14), args := #[Operand.tmp 88, Operand.const (Value.int IntKind.i64 0), Operand.const (Value.int IntKind.i64 9)], argTypes := #[26, 2, 3] }, type := 29, pos := "law.go:35", after := #[{ on := 37, ground := Ground.data }, { on := 36, ground := Ground.chain }, { on := 36, ground := Ground.guard }], guard := some (36, true) }) rfl (fun K hK => ?_) AllReadyH.nil
  refine wantCall3 ?_ 14 (.tmp 88) (.const (.int .i64 0)) (.const (.int .i64 9)) #[26, 2, 3] ?_ (.pointer (some ⟨lb, 0, none⟩)) (.int .i64 0) (.int .i64 9) ?_ ?_ ?_ ?_ ((enters_of Try.func14 (by kernel_rfl) rfl) _ _) ?_
  · rfl
  · rfl
  · rfl
  · rfl
  · rfl
  · rfl
  refine (HEn.out _ U35).mono ?_
  rintro o x39 ⟨pe, ce, rfl, b39⟩
  refine ⟨_, rfl, ?_⟩
  have U39 := U35.trans b39
  refine hK.out _ _ (BxS.old U39 HBx.out) (fun _ => ?_)
  clear hK K
  (try simp only [Act.put]); (try simp only [List.setIfInBounds_toArray]); (try simp only [List.set_cons_succ]); (try simp only [List.set_cons_zero])
  refine wpAnyH_take (i := 39) (oi := { dst := some 90, op := Op.call { callee := Callee.builtin Builtin.len, args := #[Operand.tmp 89], argTypes := #[29] }, type := 3, pos := "law.go:35", after := #[{ on := 38, ground := Ground.data }, { on := 36, ground := Ground.guard }], guard := some (36, true) }) (v := ?vk40) rfl (by kernel_rfl) (by kernel_rfl) (by kernel_rfl) (fun _ _ _ h => h) (Or.inl ⟨by rfl, ?hk40⟩) (BxS.old U39 HBx.out) ?rk40
  case hk40 => (intro wz hSw; (try dsimp only at hSw); go_simp; try with_reducible rfl)
  (try simp only [Act.put]); (try simp only [List.setIfInBounds_toArray]); (try simp only [List.set_cons_succ]); (try simp only [List.set_cons_zero])
  refine wpAnyH_take (i := 40) (oi := { dst := some 91, op := Op.binOp BinOp.eql 3 (Operand.tmp 90) (Operand.const (Value.int IntKind.i64 1)) 3, type := 4, pos := "law.go:35", after := #[{ on := 39, ground := Ground.data }, { on := 36, ground := Ground.guard }], guard := some (36, true) }) (v := ?vk41) rfl (by kernel_rfl) (by kernel_rfl) (by kernel_rfl) (fun _ _ _ h => h) (Or.inl ⟨by rfl, ?hk41⟩) (BxS.old U39 HBx.out) ?rk41
  case hk41 => (intro wz hSw; (try dsimp only at hSw); go_simp; try with_reducible rfl)
  (try simp only [Act.put]); (try simp only [List.setIfInBounds_toArray]); (try simp only [List.set_cons_succ]); (try simp only [List.set_cons_zero])
  refine wpAnyH_take (i := 41) (oi := { dst := some 92, op := Op.pick (Operand.tmp 87) (Operand.tmp 91) (Operand.const (Value.bool false)), type := 4, pos := "law.go:35", after := #[{ on := 36, ground := Ground.data }, { on := 40, ground := Ground.data }], guard := none }) (v := ?vk42) rfl (by kernel_rfl) (by kernel_rfl) (by kernel_rfl) (fun _ _ _ h => h) (Or.inl ⟨by rfl, ?hk42⟩) (BxS.old U39 HBx.out) ?rk42
  case hk42 => (intro wz hSw; (try dsimp only at hSw); go_simp; try with_reducible rfl)
  (try simp only [Act.put]); (try simp only [List.setIfInBounds_toArray]); (try simp only [List.set_cons_succ]); (try simp only [List.set_cons_zero])
  refine wpAnyH_take (i := 42) (oi := { dst := some 93, op := Op.move (Operand.tmp 92), type := 4, pos := "law.go:35", after := #[{ on := 41, ground := Ground.data }, { on := 38, ground := Ground.chain }], guard := none }) (v := ?vk43) rfl (by kernel_rfl) (by kernel_rfl) (by kernel_rfl) (fun _ _ _ h => h) (Or.inl ⟨by rfl, ?hk43⟩) (BxS.old U39 HBx.out) ?rk43
  case hk43 => (intro wz hSw; (try dsimp only at hSw); go_simp; try with_reducible rfl)
  (try simp only [Act.put]); (try simp only [List.setIfInBounds_toArray]); (try simp only [List.set_cons_succ]); (try simp only [List.set_cons_zero])
  refine wpAnyH_take (i := 43) (oi := { dst := some 94, op := Op.load 24 (Operand.tmp 11), type := 24, pos := "law.go:35", after := #[{ on := 42, ground := Ground.guard }], guard := some (42, true) }) (v := ?vk44) rfl (by kernel_rfl) (by kernel_rfl) (by kernel_rfl) (fun _ _ _ h => h) (Or.inl ⟨by rfl, ?hk44⟩) (BxS.old U39 HBx.out) ?rk44
  case hk44 => (intro wz hSw; (try dsimp only at hSw); go_simp; try with_reducible rfl)
  (try simp only [Act.put]); (try simp only [List.setIfInBounds_toArray]); (try simp only [List.set_cons_succ]); (try simp only [List.set_cons_zero])
  refine wpAnyH_ready (rs := [44]) (by kernel_rfl) (by simp) ?_
  refine AllReadyH.cons (o := { dst := some 95, op := Op.call { callee := Callee.value (Operand.func 16), args := #[], argTypes := #[] }, type := 24, pos := "law.go:35", after := #[{ on := 42, ground := Ground.chain }, { on := 42, ground := Ground.guard }], guard := some (42, true) }) rfl (fun K hK => ?_) AllReadyH.nil
  refine wantCall0 ?_ 16  #[] ?_  ?_ ((enters_of Try.func16 (by kernel_rfl) rfl) _ _) ?_
  · rfl
  · rfl
  · rfl
  refine (HFi.out _ U39).mono ?_
  rintro o x45 ⟨b9, rfl, r9, b45⟩
  refine ⟨_, rfl, ?_⟩
  have U45 := U39.trans b45
  refine hK.out _ _ (BxS.old U45 HBx.out) (fun _ => ?_)
  clear hK K
  (try simp only [Act.put]); (try simp only [List.setIfInBounds_toArray]); (try simp only [List.set_cons_succ]); (try simp only [List.set_cons_zero])
  refine wpAnyH_ready (rs := [45]) (by kernel_rfl) (by simp) ?_
  refine AllReadyH.cons (o := { dst := some 96, op := Op.call { callee := Callee.value (Operand.func 19), args := #[Operand.tmp 94, Operand.tmp 95], argTypes := #[24, 24] }, type := 4, pos := "law.go:35", after := #[{ on := 43, ground := Ground.data }, { on := 44, ground := Ground.data }, { on := 44, ground := Ground.chain }, { on := 42, ground := Ground.guard }], guard := some (42, true) }) rfl (fun K hK => ?_) AllReadyH.nil
  refine wantCall2 ?_ 19 (.tmp 94) (.tmp 95) #[24, 24] ?_ (.agg #[.slice q1 2 d1, .slice q2 0 d2]) (.agg #[.slice (some ⟨b9, 0, none⟩) 2 2, .slice none 0 0]) ?_ ?_ ?_ ((enters_of Try.func19 (by kernel_rfl) rfl) _ _) ?_
  · rfl
  · rfl
  · rfl
  · rfl
  · rfl
  refine (HSa.out _ b9 ⟨U45, r9⟩).mono ?_
  rintro o x46 ⟨rfl, b46⟩
  refine ⟨_, rfl, ?_⟩
  have U46 := U45.trans b46
  refine hK.out _ _ (BxS.old U46 HBx.out) (fun _ => ?_)
  clear hK K
  (try simp only [Act.put]); (try simp only [List.setIfInBounds_toArray]); (try simp only [List.set_cons_succ]); (try simp only [List.set_cons_zero])
  refine wpAnyH_take (i := 46) (oi := { dst := some 97, op := Op.pick (Operand.tmp 93) (Operand.tmp 96) (Operand.const (Value.bool false)), type := 4, pos := "law.go:35", after := #[{ on := 42, ground := Ground.data }, { on := 45, ground := Ground.data }], guard := none }) (v := ?vk47) rfl (by kernel_rfl) (by kernel_rfl) (by kernel_rfl) (fun _ _ _ h => h) (Or.inl ⟨by rfl, ?hk47⟩) (BxS.old U46 HBx.out) ?rk47
  case hk47 => (intro wz hSw; (try dsimp only at hSw); go_simp; try with_reducible rfl)
  (try simp only [Act.put]); (try simp only [List.setIfInBounds_toArray]); (try simp only [List.set_cons_succ]); (try simp only [List.set_cons_zero])
  refine wpAnyH_take (i := 47) (oi := { dst := some 98, op := Op.move (Operand.tmp 97), type := 4, pos := "law.go:35", after := #[{ on := 46, ground := Ground.data }, { on := 45, ground := Ground.chain }], guard := none }) (v := ?vk48) rfl (by kernel_rfl) (by kernel_rfl) (by kernel_rfl) (fun _ _ _ h => h) (Or.inl ⟨by rfl, ?hk48⟩) (BxS.old U46 HBx.out) ?rk48
  case hk48 => (intro wz hSw; (try dsimp only at hSw); go_simp; try with_reducible rfl)
  (try simp only [Act.put]); (try simp only [List.setIfInBounds_toArray]); (try simp only [List.set_cons_succ]); (try simp only [List.set_cons_zero])
  refine wpAnyH_take (i := 48) (oi := { dst := some 99, op := Op.move (Operand.tmp 12), type := 2, pos := "law.go:35", after := #[{ on := 47, ground := Ground.guard }], guard := some (47, true) }) (v := ?vk49) rfl (by kernel_rfl) (by kernel_rfl) (by kernel_rfl) (fun _ _ _ h => h) (Or.inl ⟨by rfl, ?hk49⟩) (BxS.old U46 HBx.out) ?rk49
  case hk49 => (intro wz hSw; (try dsimp only at hSw); go_simp; try with_reducible rfl)
  (try simp only [Act.put]); (try simp only [List.setIfInBounds_toArray]); (try simp only [List.set_cons_succ]); (try simp only [List.set_cons_zero])
  refine wpAnyH_take (i := 49) (oi := { dst := some 100, op := Op.binOp BinOp.eql 2 (Operand.tmp 99) (Operand.const (Value.int IntKind.i64 1)) 2, type := 4, pos := "law.go:35", after := #[{ on := 48, ground := Ground.data }, { on := 47, ground := Ground.guard }], guard := some (47, true) }) (v := ?vk50) rfl (by kernel_rfl) (by kernel_rfl) (by kernel_rfl) (fun _ _ _ h => h) (Or.inl ⟨by rfl, ?hk50⟩) (BxS.old U46 HBx.out) ?rk50
  case hk50 => (intro wz hSw; (try dsimp only at hSw); go_simp; try with_reducible rfl)
  (try simp only [Act.put]); (try simp only [List.setIfInBounds_toArray]); (try simp only [List.set_cons_succ]); (try simp only [List.set_cons_zero])
  refine wpAnyH_take (i := 50) (oi := { dst := some 101, op := Op.pick (Operand.tmp 98) (Operand.tmp 100) (Operand.const (Value.bool false)), type := 4, pos := "law.go:35", after := #[{ on := 47, ground := Ground.data }, { on := 49, ground := Ground.data }], guard := none }) (v := ?vk51) rfl (by kernel_rfl) (by kernel_rfl) (by kernel_rfl) (fun _ _ _ h => h) (Or.inl ⟨by rfl, ?hk51⟩) (BxS.old U46 HBx.out) ?rk51
  case hk51 => (intro wz hSw; (try dsimp only at hSw); go_simp; try with_reducible rfl)
  (try simp only [Act.put]); (try simp only [List.setIfInBounds_toArray]); (try simp only [List.set_cons_succ]); (try simp only [List.set_cons_zero])
  refine wpAnyH_ready (rs := [51]) (by kernel_rfl) (by simp) ?_
  refine AllReadyH.cons (o := { dst := some 0, op := Op.assign (Operand.tmp 101), type := 4, pos := "law.go:35", after := #[{ on := 50, ground := Ground.data }, { on := 47, ground := Ground.chain }, { on := 0, ground := Ground.phase }, { on := 1, ground := Ground.phase }, { on := 2, ground := Ground.phase }, { on := 3, ground := Ground.phase }, { on := 4, ground := Ground.phase }, { on := 5, ground := Ground.phase }, { on := 6, ground := Ground.phase }, { on := 7, ground := Ground.phase }, { on := 8, ground := Ground.phase }, { on := 9, ground := Ground.phase }, { on := 10, ground := Ground.phase }, { on := 11, ground := Ground.phase }, { on := 12, ground := Ground.phase }, { on := 13, ground := Ground.phase }, { on := 14, ground := Ground.phase }, { on := 15, ground := Ground.phase }, { on := 16, ground := Ground.phase }, { on := 17, ground := Ground.phase }, { on := 18, ground := Ground.phase }, { on := 19, ground := Ground.phase }, { on := 20, ground := Ground.phase }, { on := 21, ground := Ground.phase }, { on := 22, ground := Ground.phase }, { on := 23, ground := Ground.phase }, { on := 24, ground := Ground.phase }, { on := 25, ground := Ground.phase }, { on := 26, ground := Ground.phase }, { on := 27, ground := Ground.phase }, { on := 28, ground := Ground.phase }, { on := 29, ground := Ground.phase }, { on := 30, ground := Ground.phase }, { on := 31, ground := Ground.phase }, { on := 32, ground := Ground.phase }, { on := 33, ground := Ground.phase }, { on := 34, ground := Ground.phase }, { on := 35, ground := Ground.phase }, { on := 36, ground := Ground.phase }, { on := 37, ground := Ground.phase }, { on := 38, ground := Ground.phase }, { on := 39, ground := Ground.phase }, { on := 40, ground := Ground.phase }, { on := 41, ground := Ground.phase }, { on := 42, ground := Ground.phase }, { on := 43, ground := Ground.phase }, { on := 44, ground := Ground.phase }, { on := 45, ground := Ground.phase }, { on := 46, ground := Ground.phase }, { on := 47, ground := Ground.phase }, { on := 48, ground := Ground.phase }, { on := 49, ground := Ground.phase }, { on := 50, ground := Ground.phase }], guard := none }) rfl (fun K hK => ?_) AllReadyH.nil
  go_simp
  refine hK.out _ _ (BxS.old U46 HBx.out) (fun _ => ?_)
  clear hK K
  (try simp only [Act.put]); (try simp only [List.setIfInBounds_toArray]); (try simp only [List.set_cons_succ]); (try simp only [List.set_cons_zero])
  refine wpAnyH_done (by kernel_rfl) ?_ _
  refine NoPanic.normal ?_
  have UZ := hid U46
  go_wp2
  go_ret
  exact ⟨rfl, OW.out.trans UZ.out⟩
end Go.Proofs.Ytgpfmohaogppiaa
