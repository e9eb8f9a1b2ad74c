/- hard's steps, Save; conditions: the disk and the boxes lie in memory, the table is laid. -/
import Derived.Test.YtfphopleniidfaaGreatDoorG7c
namespace Go.Proofs.YtfphopleniidfaaGreatDoor
open Go.RowKit Go.Lib
set_option linter.unusedVariables false
set_option linter.unusedSimpArgs false
set_option maxRecDepth 20000
theorem wantCall1 {P : Program} {ops : Array Oper} {o : Oper} {a : Act} {w : World} {K : Act → World → Prop} {Q : Exit → Act → World → Prop} {E : Prop} (hw : Region.wanted o (yielded ops a.tmps) = true) (F : FuncId) (x : Operand) (ts : Array TypeId)
    (hop : o.op = Op.call { callee := Callee.value (Operand.func F), args := #[x], argTypes := ts }) (v : Value) (hx : a.eval x = v) (hF : a.eval (Operand.func F) = .func (.func F) #[] #[])
    (henter : (callFunc F #[v]).run P w = .ok (.enter F #[v]) w)
    (hc : Calls P F #[v] w fun e w' => ∃ r, e = .returned r ∧ K (a.put o.dst r) w') :
    if Region.wanted o (yielded ops a.tmps) = true then Oper.wp P o a w K Q else E := by
  rw [if_pos hw]
  unfold Oper.wp
  simp [execOp, hop, resolve, invoke, hx, hF, Deferred.ofValue]
  rw [henter]
  refine hc.mono ?_
  rintro e w' ⟨r, rfl, hk⟩
  exact hk
theorem wantCall4 {P : Program} {ops : Array Oper} {o : Oper} {a : Act} {w : World} {K : Act → World → Prop} {Q : Exit → Act → World → Prop} {E : Prop} (hw : Region.wanted o (yielded ops a.tmps) = true) (F : FuncId) (x1 x2 x3 x4 : Operand) (ts : Array TypeId)
    (hop : o.op = Op.call { callee := Callee.value (Operand.func F), args := #[x1, x2, x3, x4], argTypes := ts }) (v1 v2 v3 v4 : Value) (h1 : a.eval x1 = v1) (h2 : a.eval x2 = v2) (h3 : a.eval x3 = v3) (h4 : a.eval x4 = v4) (hF : a.eval (Operand.func F) = .func (.func F) #[] #[])
    (henter : (callFunc F #[v1, v2, v3, v4]).run P w = .ok (.enter F #[v1, v2, v3, v4]) w)
    (hc : Calls P F #[v1, v2, v3, v4] w fun e w' => ∃ r, e = .returned r ∧ K (a.put o.dst r) w') :
    if Region.wanted o (yielded ops a.tmps) = true then Oper.wp P o a w K Q else E := by
  rw [if_pos hw]
  unfold Oper.wp
  simp [execOp, hop, resolve, invoke, h1, h2, h3, h4, hF, Deferred.ofValue]
  rw [henter]
  refine hc.mono ?_
  rintro e w' ⟨r, rfl, hk⟩
  exact hk
theorem S4.old {a b c d i j k l : Nat} {x y z u : Value} {w w' : World} (o : Old w w') (h : (w.cell? ⟨a, i, none⟩ = some x ∧ w.cell? ⟨b, j, none⟩ = some y) ∧ w.cell? ⟨c, k, none⟩ = some z ∧ w.cell? ⟨d, l, none⟩ = some u) : (w'.cell? ⟨a, i, none⟩ = some x ∧ w'.cell? ⟨b, j, none⟩ = some y) ∧ w'.cell? ⟨c, k, none⟩ = some z ∧ w'.cell? ⟨d, l, none⟩ = some u := ⟨⟨o.keep h.1.1, o.keep h.1.2⟩, o.keep h.2.1, o.keep h.2.2⟩
theorem Kp.cell {A : List Nat} {W W' : World} (k : Kp A W W') {g i : Nat} {v : Value} (hg : g ∈ A) (h : W.cell? ⟨g, i, none⟩ = some v) : W'.cell? ⟨g, i, none⟩ = some v := by
  have hl := World.block_lt_of_cell? W ⟨g, i, none⟩ h
  rw [World.cell?_of_block (w := W) (k.2 g hg hl)]
  exact h
theorem Kp.less {A B : List Nat} {W W' : World} (h : Kp A W W') (hB : ∀ g ∈ B, g ∈ A) : Kp B W W' := ⟨h.1, fun g hg => h.2 g (hB g hg)⟩
set_option maxHeartbeats 1000000 in
set_option maxRecDepth 20000 in
theorem st1_any (w0 W : World) (db hb b0 : Nat) (p : PD) (A : List Nat) (h : Dsk w0 W db p A) (h0 : W.cell? ⟨b0, 0, none⟩ = some (.pointer (some ⟨hb, 0, none⟩))) (h1 : W.cell? ⟨hb, 0, none⟩ = some (.pointer (some ⟨db, 0, none⟩))) : Calls Tryz.prog 55 #[.pointer (some ⟨b0, 0, none⟩)] W fun e w' => e = .returned (.int .i64 (createC p sT)) ∧ Dsk w0 w' db (createP p sT) A ∧ Kp A W w' := by
  have HC := hid (createD w0 W db p A sT h)
  clear h
  go_enter Tryz.func55, Tryz.ntmps55
  go_wp2_with (go_at_call 56; refine HC.out.mono ?_; rintro e w1 ⟨rfl, d1, k1⟩; have D1 := hid d1; have K1 := hid k1; clear d1 k1)
  go_ret
  exact ⟨rfl, D1.out, K1.out⟩
set_option maxHeartbeats 1000000 in
set_option maxRecDepth 20000 in
theorem st3_any (w0 W : World) (db hb b0 : Nat) (p : PD) (A : List Nat) (h : Dsk w0 W db p A) (h0 : W.cell? ⟨b0, 0, none⟩ = some (.pointer (some ⟨hb, 0, none⟩))) (h1 : W.cell? ⟨hb, 0, none⟩ = some (.pointer (some ⟨db, 0, none⟩))) : Calls Tryz.prog 60 #[.pointer (some ⟨b0, 0, none⟩)] W fun e w' => e = .returned (.int .i64 (syncC p sT)) ∧ Dsk w0 w' db (syncP p sT) A ∧ Kp A W w' := by
  have HC := hid (syncD w0 W db p A sT h)
  clear h
  go_enter Tryz.func60, Tryz.ntmps60
  go_wp2_with (go_at_call 61; refine HC.out.mono ?_; rintro e w1 ⟨rfl, d1, k1⟩; have D1 := hid d1; have K1 := hid k1; clear d1 k1)
  go_ret
  exact ⟨rfl, D1.out, K1.out⟩
set_option maxHeartbeats 1000000 in
set_option maxRecDepth 20000 in
theorem st4_any (w0 W : World) (db hb b0 : Nat) (p : PD) (A : List Nat) (h : Dsk w0 W db p A) (h0 : W.cell? ⟨b0, 0, none⟩ = some (.pointer (some ⟨hb, 0, none⟩))) (h1 : W.cell? ⟨hb, 0, none⟩ = some (.pointer (some ⟨db, 0, none⟩))) : Calls Tryz.prog 62 #[.pointer (some ⟨b0, 0, none⟩)] W fun e w' => e = .returned (.int .i64 (renameC p sT sH)) ∧ Dsk w0 w' db (renameP p sT sH) A ∧ Kp A W w' := by
  have HC := hid (renameD w0 W db p A sT sH h)
  clear h
  go_enter Tryz.func62, Tryz.ntmps62
  go_wp2_with (go_at_call 63; refine HC.out.mono ?_; rintro e w1 ⟨rfl, d1, k1⟩; have D1 := hid d1; have K1 := hid k1; clear d1 k1)
  go_ret
  exact ⟨rfl, D1.out, K1.out⟩
set_option maxHeartbeats 4000000 in
set_option maxRecDepth 20000 in
theorem st2_any (w0 W : World) (db hb b0 b1 : Nat) (t v : Int) (p : PD) (A : List Nat) (h : Dsk w0 W db p A) (ht : Pk.Tab w0) (h0 : W.cell? ⟨b0, 0, none⟩ = some (.pointer (some ⟨hb, 0, none⟩))) (h1 : W.cell? ⟨hb, 0, none⟩ = some (.pointer (some ⟨db, 0, none⟩))) (h2 : W.cell? ⟨b1, 0, none⟩ = some (.int .i64 t) ∧ W.cell? ⟨b1, 1, none⟩ = some (.int .i64 v)) (hA : b0 ∈ A ∧ hb ∈ A ∧ b1 ∈ A) (r1 : -9223372036854775808 ≤ t ∧ t ≤ 9223372036854775807) (r2 : -9223372036854775808 ≤ v ∧ v ≤ 9223372036854775807) : Calls Tryz.prog 57 #[.pointer (some ⟨b0, 0, none⟩), .pointer (some ⟨b1, 0, none⟩)] W fun e w' => e = .returned (.int .i64 (writeC p sT 0 (frB (payL t v)))) ∧ Dsk w0 w' db (writeP p sT 0 (frB (payL t v))) A ∧ Kp A W w' := by
  have HFr := hid (fun (W' : World) (u : Old W W') => frame_any t v W' (ht.up (h.base.trans u)) r1 r2)
  have HS := hid (show (W.cell? ⟨b0, 0, none⟩ = some (.pointer (some ⟨hb, 0, none⟩)) ∧ W.cell? ⟨hb, 0, none⟩ = some (.pointer (some ⟨db, 0, none⟩))) ∧ W.cell? ⟨b1, 0, none⟩ = some (.int .i64 t) ∧ W.cell? ⟨b1, 1, none⟩ = some (.int .i64 v) from ⟨⟨h0, h1⟩, h2.1, h2.2⟩)
  obtain ⟨B, hB⟩ : ∃ B, frB (payL t v) = B := ⟨_, rfl⟩
  rw [hB] at HFr ⊢
  clear hB
  obtain ⟨fl, hfl⟩ : ∃ fl, B.length = fl := ⟨_, rfl⟩
  rw [hfl] at HFr
  have HWr0 := hid (fun (X : World) (a1 : Option Addr) (c1 : Nat) (u : Old W X) (o : Own X (.slice a1 fl c1) B) (f : ∀ g, (Value.slice a1 fl c1).ownBlock = some g → (World.drew W).heap.size ≤ g) => show Calls Tryz.prog 58 #[.pointer (some ⟨db, 0, none⟩), .string ⟨#[104, 97, 114, 100, 46, 116, 109, 112]⟩, .int .i64 0, .slice a1 fl c1] X fun e w' => e = .returned (.int .i64 (writeC p sT 0 B)) ∧ Dsk w0 w' db (writeP p sT 0 B) A ∧ Kp A W w' from
    (writeD w0 X db p (A ++ (Value.slice a1 fl c1).ownBlock.toList) sT 0 (.slice a1 fl c1) B (h.add u _ (fun g hg => ⟨f g (Option.mem_toList.1 hg), o.lt g (Option.mem_toList.1 hg)⟩)) o.row (fun _ g e => .inr (List.mem_append_right _ (Option.mem_toList.2 e))) (by omega)).mono fun e w' q => ⟨q.1, q.2.1.less (fun g hg => List.mem_append_left _ hg), (Kp.old u).trans (q.2.2.less (fun g hg => List.mem_append_left _ hg))⟩)
  have HSk := hid (fun (X Y : World) (u : Old W X) (k : Kp A W Y) => show (Y.cell? ⟨b0, 0, none⟩ = some (.pointer (some ⟨hb, 0, none⟩)) ∧ Y.cell? ⟨hb, 0, none⟩ = some (.pointer (some ⟨db, 0, none⟩))) ∧ Y.cell? ⟨b1, 0, none⟩ = some (.int .i64 t) ∧ Y.cell? ⟨b1, 1, none⟩ = some (.int .i64 v) from ⟨⟨k.cell hA.1 h0, k.cell hA.2.1 h1⟩, k.cell hA.2.2 h2.1, k.cell hA.2.2 h2.2⟩)
  clear h ht h0 h1 h2 hA r1 r2 hfl
  go_enter Tryz.func57, Tryz.ntmps57
  go_upto_region 1 with (fail)
  refine wp_region_noPanic ?_
  refine wp_region_held_drew (S := fun wz => (wz.cell? ⟨b0, 0, none⟩ = some (.pointer (some ⟨hb, 0, none⟩)) ∧ wz.cell? ⟨hb, 0, none⟩ = some (.pointer (some ⟨db, 0, none⟩))) ∧ wz.cell? ⟨b1, 0, none⟩ = some (.int .i64 t) ∧ wz.cell? ⟨b1, 1, none⟩ = some (.int .i64 v)) (by kernel_rfl) ?_ (fun hHeld => ?_)
  · exact (S4.old ((Old.refl W).drew) HS.out)
  (try simp only [Act.put]); (try simp only [List.setIfInBounds_toArray]); (try simp only [List.set_cons_succ]); (try simp only [List.set_cons_zero])
  clear hHeld
  refine wpAnyH_take (i := 0) (oi := { dst := some 3, op := Op.load 26 (Operand.tmp 0), type := 26, pos := "hard.go:60", after := #[], guard := none }) (v := ?vk1) rfl (by kernel_rfl) (by kernel_rfl) (by kernel_rfl) (fun _ _ _ h => h) (Or.inl ⟨by rfl, ?hk1⟩) (S4.old ((Old.refl W).drew) HS.out) ?rk1
  case hk1 => (intro wz hSw; (try dsimp only at hSw); go_simp; try with_reducible rfl)
  (try simp only [Act.put]); (try simp only [List.setIfInBounds_toArray]); (try simp only [List.set_cons_succ]); (try simp only [List.set_cons_zero])
  refine wpAnyH_take (i := 1) (oi := { dst := some 4, op := Op.nilCheck (Operand.tmp 3), type := 0, pos := "hard.go:60", after := #[{ on := 0, ground := Ground.data }], guard := none }) (v := ?vk2) rfl (by kernel_rfl) (by kernel_rfl) (by kernel_rfl) (fun _ _ _ h => h) (Or.inl ⟨by rfl, ?hk2⟩) (S4.old ((Old.refl W).drew) HS.out) ?rk2
  case hk2 => (intro wz hSw; (try dsimp only at hSw); go_simp; try with_reducible rfl)
  (try simp only [Act.put]); (try simp only [List.setIfInBounds_toArray]); (try simp only [List.set_cons_succ]); (try simp only [List.set_cons_zero])
  refine wpAnyH_take (i := 2) (oi := { dst := some 5, op := Op.fieldAddr 65 (Operand.tmp 4) 0, type := 0, pos := "hard.go:60", after := #[{ on := 1, ground := Ground.data }], guard := none }) (v := ?vk3) rfl (by kernel_rfl) (by kernel_rfl) (by kernel_rfl) (fun _ _ _ h => h) (Or.inl ⟨by rfl, ?hk3⟩) (S4.old ((Old.refl W).drew) HS.out) ?rk3
  case hk3 => (intro wz hSw; (try dsimp only at hSw); go_simp; try with_reducible rfl)
  (try simp only [Act.put]); (try simp only [List.setIfInBounds_toArray]); (try simp only [List.set_cons_succ]); (try simp only [List.set_cons_zero])
  refine wpAnyH_take (i := 3) (oi := { dst := some 6, op := Op.load 23 (Operand.tmp 5), type := 23, pos := "hard.go:60", after := #[{ on := 2, ground := Ground.data }], guard := none }) (v := ?vk4) rfl (by kernel_rfl) (by kernel_rfl) (by kernel_rfl) (fun _ _ _ h => h) (Or.inl ⟨by rfl, ?hk4⟩) (S4.old ((Old.refl W).drew) HS.out) ?rk4
  case hk4 => (intro wz hSw; (try dsimp only at hSw); go_simp; try with_reducible rfl)
  (try simp only [Act.put]); (try simp only [List.setIfInBounds_toArray]); (try simp only [List.set_cons_succ]); (try simp only [List.set_cons_zero])
  refine wpAnyH_take (i := 4) (oi := { dst := some 7, op := Op.load 62 (Operand.tmp 1), type := 62, pos := "hard.go:60", after := #[], guard := none }) (v := ?vk5) rfl (by kernel_rfl) (by kernel_rfl) (by kernel_rfl) (fun _ _ _ h => h) (Or.inl ⟨by rfl, ?hk5⟩) (S4.old ((Old.refl W).drew) HS.out) ?rk5
  case hk5 => (intro wz hSw; (try dsimp only at hSw); go_simp; try with_reducible rfl)
  (try simp only [Act.put]); (try simp only [List.setIfInBounds_toArray]); (try simp only [List.set_cons_succ]); (try simp only [List.set_cons_zero])
  refine wpAnyH_ready (rs := [5]) (by kernel_rfl) (by simp) ?_
  refine AllReadyH.cons (o := { dst := some 8, op := Op.call { callee := Callee.value (Operand.func 59), args := #[Operand.tmp 7], argTypes := #[62] }, type := 49, pos := "hard.go:60", after := #[{ on := 4, ground := Ground.data }], guard := none }) rfl (fun K hK => ?_) AllReadyH.nil
  refine wantCall1 ?_ 59 (.tmp 7) #[62] ?_ (.agg #[.int .i64 t, .int .i64 v]) ?_ ?_ ((enters_of Tryz.func59 (by kernel_rfl) rfl) _ _) ?_
  · rfl
  · rfl
  · rfl
  · rfl
  refine (HFr.out _ ((Old.refl W).drew)).mono ?_
  rintro o x6 ⟨a1, c1, rfl, o1, u1, f1⟩
  have O1 := hid o1
  have U1 := hid (((Old.refl W).drew).trans u1)
  have F1 := hid f1
  have SA := S4.old U1.out HS.out
  clear o1 u1 f1
  have HWr := hid (HWr0.out x6 a1 c1 U1.out O1.out F1.out)
  refine ⟨_, rfl, ?_⟩
  refine hK.out _ _ SA (fun _ => ?_)
  clear hK K
  (try simp only [Act.put]); (try simp only [List.setIfInBounds_toArray]); (try simp only [List.set_cons_succ]); (try simp only [List.set_cons_zero])
  refine wpAnyH_ready (rs := [6]) (by kernel_rfl) (by simp) ?_
  refine AllReadyH.cons (o := { dst := some 9, op := Op.call { callee := Callee.value (Operand.func 58), args := #[Operand.tmp 6, Operand.const (Value.string { data := #[104, 97, 114, 100, 46, 116, 109, 112] }), Operand.const (Value.int IntKind.i64 0), Operand.tmp 8], argTypes := #[23, 9, 3, 49] }, type := 27, pos := "hard.go:60", after := #[{ on := 3, ground := Ground.data }, { on := 5, ground := Ground.data }, { on := 5, ground := Ground.chain }], guard := none }) rfl (fun K hK => ?_) AllReadyH.nil
  refine wantCall4 ?_ 58 (.tmp 6) (.const (.string ⟨#[104, 97, 114, 100, 46, 116, 109, 112]⟩)) (.const (.int .i64 0)) (.tmp 8) #[23, 9, 3, 49] ?_ (.pointer (some ⟨db, 0, none⟩)) (.string ⟨#[104, 97, 114, 100, 46, 116, 109, 112]⟩) (.int .i64 0) (.slice a1 fl c1) ?_ ?_ ?_ ?_ ?_ ((enters_of Tryz.func58 (by kernel_rfl) rfl) _ _) ?_
  · rfl
  · rfl
  · rfl
  · rfl
  · rfl
  · rfl
  · rfl
  refine HWr.out.mono ?_
  rintro o wx ⟨rfl, d2, q2⟩
  have D2 := hid d2
  have Q2 := hid q2
  have SB := HSk.out _ wx U1.out q2
  clear d2 q2
  refine ⟨_, rfl, ?_⟩
  refine hK.out _ _ SB (fun _ => ?_)
  clear hK K
  (try simp only [Act.put]); (try simp only [List.setIfInBounds_toArray]); (try simp only [List.set_cons_succ]); (try simp only [List.set_cons_zero])
  refine wpAnyH_ready (rs := [7]) (by kernel_rfl) (by simp) ?_
  refine AllReadyH.cons (o := { dst := some 2, op := Op.assign (Operand.tmp 9), type := 27, pos := "hard.go:60", after := #[{ on := 6, ground := Ground.data }, { on := 6, ground := Ground.chain }, { on := 0, ground := Ground.phase }, { on := 1, ground := Ground.phase }, { on := 2, ground := Ground.phase }, { on := 3, ground := Ground.phase }, { on := 4, ground := Ground.phase }, { on := 5, ground := Ground.phase }, { on := 6, ground := Ground.phase }], guard := none }) rfl (fun K hK => ?_) AllReadyH.nil
  go_simp
  refine hK.out _ _ SB (fun _ => ?_)
  clear hK K
  (try simp only [Act.put]); (try simp only [List.setIfInBounds_toArray]); (try simp only [List.set_cons_succ]); (try simp only [List.set_cons_zero])
  refine wpAnyH_done (by kernel_rfl) ?_ _
  refine NoPanic.normal ?_
  generalize wx = wy at *
  go_wp2
  go_ret
  exact ⟨rfl, D2.out, Q2.out⟩
end Go.Proofs.YtfphopleniidfaaGreatDoor
