/- A net's Send; conditions: the letter's bytes lie in memory. -/
import Derived.Test.YtejeihbcakojeaaN3
import Derived.Shelf.Abstract
namespace Go.Proofs.Ytejeihbcakojeaa
open Go.RowKit Go.Lib
set_option linter.unusedVariables false
set_option linter.unusedSimpArgs false
set_option maxRecDepth 20000
theorem wantCall1 {P : Program} {ops : Array Oper} {o : Oper} {a : Act} {w : World} {K : Act → World → Prop} {Q : Exit → Act → World → Prop} {E : Prop} (hw : Region.wanted o (yielded ops a.tmps) = true) (F : FuncId) (x : Operand) (ts : Array TypeId)
    (hop : o.op = Op.call { callee := Callee.value (Operand.func F), args := #[x], argTypes := ts }) (v : Value) (hx : a.eval x = v) (hF : a.eval (Operand.func F) = .func (.func F) #[] #[])
    (henter : (callFunc F #[v]).run P w = .ok (.enter F #[v]) w)
    (hc : Calls P F #[v] w fun e w' => ∃ r, e = .returned r ∧ K (a.put o.dst r) w') :
    if Region.wanted o (yielded ops a.tmps) = true then Oper.wp P o a w K Q else E := by
  rw [if_pos hw]
  unfold Oper.wp
  simp [execOp, hop, resolve, invoke, hx, hF, Deferred.ofValue]
  rw [henter]
  refine hc.mono ?_
  rintro e w' ⟨r, rfl, hk⟩
  exact hk
theorem wantCall2 {P : Program} {ops : Array Oper} {o : Oper} {a : Act} {w : World} {K : Act → World → Prop} {Q : Exit → Act → World → Prop} {E : Prop} (hw : Region.wanted o (yielded ops a.tmps) = true) (F : FuncId) (x1 x2 : Operand) (ts : Array TypeId)
    (hop : o.op = Op.call { callee := Callee.value (Operand.func F), args := #[x1, x2], argTypes := ts }) (v1 v2 : Value) (h1 : a.eval x1 = v1) (h2 : a.eval x2 = v2) (hF : a.eval (Operand.func F) = .func (.func F) #[] #[])
    (henter : (callFunc F #[v1, v2]).run P w = .ok (.enter F #[v1, v2]) w)
    (hc : Calls P F #[v1, v2] w fun e w' => ∃ r, e = .returned r ∧ K (a.put o.dst r) w') :
    if Region.wanted o (yielded ops a.tmps) = true then Oper.wp P o a w K Q else E := by
  rw [if_pos hw]
  unfold Oper.wp
  simp [execOp, hop, resolve, invoke, h1, h2, hF, Deferred.ofValue]
  rw [henter]
  refine hc.mono ?_
  rintro e w' ⟨r, rfl, hk⟩
  exact hk
/-- A row of letters is loaded, stored. -/
theorem stepLoadL {ops : Array Oper} {o : Oper} {a : Act} {w : World} {K : Act → World → Prop} {Q : Exit → Act → World → Prop} {E : Prop} (hg : o.guard = none) (x : Operand) (hop : o.op = Op.load 38 x) (b off : Nat) (v : Value)
    (hx : a.eval x = .pointer (some ⟨b, off, none⟩)) (hc : w.cell? ⟨b, off, none⟩ = some v) (hK : K (a.put o.dst v) w) :
    if Region.wanted o (yielded ops a.tmps) = true then Oper.wp Try.prog o a w K Q else E := by
  have hw : Region.wanted o (yielded ops a.tmps) = true := by simp [Region.wanted, hg]
  rw [if_pos hw]
  obtain ⟨d, p, t, ps, af, gd⟩ := o
  subst hop
  unfold Oper.wp execOp
  simp only [hx]
  go_simp
  exact hK
theorem stepStoreL {ops : Array Oper} {o : Oper} {a : Act} {w : World} {K : Act → World → Prop} {Q : Exit → Act → World → Prop} {E : Prop} (hg : o.guard = none) (x y : Operand) (hop : o.op = Op.store 38 x y) (m off : Nat) (p : Option Addr) (n c : Nat) (z : Value)
    (hx : a.eval x = .pointer (some ⟨m, off, none⟩)) (hy : a.eval y = .slice p n c) (h1 : w.cell? ⟨m, off, none⟩ = some z) (h2 : w.frozen? ⟨m, off, none⟩ = false)
    (hK : K (a.put o.dst undef) (w.setCell ⟨m, off, none⟩ (.slice p n c))) :
    if Region.wanted o (yielded ops a.tmps) = true then Oper.wp Try.prog o a w K Q else E := by
  have hw : Region.wanted o (yielded ops a.tmps) = true := by simp [Region.wanted, hg]
  rw [if_pos hw]
  obtain ⟨d, p', t, ps, af, gd⟩ := o
  subst hop
  unfold Oper.wp execOp
  simp only [hx, hy]
  go_simp
  exact hK
theorem stepBuild1T {ops : Array Oper} {o : Oper} {a : Act} {w : World} {K : Act → World → Prop} {Q : Exit → Act → World → Prop} {E : Prop} (hg : o.guard = none) (x : Operand) (hop : o.op = Op.buildSlice 38 1 #[(0, x)]) (y : Lt)
    (hx : a.eval x = .agg #[.int .i64 y.f, .int .i64 y.t, .slice y.a y.L.length y.c])
    (hK : ∀ m w', m = w.heap.size → w' = w.alloc (.cells #[.int .i64 y.f, .int .i64 y.t, .slice y.a y.L.length y.c] 30) → K (a.put o.dst (.slice (some ⟨m, 0, none⟩) 1 1)) w') :
    if Region.wanted o (yielded ops a.tmps) = true then Oper.wp Try.prog o a w K Q else E := by
  have hw : Region.wanted o (yielded ops a.tmps) = true := by simp [Region.wanted, hg]
  rw [if_pos hw]
  obtain ⟨d, p', t, ps, af, gd⟩ := o
  subst hop
  unfold Oper.wp execOp
  simp only [List.map_toArray, List.map_cons, List.map_nil, hx]
  go_simp
  exact hK _ _ rfl rfl
theorem Chg.grown {T : List Nat} {w w' : World} {row : Option Nat} (g : w.grownBy w' row) (h : ∀ k, row = some k → k ∈ T) : Chg T w w' := ⟨g.os, g.tape, g.output, g.size, fun k hk hn => g.block k hk (fun e => hn (h k e.symm))⟩
/-- append of one letter. -/
theorem wp_appT {ops : Array Oper} {rest : List Oper} {o : Oper} {a : Act} {Q : Exit → Act → World → Prop} {w : World} (hgd : o.guard = none) (s x : Operand)
    (ho : o.op = .call { callee := .builtin .append, args := #[s, x], argTypes := #[38, 38] }) (base : Nat) (v : Value) (X : List Lt) (g : Nat) (y : Lt)
    (hs : a.eval s = v) (hx : a.eval x = .slice (some ⟨g, 0, none⟩) 1 1) (hown : OwnT base w v X) (hc : w.heap[g]? = some (.cells #[.int .i64 y.f, .int .i64 y.t, .slice y.a y.L.length y.c] 30 (0, 0))) (hb : X.length + 1 ≤ 3518437208883) (hbase : base ≤ w.heap.size)
    (h : ∀ v' w', OwnT base w' v' (X ++ [y]) → Chg v.ownBlock.toList w w' → (v'.ownBlock = v.ownBlock ∨ v'.ownBlock = some w.heap.size) → wpList Try.prog ops Q rest (a.put o.dst v') w') : wpList Try.prog ops Q (o :: rest) a w := by
  obtain ⟨i0, hi, hz0, hz1, hz2⟩ := info_parts infoLt
  refine wpList_append_own_at w hgd s x 38 ho base 30 i0 _ 3 40 Try.underlying38 hi hz0 hz1 hz2 rfl (by decide) v X.length (ltcs X) hs hown ⟨g, 0, none⟩ 1 1 (ltcs [y]) hx rfl ?_ (ltcs_one _) (by unfold maxLen; omega) (by omega) hbase ?_
  · intro j u hj
    rw [Go.WideShapes.add_plain, Nat.zero_add, Go.Joins.cell_of_block hc, ← hj, ltcs_one1, ← Array.getElem?_toList]
    rfl
  · intro v' w' h1 h2 h3 h4
    exact h v' w' (by unfold OwnT; rw [ltcs_app] at h1; simpa using h1) (Chg.grown h2 (fun k e => Option.mem_toList.2 e)) h4
theorem step_appT {ops : Array Oper} {o : Oper} {a : Act} {w : World} {K : Act → World → Prop} {Q : Exit → Act → World → Prop} {E : Prop} (hgd : o.guard = none) (s x : Operand)
    (ho : o.op = .call { callee := .builtin .append, args := #[s, x], argTypes := #[38, 38] }) (base : Nat) (v : Value) (X : List Lt) (g : Nat) (y : Lt)
    (hs : a.eval s = v) (hx : a.eval x = .slice (some ⟨g, 0, none⟩) 1 1) (hown : OwnT base w v X) (hc : w.heap[g]? = some (.cells #[.int .i64 y.f, .int .i64 y.t, .slice y.a y.L.length y.c] 30 (0, 0))) (hb : X.length + 1 ≤ 3518437208883) (hbase : base ≤ w.heap.size)
    (h : ∀ v' w', OwnT base w' v' (X ++ [y]) → Chg v.ownBlock.toList w w' → (v'.ownBlock = v.ownBlock ∨ v'.ownBlock = some w.heap.size) → K (a.put o.dst v') w') :
    if Region.wanted o (yielded ops a.tmps) = true then Oper.wp Try.prog o a w K Q else E :=
  step_lift1 hgd (wp_appT hgd s x ho base v X g y hs hx hown hc hb hbase fun v' w' h1 h2 h3 => ⟨rfl, h v' w' h1 h2 h3⟩)
abbrev NS (nb : Nat) (m : Int) (v : Value) : World → Prop := fun wz => wz.cell? ⟨nb, 0, none⟩ = some (.int .i64 m) ∧ wz.cell? ⟨nb, 1, none⟩ = some v
theorem NS.old {nb : Nat} {m : Int} {v : Value} {w w' : World} (o : Old w w') (h : NS nb m v w) : NS nb m v w' := ⟨o.keep h.1, o.keep h.2⟩
abbrev B3S (b : Nat) (x y z : Value) : World → Prop := fun wz => wz.cell? ⟨b, 0, none⟩ = some x ∧ wz.cell? ⟨b, 1, none⟩ = some y ∧ wz.cell? ⟨b, 2, none⟩ = some z
theorem B3S.old {b : Nat} {x y z : Value} {w w' : World} (o : Old w w') (h : B3S b x y z w) : B3S b x y z w' := ⟨o.keep h.1, o.keep h.2.1, o.keep h.2.2⟩
theorem B3S.chg {S : List Nat} {b : Nat} {x y z : Value} {w w' : World} (o : Chg S w w') (hb : b ∉ S) (h : B3S b x y z w) : B3S b x y z w' := ⟨o.cell h.1 hb, o.cell h.2.1 hb, o.cell h.2.2 hb⟩
/-- What becomes of a net. -/
def NRes (w : World) (d : Nt) (X : List Lt) (w' : World) : Prop := ∃ d' : Nt, NtAt w' d' ∧ d'.nb = d.nb ∧ d'.most = d.most ∧ d'.X = X ∧ Chg d.bs w w' ∧ ∀ k ∈ d'.bs, k ∈ d.bs ∨ w.heap.size ≤ k
theorem NRes.same {w w' : World} {d : Nt} (h : NtAt w d) (u : Old w w') : NRes w d d.X w' := ⟨d, h.old u, rfl, rfl, rfl, Chg.ofOld u, fun k hk => .inl hk⟩
set_option maxHeartbeats 1000000 in
set_option maxRecDepth 20000 in
theorem send_no (d : Nt) (f t : Int) (v : Value) (w : World) (h : NtAt w d) (hf : d.most ≤ d.X.length) (hv : v.oneCell' = true) : Calls Try.prog 8 #[.pointer (some ⟨d.nb, 0, none⟩), .agg #[.int .i64 f, .int .i64 t, v]] w fun e w' => e = .returned (.int .i64 3) ∧ Old w w' := by
  obtain ⟨c0, c1, -, -⟩ := h.cells
  have l1 : (d.most : Int) ≤ (d.X.length : Int) := by omega
  clear h
  generalize d.X.length = n at *
  generalize d.most = m at *
  generalize d.nb = nb at *
  generalize d.a = da at *
  generalize d.c = dc at *
  go_enter Try.func8, Try.ntmps8
  go_upto_region 1 with (fail)
  have HU := hid (show Old w (w.alloc (.cells #[.int .i64 f, .int .i64 t, v] 30)) from (Old.refl w).alloc _)
  have HN := hid (show NS nb m (.slice da n dc) (w.alloc (.cells #[.int .i64 f, .int .i64 t, v] 30)) from NS.old HU.out ⟨c0, c1⟩)
  clear c0 c1
  generalize w.alloc (.cells #[.int .i64 f, .int .i64 t, v] 30) = w1 at *
  refine wp_region_noPanic ?_
  refine wp_region_held_drew (S := NS nb m (.slice da n dc)) (by kernel_rfl) ?_ (fun hHeld => ?_)
  · exact NS.old ((Old.refl w1).drew) HN.out
  (try simp only [Act.put]); (try simp only [List.setIfInBounds_toArray]); (try simp only [List.set_cons_succ]); (try simp only [List.set_cons_zero])
  clear hHeld
  refine wpAnyH_take (i := 0) (oi := { dst := some 5, op := Op.move (Operand.tmp 0), type := 23, pos := "net.go:35", after := #[], guard := none }) (v := ?vk1) rfl (by kernel_rfl) (by kernel_rfl) (by kernel_rfl) (fun _ _ _ h => h) (Or.inl ⟨by rfl, ?hk1⟩) (NS.old ((Old.refl w1).drew) HN.out) ?rk1
  case hk1 => (intro wz hSw; (try dsimp only at hSw); go_simp; try with_reducible rfl)
  (try simp only [Act.put]); (try simp only [List.setIfInBounds_toArray]); (try simp only [List.set_cons_succ]); (try simp only [List.set_cons_zero])
  refine wpAnyH_take (i := 1) (oi := { dst := some 6, op := Op.nilCheck (Operand.tmp 5), type := 0, pos := "net.go:35", after := #[{ on := 0, ground := Ground.data }], guard := none }) (v := ?vk2) rfl (by kernel_rfl) (by kernel_rfl) (by kernel_rfl) (fun _ _ _ h => h) (Or.inl ⟨by rfl, ?hk2⟩) (NS.old ((Old.refl w1).drew) HN.out) ?rk2
  case hk2 => (intro wz hSw; (try dsimp only at hSw); go_simp; try with_reducible rfl)
  (try simp only [Act.put]); (try simp only [List.setIfInBounds_toArray]); (try simp only [List.set_cons_succ]); (try simp only [List.set_cons_zero])
  refine wpAnyH_take (i := 2) (oi := { dst := some 7, op := Op.fieldAddr 57 (Operand.tmp 6) 1, type := 0, pos := "net.go:35", after := #[{ on := 1, ground := Ground.data }], guard := none }) (v := ?vk3) rfl (by kernel_rfl) (by kernel_rfl) (by kernel_rfl) (fun _ _ _ h => h) (Or.inl ⟨by rfl, ?hk3⟩) (NS.old ((Old.refl w1).drew) HN.out) ?rk3
  case hk3 => (intro wz hSw; (try dsimp only at hSw); go_simp; try with_reducible rfl)
  (try simp only [Act.put]); (try simp only [List.setIfInBounds_toArray]); (try simp only [List.set_cons_succ]); (try simp only [List.set_cons_zero])
  refine wpAnyH_take (i := 3) (oi := { dst := some 8, op := Op.load 38 (Operand.tmp 7), type := 38, pos := "net.go:35", after := #[{ on := 2, ground := Ground.data }], guard := none }) (v := ?vk4) rfl (by kernel_rfl) (by kernel_rfl) (by kernel_rfl) (fun _ _ _ h => h) (Or.inl ⟨by rfl, ?hk4⟩) (NS.old ((Old.refl w1).drew) HN.out) ?rk4
  case hk4 => (intro wz hSw; (try dsimp only at hSw); go_simp; try with_reducible rfl)
  (try simp only [Act.put]); (try simp only [List.setIfInBounds_toArray]); (try simp only [List.set_cons_succ]); (try simp only [List.set_cons_zero])
  refine wpAnyH_take (i := 4) (oi := { dst := some 9, op := Op.call { callee := Callee.builtin Builtin.len, args := #[Operand.tmp 8], argTypes := #[38] }, type := 3, pos := "net.go:35", after := #[{ on := 3, ground := Ground.data }], guard := none }) (v := ?vk5) rfl (by kernel_rfl) (by kernel_rfl) (by kernel_rfl) (fun _ _ _ h => h) (Or.inl ⟨by rfl, ?hk5⟩) (NS.old ((Old.refl w1).drew) HN.out) ?rk5
  case hk5 => (intro wz hSw; (try dsimp only at hSw); go_simp; try with_reducible rfl)
  (try simp only [Act.put]); (try simp only [List.setIfInBounds_toArray]); (try simp only [List.set_cons_succ]); (try simp only [List.set_cons_zero])
  refine wpAnyH_take (i := 5) (oi := { dst := some 10, op := Op.move (Operand.tmp 0), type := 23, pos := "net.go:35", after := #[], guard := none }) (v := ?vk6) rfl (by kernel_rfl) (by kernel_rfl) (by kernel_rfl) (fun _ _ _ h => h) (Or.inl ⟨by rfl, ?hk6⟩) (NS.old ((Old.refl w1).drew) HN.out) ?rk6
  case hk6 => (intro wz hSw; (try dsimp only at hSw); go_simp; try with_reducible rfl)
  (try simp only [Act.put]); (try simp only [List.setIfInBounds_toArray]); (try simp only [List.set_cons_succ]); (try simp only [List.set_cons_zero])
  refine wpAnyH_take (i := 6) (oi := { dst := some 11, op := Op.nilCheck (Operand.tmp 10), type := 0, pos := "net.go:35", after := #[{ on := 5, ground := Ground.data }], guard := none }) (v := ?vk7) rfl (by kernel_rfl) (by kernel_rfl) (by kernel_rfl) (fun _ _ _ h => h) (Or.inl ⟨by rfl, ?hk7⟩) (NS.old ((Old.refl w1).drew) HN.out) ?rk7
  case hk7 => (intro wz hSw; (try dsimp only at hSw); go_simp; try with_reducible rfl)
  (try simp only [Act.put]); (try simp only [List.setIfInBounds_toArray]); (try simp only [List.set_cons_succ]); (try simp only [List.set_cons_zero])
  refine wpAnyH_take (i := 7) (oi := { dst := some 12, op := Op.fieldAddr 57 (Operand.tmp 11) 0, type := 0, pos := "net.go:35", after := #[{ on := 6, ground := Ground.data }], guard := none }) (v := ?vk8) rfl (by kernel_rfl) (by kernel_rfl) (by kernel_rfl) (fun _ _ _ h => h) (Or.inl ⟨by rfl, ?hk8⟩) (NS.old ((Old.refl w1).drew) HN.out) ?rk8
  case hk8 => (intro wz hSw; (try dsimp only at hSw); go_simp; try with_reducible rfl)
  (try simp only [Act.put]); (try simp only [List.setIfInBounds_toArray]); (try simp only [List.set_cons_succ]); (try simp only [List.set_cons_zero])
  refine wpAnyH_take (i := 8) (oi := { dst := some 13, op := Op.load 3 (Operand.tmp 12), type := 3, pos := "net.go:35", after := #[{ on := 7, ground := Ground.data }], guard := none }) (v := ?vk9) rfl (by kernel_rfl) (by kernel_rfl) (by kernel_rfl) (fun _ _ _ h => h) (Or.inl ⟨by rfl, ?hk9⟩) (NS.old ((Old.refl w1).drew) HN.out) ?rk9
  case hk9 => (intro wz hSw; (try dsimp only at hSw); go_simp; try with_reducible rfl)
  (try simp only [Act.put]); (try simp only [List.setIfInBounds_toArray]); (try simp only [List.set_cons_succ]); (try simp only [List.set_cons_zero])
  refine wpAnyH_take (i := 9) (oi := { dst := some 14, op := Op.binOp BinOp.geq 3 (Operand.tmp 9) (Operand.tmp 13) 3, type := 4, pos := "net.go:35", after := #[{ on := 4, ground := Ground.data }, { on := 8, ground := Ground.data }], guard := none }) (v := ?vk10) rfl (by kernel_rfl) (by kernel_rfl) (by kernel_rfl) (fun _ _ _ h => h) (Or.inl ⟨by rfl, ?hk10⟩) (NS.old ((Old.refl w1).drew) HN.out) ?rk10
  case hk10 => (intro wz hSw; (try dsimp only at hSw); go_simp; try with_reducible rfl)
  (try simp only [Act.put]); (try simp only [List.setIfInBounds_toArray]); (try simp only [List.set_cons_succ]); (try simp only [List.set_cons_zero])
  refine wpAnyH_done (by kernel_rfl) ?_ _
  refine NoPanic.normal ?_
  go_wp2
  go_ret
  exact ⟨rfl, HU.out.drew⟩
theorem send_res {w w3 w4 : World} {d : Nt} {a4 : Option Addr} {c4 : Nat} {y : Lt} {X5 : List Lt} (h : NtAt w d) (u3 : Old w w3) (oy : Own w3 y.v y.L) (ly : y.L.length ≤ 140737488355328) (e5 : d.X ++ [y] = X5) (o4 : OwnT 0 w4 (.slice a4 X5.length c4) X5) (ch : Chg d.v.ownBlock.toList w3 w4) (at4 : (Value.slice a4 X5.length c4).ownBlock = d.v.ownBlock ∨ (Value.slice a4 X5.length c4).ownBlock = some w3.heap.size) (hf : d.X.length < d.most) : NRes w d X5 (w4.setCell ⟨d.nb, 1, none⟩ (.slice a4 X5.length c4)) := by
  have h3 := h.old u3
  have hl := h3.lt
  have c34 : Chg d.bs w3 w4 := ch.mono (fun k hk _ => Nt.mem.2 (.inr (Option.mem_toList.1 hk)))
  have c35 : Chg d.bs w3 (w4.setCell ⟨d.nb, 1, none⟩ (.slice a4 X5.length c4)) := c34.trans (Chg.set (S := d.bs) w4 ⟨d.nb, 1, none⟩ _ (Nt.mem.2 (.inl rfl)))
  have b4 : w4.heap[d.nb]? = some (.cells #[.int .i64 (d.most : Nat), d.v] 57 (0, 0)) := ch.heapAt h3.blk (fun e => h3.ne (Option.mem_toList.1 e))
  have hne : ∀ g, (Value.slice a4 X5.length c4).ownBlock = some g → g ≠ d.nb := fun g e => by
    rcases at4 with q | q
    · rw [q] at e; exact fun z => h3.ne (by rw [e, z])
    · rw [q] at e; cases e; have := hl d.nb (Nt.mem.2 (.inl rfl)); omega
  refine ⟨{ d with a := a4, c := c4, X := X5 }, h3.put a4 c4 X5 c35 (Go.Joins.block_setCell b4 (.slice a4 X5.length c4) (i := 1)) (o4.chg (Chg.set (S := [d.nb]) w4 ⟨d.nb, 1, none⟩ _ (by simp)) (fun g e => by simpa using hne g e)) (fun x hx => ?_) (by rw [← e5, List.length_append]; simp; omega), rfl, rfl, rfl, (Chg.ofOld u3).trans c35, fun k hk => ?_⟩
  · rw [← e5] at hx
    rcases List.mem_append.1 hx with q | q
    · exact .inl q
    · rw [List.mem_singleton.1 q]; exact .inr ⟨oy.chg c35 (oy.off h3), ly⟩
  · rcases Nt.mem.1 hk with e | e
    · exact .inl (Nt.mem.2 (.inl e))
    · have e2 : (Value.slice a4 X5.length c4).ownBlock = some k := e
      rcases at4 with q | q
      · exact .inl (Nt.mem.2 (.inr (by rw [← q]; exact e2)))
      · rw [q] at e2; cases e2; exact .inr u3.size
set_option maxHeartbeats 2000000 in
set_option maxRecDepth 20000 in
theorem send_ok (d : Nt) (f t : Int) (v : Value) (L : List Nat) (w : World) (h : NtAt w d) (hf : d.X.length < d.most) (hv : Rw w v L) (hb : L.length ≤ 140737488355328) : Calls Try.prog 8 #[.pointer (some ⟨d.nb, 0, none⟩), .agg #[.int .i64 f, .int .i64 t, v]] w fun e w' => e = .returned (.int .i64 0) ∧ ∃ a c, NRes w d (d.X ++ [⟨f, t, a, c, L⟩]) w' := by
  obtain ⟨pa, pc, rfl⟩ := hv.len
  have HV := hid hv
  have HB := hid hb
  have HD := hid h
  have HF := hid hf
  have HRs := hid (fun (w3 w4 : World) (a4 : Option Addr) (c4 : Nat) (y : Lt) (X5 : List Lt) (u3 : Old w w3) (oy : Own w3 y.v y.L) (ly : y.L.length ≤ 140737488355328) (e5 : d.X ++ [y] = X5) (o4 : OwnT 0 w4 (.slice a4 X5.length c4) X5) (ch : Chg d.v.ownBlock.toList w3 w4) (at4 : (Value.slice a4 X5.length c4).ownBlock = d.v.ownBlock ∨ (Value.slice a4 X5.length c4).ownBlock = some w3.heap.size) => send_res h u3 oy ly e5 o4 ch at4 hf)
  have HNe := hid h.ne
  have HLt := hid h.lt
  have HFew := hid h.few
  obtain ⟨nb, m, da, dc, X⟩ := d
  obtain ⟨c0, c1, -, -⟩ := h.cells
  have l1 : ¬ (m : Int) ≤ (X.length : Int) := by have := HF.out; dsimp only at this; omega
  clear h hf hv hb
  dsimp only at c0 c1 ⊢
  go_enter Try.func8, Try.ntmps8
  go_upto_region 1 with (fail)
  have HU := hid (show Old w (w.alloc (.cells #[.int .i64 f, .int .i64 t, .slice pa L.length pc] 30)) from (Old.refl w).alloc _)
  have HN := hid (show NS nb m (.slice da X.length dc) (w.alloc (.cells #[.int .i64 f, .int .i64 t, .slice pa L.length pc] 30)) from NS.old HU.out ⟨c0, c1⟩)
  have HBx := hid (show (w.alloc (.cells #[.int .i64 f, .int .i64 t, .slice pa L.length pc] 30)).heap[w.heap.size]? = some (.cells #[.int .i64 f, .int .i64 t, .slice pa L.length pc] 30 (0, 0)) from alloc_at w _)
  clear c0 c1
  obtain ⟨n, hn⟩ : ∃ n, n = X.length := ⟨_, rfl⟩
  have HNl := hid hn
  rw [← hn] at HN l1
  clear hn
  obtain ⟨bl, hbl⟩ : ∃ bl, bl = w.heap.size := ⟨_, rfl⟩
  have HBl := hid hbl
  rw [← hbl] at HBx ⊢
  clear hbl
  generalize w.alloc (.cells #[.int .i64 f, .int .i64 t, .slice pa L.length pc] 30) = w1 at *
  refine wp_region_noPanic ?_
  refine wp_region_held_drew (S := NS nb m (.slice da n dc)) (by kernel_rfl) ?_ (fun hHeld => ?_)
  · exact NS.old ((Old.refl w1).drew) HN.out
  (try simp only [Act.put]); (try simp only [List.setIfInBounds_toArray]); (try simp only [List.set_cons_succ]); (try simp only [List.set_cons_zero])
  clear hHeld
  refine wpAnyH_take (i := 0) (oi := { dst := some 5, op := Op.move (Operand.tmp 0), type := 23, pos := "net.go:35", after := #[], guard := none }) (v := ?vk11) rfl (by kernel_rfl) (by kernel_rfl) (by kernel_rfl) (fun _ _ _ h => h) (Or.inl ⟨by rfl, ?hk11⟩) (NS.old ((Old.refl w1).drew) HN.out) ?rk11
  case hk11 => (intro wz hSw; (try dsimp only at hSw); go_simp; try with_reducible rfl)
  (try simp only [Act.put]); (try simp only [List.setIfInBounds_toArray]); (try simp only [List.set_cons_succ]); (try simp only [List.set_cons_zero])
  refine wpAnyH_take (i := 1) (oi := { dst := some 6, op := Op.nilCheck (Operand.tmp 5), type := 0, pos := "net.go:35", after := #[{ on := 0, ground := Ground.data }], guard := none }) (v := ?vk12) rfl (by kernel_rfl) (by kernel_rfl) (by kernel_rfl) (fun _ _ _ h => h) (Or.inl ⟨by rfl, ?hk12⟩) (NS.old ((Old.refl w1).drew) HN.out) ?rk12
  case hk12 => (intro wz hSw; (try dsimp only at hSw); go_simp; try with_reducible rfl)
  (try simp only [Act.put]); (try simp only [List.setIfInBounds_toArray]); (try simp only [List.set_cons_succ]); (try simp only [List.set_cons_zero])
  refine wpAnyH_take (i := 2) (oi := { dst := some 7, op := Op.fieldAddr 57 (Operand.tmp 6) 1, type := 0, pos := "net.go:35", after := #[{ on := 1, ground := Ground.data }], guard := none }) (v := ?vk13) rfl (by kernel_rfl) (by kernel_rfl) (by kernel_rfl) (fun _ _ _ h => h) (Or.inl ⟨by rfl, ?hk13⟩) (NS.old ((Old.refl w1).drew) HN.out) ?rk13
  case hk13 => (intro wz hSw; (try dsimp only at hSw); go_simp; try with_reducible rfl)
  (try simp only [Act.put]); (try simp only [List.setIfInBounds_toArray]); (try simp only [List.set_cons_succ]); (try simp only [List.set_cons_zero])
  refine wpAnyH_take (i := 3) (oi := { dst := some 8, op := Op.load 38 (Operand.tmp 7), type := 38, pos := "net.go:35", after := #[{ on := 2, ground := Ground.data }], guard := none }) (v := ?vk14) rfl (by kernel_rfl) (by kernel_rfl) (by kernel_rfl) (fun _ _ _ h => h) (Or.inl ⟨by rfl, ?hk14⟩) (NS.old ((Old.refl w1).drew) HN.out) ?rk14
  case hk14 => (intro wz hSw; (try dsimp only at hSw); go_simp; try with_reducible rfl)
  (try simp only [Act.put]); (try simp only [List.setIfInBounds_toArray]); (try simp only [List.set_cons_succ]); (try simp only [List.set_cons_zero])
  refine wpAnyH_take (i := 4) (oi := { dst := some 9, op := Op.call { callee := Callee.builtin Builtin.len, args := #[Operand.tmp 8], argTypes := #[38] }, type := 3, pos := "net.go:35", after := #[{ on := 3, ground := Ground.data }], guard := none }) (v := ?vk15) rfl (by kernel_rfl) (by kernel_rfl) (by kernel_rfl) (fun _ _ _ h => h) (Or.inl ⟨by rfl, ?hk15⟩) (NS.old ((Old.refl w1).drew) HN.out) ?rk15
  case hk15 => (intro wz hSw; (try dsimp only at hSw); go_simp; try with_reducible rfl)
  (try simp only [Act.put]); (try simp only [List.setIfInBounds_toArray]); (try simp only [List.set_cons_succ]); (try simp only [List.set_cons_zero])
  refine wpAnyH_take (i := 5) (oi := { dst := some 10, op := Op.move (Operand.tmp 0), type := 23, pos := "net.go:35", after := #[], guard := none }) (v := ?vk16) rfl (by kernel_rfl) (by kernel_rfl) (by kernel_rfl) (fun _ _ _ h => h) (Or.inl ⟨by rfl, ?hk16⟩) (NS.old ((Old.refl w1).drew) HN.out) ?rk16
  case hk16 => (intro wz hSw; (try dsimp only at hSw); go_simp; try with_reducible rfl)
  (try simp only [Act.put]); (try simp only [List.setIfInBounds_toArray]); (try simp only [List.set_cons_succ]); (try simp only [List.set_cons_zero])
  refine wpAnyH_take (i := 6) (oi := { dst := some 11, op := Op.nilCheck (Operand.tmp 10), type := 0, pos := "net.go:35", after := #[{ on := 5, ground := Ground.data }], guard := none }) (v := ?vk17) rfl (by kernel_rfl) (by kernel_rfl) (by kernel_rfl) (fun _ _ _ h => h) (Or.inl ⟨by rfl, ?hk17⟩) (NS.old ((Old.refl w1).drew) HN.out) ?rk17
  case hk17 => (intro wz hSw; (try dsimp only at hSw); go_simp; try with_reducible rfl)
  (try simp only [Act.put]); (try simp only [List.setIfInBounds_toArray]); (try simp only [List.set_cons_succ]); (try simp only [List.set_cons_zero])
  refine wpAnyH_take (i := 7) (oi := { dst := some 12, op := Op.fieldAddr 57 (Operand.tmp 11) 0, type := 0, pos := "net.go:35", after := #[{ on := 6, ground := Ground.data }], guard := none }) (v := ?vk18) rfl (by kernel_rfl) (by kernel_rfl) (by kernel_rfl) (fun _ _ _ h => h) (Or.inl ⟨by rfl, ?hk18⟩) (NS.old ((Old.refl w1).drew) HN.out) ?rk18
  case hk18 => (intro wz hSw; (try dsimp only at hSw); go_simp; try with_reducible rfl)
  (try simp only [Act.put]); (try simp only [List.setIfInBounds_toArray]); (try simp only [List.set_cons_succ]); (try simp only [List.set_cons_zero])
  refine wpAnyH_take (i := 8) (oi := { dst := some 13, op := Op.load 3 (Operand.tmp 12), type := 3, pos := "net.go:35", after := #[{ on := 7, ground := Ground.data }], guard := none }) (v := ?vk19) rfl (by kernel_rfl) (by kernel_rfl) (by kernel_rfl) (fun _ _ _ h => h) (Or.inl ⟨by rfl, ?hk19⟩) (NS.old ((Old.refl w1).drew) HN.out) ?rk19
  case hk19 => (intro wz hSw; (try dsimp only at hSw); go_simp; try with_reducible rfl)
  (try simp only [Act.put]); (try simp only [List.setIfInBounds_toArray]); (try simp only [List.set_cons_succ]); (try simp only [List.set_cons_zero])
  refine wpAnyH_take (i := 9) (oi := { dst := some 14, op := Op.binOp BinOp.geq 3 (Operand.tmp 9) (Operand.tmp 13) 3, type := 4, pos := "net.go:35", after := #[{ on := 4, ground := Ground.data }, { on := 8, ground := Ground.data }], guard := none }) (v := ?vk20) rfl (by kernel_rfl) (by kernel_rfl) (by kernel_rfl) (fun _ _ _ h => h) (Or.inl ⟨by rfl, ?hk20⟩) (NS.old ((Old.refl w1).drew) HN.out) ?rk20
  case hk20 => (intro wz hSw; (try dsimp only at hSw); go_simp; try with_reducible rfl)
  (try simp only [Act.put]); (try simp only [List.setIfInBounds_toArray]); (try simp only [List.set_cons_succ]); (try simp only [List.set_cons_zero])
  refine wpAnyH_done (by kernel_rfl) ?_ _
  refine NoPanic.normal ?_
  go_upto_region 3 with (fail)
  have HU2 := hid (show Old w w1.drew from HU.out.drew)
  have HBx2 := hid (((Old.refl w1).drew).block HBx.out)
  have HN2 := hid (NS.old ((Old.refl w1).drew) HN.out)
  generalize w1.drew = w2 at *
  clear HN HBx HU
  have HB3 := hid (show B3S bl (.int .i64 f) (.int .i64 t) (.slice pa L.length pc) w2 from ⟨(box3 HBx2.out).1, (box3 HBx2.out).2.1, (box3 HBx2.out).2.2.1⟩)
  have HC := hid (fun (W : World) (u : Old w2 W) => clone_any f t (.slice pa L.length pc) L W (HV.out.old (HU2.out.trans u)) HB.out)
  have HRow := hid (show ∀ W, Old w2 W → OwnT 0 W (.slice da n dc) X from fun W u => by have := HNl.out; subst this; exact (HD.out.old (HU2.out.trans u)).row)
  have HBig := hid (show X.length + 1 ≤ 3518437208883 from by have := HF.out; have := HFew.out; dsimp only at *; omega)
  have HNv := hid (show nb ∉ (Value.slice da n dc).ownBlock.toList from fun e => by have := HNl.out; subst this; exact HNe.out (Option.mem_toList.1 e))
  have HBv := hid (show bl ∉ (Value.slice da n dc).ownBlock.toList from fun e => by have h1 := HNl.out; subst h1; have h2 := HLt.out bl (Nt.mem.2 (.inr (Option.mem_toList.1 e))); have h3 := HBl.out; omega)
  have HBn := hid (show bl ∉ [nb] from fun e => by have h2 := HLt.out nb (Nt.mem.2 (.inl rfl)); have h3 := HBl.out; simp at e; omega)
  have HFr := hid (show ∀ W, Old w2 W → ∀ W', Chg (Value.slice da n dc).ownBlock.toList W W' → W'.frozen? ⟨nb, 1, none⟩ = false from fun W u W' c => Go.Joins.unfrozen_of_block (c.heapAt (HD.out.old (HU2.out.trans u)).blk HNv.out) 1)
  refine wp_region_noPanic ?_
  refine wp_region_held_drew (S := B3S bl (.int .i64 f) (.int .i64 t) (.slice pa L.length pc)) (by kernel_rfl) ?_ (fun hHeld => ?_)
  · exact B3S.old ((Old.refl w2).drew) HB3.out
  (try simp only [Act.put]); (try simp only [List.setIfInBounds_toArray]); (try simp only [List.set_cons_succ]); (try simp only [List.set_cons_zero])
  clear hHeld
  refine wpAnyH_take (i := 0) (oi := { dst := some 15, op := Op.move (Operand.tmp 0), type := 23, pos := "net.go:38", after := #[], guard := none }) (v := ?vk21) rfl (by kernel_rfl) (by kernel_rfl) (by kernel_rfl) (fun _ _ _ h => h) (Or.inl ⟨by rfl, ?hk21⟩) (B3S.old ((Old.refl w2).drew) HB3.out) ?rk21
  case hk21 => (intro wz hSw; (try dsimp only at hSw); go_simp; try with_reducible rfl)
  (try simp only [Act.put]); (try simp only [List.setIfInBounds_toArray]); (try simp only [List.set_cons_succ]); (try simp only [List.set_cons_zero])
  refine wpAnyH_take (i := 1) (oi := { dst := some 16, op := Op.move (Operand.tmp 0), type := 23, pos := "net.go:38", after := #[], guard := none }) (v := ?vk22) rfl (by kernel_rfl) (by kernel_rfl) (by kernel_rfl) (fun _ _ _ h => h) (Or.inl ⟨by rfl, ?hk22⟩) (B3S.old ((Old.refl w2).drew) HB3.out) ?rk22
  case hk22 => (intro wz hSw; (try dsimp only at hSw); go_simp; try with_reducible rfl)
  (try simp only [Act.put]); (try simp only [List.setIfInBounds_toArray]); (try simp only [List.set_cons_succ]); (try simp only [List.set_cons_zero])
  refine wpAnyH_take (i := 2) (oi := { dst := some 17, op := Op.nilCheck (Operand.tmp 16), type := 0, pos := "net.go:38", after := #[{ on := 1, ground := Ground.data }], guard := none }) (v := ?vk23) rfl (by kernel_rfl) (by kernel_rfl) (by kernel_rfl) (fun _ _ _ h => h) (Or.inl ⟨by rfl, ?hk23⟩) (B3S.old ((Old.refl w2).drew) HB3.out) ?rk23
  case hk23 => (intro wz hSw; (try dsimp only at hSw); go_simp; try with_reducible rfl)
  (try simp only [Act.put]); (try simp only [List.setIfInBounds_toArray]); (try simp only [List.set_cons_succ]); (try simp only [List.set_cons_zero])
  refine wpAnyH_take (i := 3) (oi := { dst := some 18, op := Op.fieldAddr 57 (Operand.tmp 17) 1, type := 0, pos := "net.go:38", after := #[{ on := 2, ground := Ground.data }], guard := none }) (v := ?vk24) rfl (by kernel_rfl) (by kernel_rfl) (by kernel_rfl) (fun _ _ _ h => h) (Or.inl ⟨by rfl, ?hk24⟩) (B3S.old ((Old.refl w2).drew) HB3.out) ?rk24
  case hk24 => (intro wz hSw; (try dsimp only at hSw); go_simp; try with_reducible rfl)
  (try simp only [Act.put]); (try simp only [List.setIfInBounds_toArray]); (try simp only [List.set_cons_succ]); (try simp only [List.set_cons_zero])
  refine wpAnyH_take (i := 5) (oi := { dst := some 20, op := Op.load 30 (Operand.tmp 3), type := 30, pos := "net.go:38", after := #[], guard := none }) (v := ?vk25) rfl (by kernel_rfl) (by kernel_rfl) (by kernel_rfl) (fun _ _ _ h => h) (Or.inl ⟨by rfl, ?hk25⟩) (B3S.old ((Old.refl w2).drew) HB3.out) ?rk25
  case hk25 => (intro wz hSw; (try dsimp only at hSw); go_simp; try with_reducible rfl)
  (try simp only [Act.put]); (try simp only [List.setIfInBounds_toArray]); (try simp only [List.set_cons_succ]); (try simp only [List.set_cons_zero])
  refine wpAnyH_ready (rs := [4, 6]) (by kernel_rfl) (by simp) ?_
  refine AllReadyH.cons (o := { dst := some 19, op := Op.load 38 (Operand.tmp 18), type := 38, pos := "net.go:38", after := #[{ on := 3, ground := Ground.data }], guard := none }) rfl (fun K hK => ?_) (AllReadyH.cons (o := { dst := some 21, op := Op.call { callee := Callee.value (Operand.func 21), args := #[Operand.tmp 20], argTypes := #[30] }, type := 30, pos := "net.go:38", after := #[{ on := 5, ground := Ground.data }], guard := none }) rfl (fun K hK => ?_) AllReadyH.nil)
  · skip
    refine stepLoadL ?_ (.tmp 18) ?_ nb 1 (.slice da n dc) ?_ (Old.keep ((Old.refl w2).drew) HN2.out.2) ?_
    · rfl
    · rfl
    · rfl
    refine hK.out _ _ (B3S.old ((Old.refl w2).drew) HB3.out) (fun _ => ?_)
    clear hK K
    (try simp only [Act.put]); (try simp only [List.setIfInBounds_toArray]); (try simp only [List.set_cons_succ]); (try simp only [List.set_cons_zero])
    refine wpAnyH_ready (rs := [6]) (by kernel_rfl) (by simp) ?_
    refine AllReadyH.cons (o := { dst := some 21, op := Op.call { callee := Callee.value (Operand.func 21), args := #[Operand.tmp 20], argTypes := #[30] }, type := 30, pos := "net.go:38", after := #[{ on := 5, ground := Ground.data }], guard := none }) rfl (fun K hK => ?_) AllReadyH.nil
    · skip
      refine wantCall1 ?_ 21 (.tmp 20) #[30] ?_ (.agg #[.int .i64 f, .int .i64 t, .slice pa L.length pc]) ?_ ?_ ((enters_of Try.func21 (by kernel_rfl) rfl) _ _) ?_
      · rfl
      · rfl
      · rfl
      · rfl
      refine (HC.out _ ((Old.refl w2).drew)).mono ?_
      rintro o x26 ⟨a3, c3, rfl, n26, u26⟩
      refine ⟨_, rfl, ?_⟩
      have U26 := Old.trans ((Old.refl w2).drew) u26
      have O26 := n26.1
      clear n26 u26
      refine hK.out _ _ (B3S.old U26 HB3.out) (fun _ => ?_)
      clear hK K
      (try simp only [Act.put]); (try simp only [List.setIfInBounds_toArray]); (try simp only [List.set_cons_succ]); (try simp only [List.set_cons_zero])
      refine wpAnyH_ready (rs := [7]) (by kernel_rfl) (by simp) ?_
      refine AllReadyH.cons (o := { dst := some 22, op := Op.buildSlice 38 1 #[(0, Operand.tmp 21)], type := 38, pos := "net.go:38", after := #[{ on := 6, ground := Ground.data }], guard := none }) rfl (fun K hK => ?_) AllReadyH.nil
      · skip
        refine stepBuild1T ?_ (.tmp 21) ?_ ⟨f, t, a3, c3, L⟩ ?_ ?_
        · rfl
        · rfl
        · rfl
        intro g5 y27 hm27 hy27
        have G5 : y27.heap[g5]? = some (.cells #[.int .i64 f, .int .i64 t, .slice a3 L.length c3] 30 (0, 0)) := by subst hm27 hy27; exact alloc_at _ _
        have u27 : Old x26 y27 := by rw [hy27]; exact (Old.refl _).alloc _
        have U27 := Old.trans U26 u27
        have O27 := Own.old O26 u27
        clear hm27 hy27 u27
        refine hK.out _ _ (B3S.old U27 HB3.out) (fun _ => ?_)
        clear hK K
        (try simp only [Act.put]); (try simp only [List.setIfInBounds_toArray]); (try simp only [List.set_cons_succ]); (try simp only [List.set_cons_zero])
        refine wpAnyH_ready (rs := [8]) (by kernel_rfl) (by simp) ?_
        refine AllReadyH.cons (o := { dst := some 23, op := Op.call { callee := Callee.builtin Builtin.append, args := #[Operand.tmp 19, Operand.tmp 22], argTypes := #[38, 38] }, type := 38, pos := "net.go:38", after := #[{ on := 4, ground := Ground.data }, { on := 7, ground := Ground.data }, { on := 6, ground := Ground.chain }], guard := none }) rfl (fun K hK => ?_) AllReadyH.nil
        · skip
          refine step_appT ?_ (.tmp 19) (.tmp 22) ?_ 0 (.slice da n dc) X g5 ⟨f, t, a3, c3, L⟩ ?_ ?_ (HRow.out _ U27) G5 HBig.out (Nat.zero_le _) ?_
          · rfl
          · rfl
          · rfl
          · rfl
          intro v4 w4 o4 ch4 at4
          obtain ⟨X5, e5⟩ : ∃ X5, X ++ [(⟨f, t, a3, c3, L⟩ : Lt)] = X5 := ⟨_, rfl⟩
          rw [e5] at o4
          obtain ⟨a4, c4, e4⟩ := o4.len
          subst e4
          have S4 : B3S bl (.int .i64 f) (.int .i64 t) (.slice pa L.length pc) w4 := B3S.chg ch4 HBv.out (B3S.old U27 HB3.out)
          have k1 := ch4.cell (Old.keep U27 HN2.out.2) HNv.out
          have k2 := (HFr.out _ U27 _ ch4)
          have R4 := hid (HRs.out _ _ a4 c4 ⟨f, t, a3, c3, L⟩ X5 (Old.trans HU2.out U27) O27 HB.out e5 o4 (by have := HNl.out; subst this; exact ch4) (by have := HNl.out; subst this; exact at4))
          skip
          clear o4 at4 G5
          refine hK.out _ _ S4 (fun _ => ?_)
          clear hK K
          (try simp only [Act.put]); (try simp only [List.setIfInBounds_toArray]); (try simp only [List.set_cons_succ]); (try simp only [List.set_cons_zero])
          refine wpAnyH_take (i := 9) (oi := { dst := some 24, op := Op.nilCheck (Operand.tmp 15), type := 0, pos := "net.go:38", after := #[{ on := 0, ground := Ground.data }, { on := 0, ground := Ground.phase }, { on := 1, ground := Ground.phase }, { on := 2, ground := Ground.phase }, { on := 3, ground := Ground.phase }, { on := 4, ground := Ground.phase }, { on := 5, ground := Ground.phase }, { on := 6, ground := Ground.phase }, { on := 7, ground := Ground.phase }, { on := 8, ground := Ground.phase }], guard := none }) (v := ?vk29) rfl (by kernel_rfl) (by kernel_rfl) (by kernel_rfl) (fun _ _ _ h => h) (Or.inl ⟨by rfl, ?hk29⟩) S4 ?rk29
          case hk29 => (intro wz hSw; (try dsimp only at hSw); go_simp; try with_reducible rfl)
          (try simp only [Act.put]); (try simp only [List.setIfInBounds_toArray]); (try simp only [List.set_cons_succ]); (try simp only [List.set_cons_zero])
          refine wpAnyH_take (i := 10) (oi := { dst := some 25, op := Op.fieldAddr 57 (Operand.tmp 24) 1, type := 0, pos := "net.go:38", after := #[{ on := 9, ground := Ground.data }, { on := 0, ground := Ground.phase }, { on := 1, ground := Ground.phase }, { on := 2, ground := Ground.phase }, { on := 3, ground := Ground.phase }, { on := 4, ground := Ground.phase }, { on := 5, ground := Ground.phase }, { on := 6, ground := Ground.phase }, { on := 7, ground := Ground.phase }, { on := 8, ground := Ground.phase }], guard := none }) (v := ?vk30) rfl (by kernel_rfl) (by kernel_rfl) (by kernel_rfl) (fun _ _ _ h => h) (Or.inl ⟨by rfl, ?hk30⟩) S4 ?rk30
          case hk30 => (intro wz hSw; (try dsimp only at hSw); go_simp; try with_reducible rfl)
          (try simp only [Act.put]); (try simp only [List.setIfInBounds_toArray]); (try simp only [List.set_cons_succ]); (try simp only [List.set_cons_zero])
          refine wpAnyH_ready (rs := [11]) (by kernel_rfl) (by simp) ?_
          refine AllReadyH.cons (o := { dst := none, op := Op.store 38 (Operand.tmp 25) (Operand.tmp 23), type := 0, pos := "net.go:38", after := #[{ on := 10, ground := Ground.data }, { on := 8, ground := Ground.data }, { on := 8, ground := Ground.chain }, { on := 0, ground := Ground.phase }, { on := 1, ground := Ground.phase }, { on := 2, ground := Ground.phase }, { on := 3, ground := Ground.phase }, { on := 4, ground := Ground.phase }, { on := 5, ground := Ground.phase }, { on := 6, ground := Ground.phase }, { on := 7, ground := Ground.phase }, { on := 8, ground := Ground.phase }], guard := none }) rfl (fun K hK => ?_) AllReadyH.nil
          · skip
            refine stepStoreL ?_ (.tmp 25) (.tmp 23) ?_ nb 1 a4 X5.length c4 _ ?_ ?_ k1 k2 ?_
            · rfl
            · rfl
            · rfl
            · rfl
            have S5 := B3S.chg (Chg.set (S := [nb]) w4 ⟨nb, 1, none⟩ (.slice a4 X5.length c4) (by simp)) HBn.out S4
            refine hK.out _ _ S5 (fun _ => ?_)
            clear hK K
            (try simp only [Act.put]); (try simp only [List.setIfInBounds_toArray]); (try simp only [List.set_cons_succ]); (try simp only [List.set_cons_zero])
            refine wpAnyH_done (by kernel_rfl) ?_ _
            refine NoPanic.normal ?_
            go_wp2
            go_ret
            exact ⟨rfl, a3, c3, by rw [e5]; exact R4.out⟩
  · skip
    refine wantCall1 ?_ 21 (.tmp 20) #[30] ?_ (.agg #[.int .i64 f, .int .i64 t, .slice pa L.length pc]) ?_ ?_ ((enters_of Try.func21 (by kernel_rfl) rfl) _ _) ?_
    · rfl
    · rfl
    · rfl
    · rfl
    refine (HC.out _ ((Old.refl w2).drew)).mono ?_
    rintro o x31 ⟨a3, c3, rfl, n31, u31⟩
    refine ⟨_, rfl, ?_⟩
    have U31 := Old.trans ((Old.refl w2).drew) u31
    have O31 := n31.1
    clear n31 u31
    refine hK.out _ _ (B3S.old U31 HB3.out) (fun _ => ?_)
    clear hK K
    (try simp only [Act.put]); (try simp only [List.setIfInBounds_toArray]); (try simp only [List.set_cons_succ]); (try simp only [List.set_cons_zero])
    refine wpAnyH_ready (rs := [4, 7]) (by kernel_rfl) (by simp) ?_
    refine AllReadyH.cons (o := { dst := some 19, op := Op.load 38 (Operand.tmp 18), type := 38, pos := "net.go:38", after := #[{ on := 3, ground := Ground.data }], guard := none }) rfl (fun K hK => ?_) (AllReadyH.cons (o := { dst := some 22, op := Op.buildSlice 38 1 #[(0, Operand.tmp 21)], type := 38, pos := "net.go:38", after := #[{ on := 6, ground := Ground.data }], guard := none }) rfl (fun K hK => ?_) AllReadyH.nil)
    · skip
      refine stepLoadL ?_ (.tmp 18) ?_ nb 1 (.slice da n dc) ?_ (Old.keep U31 HN2.out.2) ?_
      · rfl
      · rfl
      · rfl
      refine hK.out _ _ (B3S.old U31 HB3.out) (fun _ => ?_)
      clear hK K
      (try simp only [Act.put]); (try simp only [List.setIfInBounds_toArray]); (try simp only [List.set_cons_succ]); (try simp only [List.set_cons_zero])
      refine wpAnyH_ready (rs := [7]) (by kernel_rfl) (by simp) ?_
      refine AllReadyH.cons (o := { dst := some 22, op := Op.buildSlice 38 1 #[(0, Operand.tmp 21)], type := 38, pos := "net.go:38", after := #[{ on := 6, ground := Ground.data }], guard := none }) rfl (fun K hK => ?_) AllReadyH.nil
      · skip
        refine stepBuild1T ?_ (.tmp 21) ?_ ⟨f, t, a3, c3, L⟩ ?_ ?_
        · rfl
        · rfl
        · rfl
        intro g5 y32 hm32 hy32
        have G5 : y32.heap[g5]? = some (.cells #[.int .i64 f, .int .i64 t, .slice a3 L.length c3] 30 (0, 0)) := by subst hm32 hy32; exact alloc_at _ _
        have u32 : Old x31 y32 := by rw [hy32]; exact (Old.refl _).alloc _
        have U32 := Old.trans U31 u32
        have O32 := Own.old O31 u32
        clear hm32 hy32 u32
        refine hK.out _ _ (B3S.old U32 HB3.out) (fun _ => ?_)
        clear hK K
        (try simp only [Act.put]); (try simp only [List.setIfInBounds_toArray]); (try simp only [List.set_cons_succ]); (try simp only [List.set_cons_zero])
        refine wpAnyH_ready (rs := [8]) (by kernel_rfl) (by simp) ?_
        refine AllReadyH.cons (o := { dst := some 23, op := Op.call { callee := Callee.builtin Builtin.append, args := #[Operand.tmp 19, Operand.tmp 22], argTypes := #[38, 38] }, type := 38, pos := "net.go:38", after := #[{ on := 4, ground := Ground.data }, { on := 7, ground := Ground.data }, { on := 6, ground := Ground.chain }], guard := none }) rfl (fun K hK => ?_) AllReadyH.nil
        · skip
          refine step_appT ?_ (.tmp 19) (.tmp 22) ?_ 0 (.slice da n dc) X g5 ⟨f, t, a3, c3, L⟩ ?_ ?_ (HRow.out _ U32) G5 HBig.out (Nat.zero_le _) ?_
          · rfl
          · rfl
          · rfl
          · rfl
          intro v4 w4 o4 ch4 at4
          obtain ⟨X5, e5⟩ : ∃ X5, X ++ [(⟨f, t, a3, c3, L⟩ : Lt)] = X5 := ⟨_, rfl⟩
          rw [e5] at o4
          obtain ⟨a4, c4, e4⟩ := o4.len
          subst e4
          have S4 : B3S bl (.int .i64 f) (.int .i64 t) (.slice pa L.length pc) w4 := B3S.chg ch4 HBv.out (B3S.old U32 HB3.out)
          have k1 := ch4.cell (Old.keep U32 HN2.out.2) HNv.out
          have k2 := (HFr.out _ U32 _ ch4)
          have R4 := hid (HRs.out _ _ a4 c4 ⟨f, t, a3, c3, L⟩ X5 (Old.trans HU2.out U32) O32 HB.out e5 o4 (by have := HNl.out; subst this; exact ch4) (by have := HNl.out; subst this; exact at4))
          skip
          clear o4 at4 G5
          refine hK.out _ _ S4 (fun _ => ?_)
          clear hK K
          (try simp only [Act.put]); (try simp only [List.setIfInBounds_toArray]); (try simp only [List.set_cons_succ]); (try simp only [List.set_cons_zero])
          refine wpAnyH_take (i := 9) (oi := { dst := some 24, op := Op.nilCheck (Operand.tmp 15), type := 0, pos := "net.go:38", after := #[{ on := 0, ground := Ground.data }, { on := 0, ground := Ground.phase }, { on := 1, ground := Ground.phase }, { on := 2, ground := Ground.phase }, { on := 3, ground := Ground.phase }, { on := 4, ground := Ground.phase }, { on := 5, ground := Ground.phase }, { on := 6, ground := Ground.phase }, { on := 7, ground := Ground.phase }, { on := 8, ground := Ground.phase }], guard := none }) (v := ?vk34) rfl (by kernel_rfl) (by kernel_rfl) (by kernel_rfl) (fun _ _ _ h => h) (Or.inl ⟨by rfl, ?hk34⟩) S4 ?rk34
          case hk34 => (intro wz hSw; (try dsimp only at hSw); go_simp; try with_reducible rfl)
          (try simp only [Act.put]); (try simp only [List.setIfInBounds_toArray]); (try simp only [List.set_cons_succ]); (try simp only [List.set_cons_zero])
          refine wpAnyH_take (i := 10) (oi := { dst := some 25, op := Op.fieldAddr 57 (Operand.tmp 24) 1, type := 0, pos := "net.go:38", after := #[{ on := 9, ground := Ground.data }, { on := 0, ground := Ground.phase }, { on := 1, ground := Ground.phase }, { on := 2, ground := Ground.phase }, { on := 3, ground := Ground.phase }, { on := 4, ground := Ground.phase }, { on := 5, ground := Ground.phase }, { on := 6, ground := Ground.phase }, { on := 7, ground := Ground.phase }, { on := 8, ground := Ground.phase }], guard := none }) (v := ?vk35) rfl (by kernel_rfl) (by kernel_rfl) (by kernel_rfl) (fun _ _ _ h => h) (Or.inl ⟨by rfl, ?hk35⟩) S4 ?rk35
          case hk35 => (intro wz hSw; (try dsimp only at hSw); go_simp; try with_reducible rfl)
          (try simp only [Act.put]); (try simp only [List.setIfInBounds_toArray]); (try simp only [List.set_cons_succ]); (try simp only [List.set_cons_zero])
          refine wpAnyH_ready (rs := [11]) (by kernel_rfl) (by simp) ?_
          refine AllReadyH.cons (o := { dst := none, op := Op.store 38 (Operand.tmp 25) (Operand.tmp 23), type := 0, pos := "net.go:38", after := #[{ on := 10, ground := Ground.data }, { on := 8, ground := Ground.data }, { on := 8, ground := Ground.chain }, { on := 0, ground := Ground.phase }, { on := 1, ground := Ground.phase }, { on := 2, ground := Ground.phase }, { on := 3, ground := Ground.phase }, { on := 4, ground := Ground.phase }, { on := 5, ground := Ground.phase }, { on := 6, ground := Ground.phase }, { on := 7, ground := Ground.phase }, { on := 8, ground := Ground.phase }], guard := none }) rfl (fun K hK => ?_) AllReadyH.nil
          · skip
            refine stepStoreL ?_ (.tmp 25) (.tmp 23) ?_ nb 1 a4 X5.length c4 _ ?_ ?_ k1 k2 ?_
            · rfl
            · rfl
            · rfl
            · rfl
            have S5 := B3S.chg (Chg.set (S := [nb]) w4 ⟨nb, 1, none⟩ (.slice a4 X5.length c4) (by simp)) HBn.out S4
            refine hK.out _ _ S5 (fun _ => ?_)
            clear hK K
            (try simp only [Act.put]); (try simp only [List.setIfInBounds_toArray]); (try simp only [List.set_cons_succ]); (try simp only [List.set_cons_zero])
            refine wpAnyH_done (by kernel_rfl) ?_ _
            refine NoPanic.normal ?_
            go_wp2
            go_ret
            exact ⟨rfl, a3, c3, by rw [e5]; exact R4.out⟩
    · skip
      refine stepBuild1T ?_ (.tmp 21) ?_ ⟨f, t, a3, c3, L⟩ ?_ ?_
      · rfl
      · rfl
      · rfl
      intro g5 y36 hm36 hy36
      have G5 : y36.heap[g5]? = some (.cells #[.int .i64 f, .int .i64 t, .slice a3 L.length c3] 30 (0, 0)) := by subst hm36 hy36; exact alloc_at _ _
      have u36 : Old x31 y36 := by rw [hy36]; exact (Old.refl _).alloc _
      have U36 := Old.trans U31 u36
      have O36 := Own.old O31 u36
      clear hm36 hy36 u36
      refine hK.out _ _ (B3S.old U36 HB3.out) (fun _ => ?_)
      clear hK K
      (try simp only [Act.put]); (try simp only [List.setIfInBounds_toArray]); (try simp only [List.set_cons_succ]); (try simp only [List.set_cons_zero])
      refine wpAnyH_ready (rs := [4]) (by kernel_rfl) (by simp) ?_
      refine AllReadyH.cons (o := { dst := some 19, op := Op.load 38 (Operand.tmp 18), type := 38, pos := "net.go:38", after := #[{ on := 3, ground := Ground.data }], guard := none }) rfl (fun K hK => ?_) AllReadyH.nil
      · skip
        refine stepLoadL ?_ (.tmp 18) ?_ nb 1 (.slice da n dc) ?_ (Old.keep U36 HN2.out.2) ?_
        · rfl
        · rfl
        · rfl
        refine hK.out _ _ (B3S.old U36 HB3.out) (fun _ => ?_)
        clear hK K
        (try simp only [Act.put]); (try simp only [List.setIfInBounds_toArray]); (try simp only [List.set_cons_succ]); (try simp only [List.set_cons_zero])
        refine wpAnyH_ready (rs := [8]) (by kernel_rfl) (by simp) ?_
        refine AllReadyH.cons (o := { dst := some 23, op := Op.call { callee := Callee.builtin Builtin.append, args := #[Operand.tmp 19, Operand.tmp 22], argTypes := #[38, 38] }, type := 38, pos := "net.go:38", after := #[{ on := 4, ground := Ground.data }, { on := 7, ground := Ground.data }, { on := 6, ground := Ground.chain }], guard := none }) rfl (fun K hK => ?_) AllReadyH.nil
        · skip
          refine step_appT ?_ (.tmp 19) (.tmp 22) ?_ 0 (.slice da n dc) X g5 ⟨f, t, a3, c3, L⟩ ?_ ?_ (HRow.out _ U36) G5 HBig.out (Nat.zero_le _) ?_
          · rfl
          · rfl
          · rfl
          · rfl
          intro v4 w4 o4 ch4 at4
          obtain ⟨X5, e5⟩ : ∃ X5, X ++ [(⟨f, t, a3, c3, L⟩ : Lt)] = X5 := ⟨_, rfl⟩
          rw [e5] at o4
          obtain ⟨a4, c4, e4⟩ := o4.len
          subst e4
          have S4 : B3S bl (.int .i64 f) (.int .i64 t) (.slice pa L.length pc) w4 := B3S.chg ch4 HBv.out (B3S.old U36 HB3.out)
          have k1 := ch4.cell (Old.keep U36 HN2.out.2) HNv.out
          have k2 := (HFr.out _ U36 _ ch4)
          have R4 := hid (HRs.out _ _ a4 c4 ⟨f, t, a3, c3, L⟩ X5 (Old.trans HU2.out U36) O36 HB.out e5 o4 (by have := HNl.out; subst this; exact ch4) (by have := HNl.out; subst this; exact at4))
          skip
          clear o4 at4 G5
          refine hK.out _ _ S4 (fun _ => ?_)
          clear hK K
          (try simp only [Act.put]); (try simp only [List.setIfInBounds_toArray]); (try simp only [List.set_cons_succ]); (try simp only [List.set_cons_zero])
          refine wpAnyH_take (i := 9) (oi := { dst := some 24, op := Op.nilCheck (Operand.tmp 15), type := 0, pos := "net.go:38", after := #[{ on := 0, ground := Ground.data }, { on := 0, ground := Ground.phase }, { on := 1, ground := Ground.phase }, { on := 2, ground := Ground.phase }, { on := 3, ground := Ground.phase }, { on := 4, ground := Ground.phase }, { on := 5, ground := Ground.phase }, { on := 6, ground := Ground.phase }, { on := 7, ground := Ground.phase }, { on := 8, ground := Ground.phase }], guard := none }) (v := ?vk38) rfl (by kernel_rfl) (by kernel_rfl) (by kernel_rfl) (fun _ _ _ h => h) (Or.inl ⟨by rfl, ?hk38⟩) S4 ?rk38
          case hk38 => (intro wz hSw; (try dsimp only at hSw); go_simp; try with_reducible rfl)
          (try simp only [Act.put]); (try simp only [List.setIfInBounds_toArray]); (try simp only [List.set_cons_succ]); (try simp only [List.set_cons_zero])
          refine wpAnyH_take (i := 10) (oi := { dst := some 25, op := Op.fieldAddr 57 (Operand.tmp 24) 1, type := 0, pos := "net.go:38", after := #[{ on := 9, ground := Ground.data }, { on := 0, ground := Ground.phase }, { on := 1, ground := Ground.phase }, { on := 2, ground := Ground.phase }, { on := 3, ground := Ground.phase }, { on := 4, ground := Ground.phase }, { on := 5, ground := Ground.phase }, { on := 6, ground := Ground.phase }, { on := 7, ground := Ground.phase }, { on := 8, ground := Ground.phase }], guard := none }) (v := ?vk39) rfl (by kernel_rfl) (by kernel_rfl) (by kernel_rfl) (fun _ _ _ h => h) (Or.inl ⟨by rfl, ?hk39⟩) S4 ?rk39
          case hk39 => (intro wz hSw; (try dsimp only at hSw); go_simp; try with_reducible rfl)
          (try simp only [Act.put]); (try simp only [List.setIfInBounds_toArray]); (try simp only [List.set_cons_succ]); (try simp only [List.set_cons_zero])
          refine wpAnyH_ready (rs := [11]) (by kernel_rfl) (by simp) ?_
          refine AllReadyH.cons (o := { dst := none, op := Op.store 38 (Operand.tmp 25) (Operand.tmp 23), type := 0, pos := "net.go:38", after := #[{ on := 10, ground := Ground.data }, { on := 8, ground := Ground.data }, { on := 8, ground := Ground.chain }, { on := 0, ground := Ground.phase }, { on := 1, ground := Ground.phase }, { on := 2, ground := Ground.phase }, { on := 3, ground := Ground.phase }, { on := 4, ground := Ground.phase }, { on := 5, ground := Ground.phase }, { on := 6, ground := Ground.phase }, { on := 7, ground := Ground.phase }, { on := 8, ground := Ground.phase }], guard := none }) rfl (fun K hK => ?_) AllReadyH.nil
          · skip
            refine stepStoreL ?_ (.tmp 25) (.tmp 23) ?_ nb 1 a4 X5.length c4 _ ?_ ?_ k1 k2 ?_
            · rfl
            · rfl
            · rfl
            · rfl
            have S5 := B3S.chg (Chg.set (S := [nb]) w4 ⟨nb, 1, none⟩ (.slice a4 X5.length c4) (by simp)) HBn.out S4
            refine hK.out _ _ S5 (fun _ => ?_)
            clear hK K
            (try simp only [Act.put]); (try simp only [List.setIfInBounds_toArray]); (try simp only [List.set_cons_succ]); (try simp only [List.set_cons_zero])
            refine wpAnyH_done (by kernel_rfl) ?_ _
            refine NoPanic.normal ?_
            go_wp2
            go_ret
            exact ⟨rfl, a3, c3, by rw [e5]; exact R4.out⟩
end Go.Proofs.Ytejeihbcakojeaa
