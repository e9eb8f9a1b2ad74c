/- rlog's Append where entries without data follow; conditions: the log lies in memory as New makes it. -/
import Derived.Test.YtgpfmohaogppiaaL1
import Derived.Test.YtgpfmohaogppiaaK0
import Derived.Shelf.Abstract
namespace Go.Proofs.Ytgpfmohaogppiaa
open Go.RowKit Go.Lib
set_option linter.unusedVariables false
set_option linter.unusedSimpArgs false
set_option maxRecDepth 20000
def en (i t : Int) : Ent := ⟨i, t, 0, none, 0, 0⟩
def entA (L : List Ent) (i : Nat) : Ent := L.getD i default
def ec (o : Ent) : List Value := [.int .i64 o.i, .int .i64 o.t, .int .i64 o.k, .slice o.p o.n o.c]
def ecs : List Ent → List Value | [] => [] | o :: t => ec o ++ ecs t
theorem ecs_len : ∀ L, (ecs L).length = L.length * 4
  | [] => rfl
  | o :: t => by show (ec o ++ ecs t).length = _; rw [List.length_append, ecs_len t]; simp [ec]; omega
theorem ecs_app : ∀ L M, ecs L ++ ecs M = ecs (L ++ M)
  | [], M => rfl
  | o :: t, M => by show (ec o ++ ecs t) ++ ecs M = ec o ++ ecs (t ++ M); rw [List.append_assoc, ecs_app t M]
theorem ecs_one : ∀ (L : List Ent), ∀ u ∈ ecs L, u.oneCell' = true
  | [], u, h => by cases h
  | o :: t, u, h => by
    rcases List.mem_append.1 (show u ∈ ec o ++ ecs t from h) with q | q
    · simp [ec] at q; rcases q with rfl | rfl | rfl | rfl <;> rfl
    · exact ecs_one t u q
theorem ecs_at : ∀ (L : List Ent) (i : Nat), i < L.length → (ecs L)[i * 4]? = some (.int .i64 (entA L i).i) ∧ (ecs L)[i * 4 + 1]? = some (.int .i64 (entA L i).t) ∧ (ecs L)[i * 4 + 2]? = some (.int .i64 (entA L i).k) ∧ (ecs L)[i * 4 + 3]? = some (.slice (entA L i).p (entA L i).n (entA L i).c)
  | [], i, hi => by simp at hi
  | o :: t, 0, hi => ⟨rfl, rfl, rfl, rfl⟩
  | o :: t, i + 1, hi => by
    have q := ecs_at t i (by simpa using hi)
    have e1 : ecs (o :: t) = .int .i64 o.i :: .int .i64 o.t :: .int .i64 o.k :: .slice o.p o.n o.c :: ecs t := rfl
    have e2 : entA (o :: t) (i + 1) = entA t i := by simp [entA]
    rw [e1, e2, show (i + 1) * 4 = i * 4 + 1 + 1 + 1 + 1 by omega]
    simpa using q
theorem infoEnt : (Try.prog.info? 41).map (fun i => (i.zero, i.size, i.bytes)) = some (some (.agg #[.int .i64 0, .int .i64 0, .int .i64 0, .slice none 0 0]), 4, 48) := by kernel_rfl
/-- Entries, a row of the call's own. -/
def OwnE (base : Nat) (w : World) (v : Value) (L : List Ent) : Prop := w.ownsRow base 41 4 v L.length (ecs L)
theorem OwnE.up {base : Nat} {w w' : World} {v : Value} {L : List Ent} (h : OwnE base w v L) (u : Old w w') : OwnE base w' v L := by
  refine ⟨h.1, ?_⟩
  rcases h.2 with e | ⟨g, cap, cur, e, hb', hg, r⟩
  · exact .inl e
  · exact .inr ⟨g, cap, cur, e, hb', u.block hg, r⟩
theorem OwnE.chg {base : Nat} {S : List Nat} {w w' : World} {v : Value} {L : List Ent} (h : OwnE base w v L) (u : Chg S w w') (hn : ∀ g, v.ownBlock = some g → g ∉ S) : OwnE base w' v L := by
  refine ⟨h.1, ?_⟩
  rcases h.2 with e | ⟨g, cap, cur, rfl, hb', hg, r⟩
  · exact .inl e
  · exact .inr ⟨g, cap, cur, rfl, hb', u.heapAt hg (hn g rfl), r⟩
theorem OwnE.len {base : Nat} {w : World} {v : Value} {L : List Ent} (h : OwnE base w v L) : ∃ a c, v = .slice a L.length c ∧ L.length ≤ c ∧ c ≤ 9223372036854775807 := by
  rcases h.2 with ⟨rfl, e⟩ | ⟨g, cap, cur, rfl, hb, hg, hnc, hcm, _⟩
  · exact ⟨none, 0, by rw [e], by omega, by omega⟩
  · exact ⟨_, _, rfl, hnc, by unfold maxLen at hcm; omega⟩
theorem OwnE.cells {base : Nat} {w : World} {p : Option Addr} {c : Nat} {L : List Ent} (h : OwnE base w (.slice p L.length c) L) : ∀ i, i < L.length → ∃ g off, p = some ⟨g, off, none⟩ ∧ EntIn w g (off + i * 4) (entA L i) := by
  intro i hi
  have h2 := h
  unfold OwnE at h2
  rcases h2.2 with ⟨e1, e⟩ | ⟨g, cap, cur, e, hb, hg, hnc, hcm, hcs, htk⟩
  · omega
  · cases e
    refine ⟨g, 0, rfl, ?_⟩
    obtain ⟨a, b, c, d⟩ := ecs_at L i hi
    have q := h2.cells (g := g) rfl
    have q0 := q _ _ a
    have q1 := q _ _ b
    have q2 := q _ _ c
    have q3 := q _ _ d
    rw [Go.WideShapes.add_plain] at q0 q1 q2 q3
    exact ⟨q0, by rw [Nat.add_assoc]; exact q1, by rw [Nat.add_assoc]; exact q2, by rw [Nat.add_assoc]; exact q3⟩
theorem wp_appE {ops : Array Oper} {rest : List Oper} {o : Oper} {a : Act} {Q : Exit → Act → World → Prop} {w : World} (hgd : o.guard = none) (s x : Operand)
    (ho : o.op = .call { callee := .builtin .append, args := #[s, x], argTypes := #[29, 29] }) (base : Nat) (v : Value) (L : List Ent) (y : Ent) (g c1 : Nat)
    (hs : a.eval s = v) (hx : a.eval x = .slice (some ⟨g, 0, none⟩) 1 c1) (hown : OwnE base w v L) (hc : EntIn w g 0 y) (hb : L.length + 1 ≤ 1000000) (hbase : base ≤ w.heap.size)
    (h : ∀ v' w', OwnE base w' v' (L ++ [y]) → w.grownBy w' v.ownBlock → (v'.ownBlock = v.ownBlock ∨ v'.ownBlock = some w.heap.size) → wpList Try.prog ops Q rest (a.put o.dst v') w') : wpList Try.prog ops Q (o :: rest) a w := by
  obtain ⟨i0, hi, hz0, hz1, hz2⟩ := info_parts infoEnt
  refine wpList_append_own_at w hgd s x 29 ho base 41 i0 _ 4 48 Try.underlying29 hi hz0 hz1 hz2 rfl (by decide) v L.length (ecs L) hs hown ⟨g, 0, none⟩ 1 c1 (ecs [y]) hx rfl ?_ (ecs_one _) (by unfold maxLen; omega) (by omega) hbase ?_
  · intro j u hj
    rw [Go.WideShapes.add_plain]
    obtain ⟨x0, x1, x2, x3⟩ := hc
    match j with
    | 0 => simp [ecs, ec] at hj; subst hj; exact x0
    | 1 => simp [ecs, ec] at hj; subst hj; exact x1
    | 2 => simp [ecs, ec] at hj; subst hj; exact x2
    | 3 => simp [ecs, ec] at hj; subst hj; exact x3
    | j + 4 => simp [ecs, ec] at hj
  · intro v' w' h1 h2 h3 h4
    exact h v' w' (by unfold OwnE; rw [ecs_app] at h1; simpa using h1) h2 h4
theorem step_appE {ops : Array Oper} {o : Oper} {a : Act} {w : World} {K : Act → World → Prop} {Q : Exit → Act → World → Prop} {E : Prop} (hgd : o.guard = none) (s x : Operand)
    (ho : o.op = .call { callee := .builtin .append, args := #[s, x], argTypes := #[29, 29] }) (base : Nat) (v : Value) (L : List Ent) (g : Nat) (y : Ent)
    (hs : a.eval s = v) (hx : a.eval x = .slice (some ⟨g, 0, none⟩) 1 1) (hown : OwnE base w v L) (hc : EntIn w g 0 y) (hb : L.length + 1 ≤ 1000000) (hbase : base ≤ w.heap.size)
    (h : ∀ v' w', OwnE base w' v' (L ++ [y]) → w.grownBy w' v.ownBlock → (v'.ownBlock = v.ownBlock ∨ v'.ownBlock = some w.heap.size) → K (a.put o.dst v') w') :
    if Region.wanted o (yielded ops a.tmps) = true then Oper.wp Try.prog o a w K Q else E := by
  refine step_lift1 hgd ?_
  refine wp_appE hgd s x ho base v L y g 1 hs hx hown hc hb hbase ?_
  intro v' w' h1 h2 h4
  unfold wpList
  exact ⟨rfl, h v' w' h1 h2 h4⟩
theorem stepBuild1E {ops : Array Oper} {o : Oper} {a : Act} {w : World} {K : Act → World → Prop} {Q : Exit → Act → World → Prop} {E : Prop} (hg : o.guard = none) (x : Operand) (hop : o.op = Op.buildSlice 29 1 #[(0, x)]) (p : Ent)
    (hx : a.eval x = .agg #[.int .i64 p.i, .int .i64 p.t, .int .i64 p.k, .slice p.p p.n p.c])
    (hK : ∀ m w', m = w.heap.size → w' = w.alloc (.cells #[.int .i64 p.i, .int .i64 p.t, .int .i64 p.k, .slice p.p p.n p.c] 41) → K (a.put o.dst (.slice (some ⟨m, 0, none⟩) 1 1)) w') :
    if Region.wanted o (yielded ops a.tmps) = true then Oper.wp Try.prog o a w K Q else E := by
  have hw : Region.wanted o (yielded ops a.tmps) = true := by simp [Region.wanted, hg]
  rw [if_pos hw]
  obtain ⟨d, p', t, ps, af, gd⟩ := o
  subst hop
  unfold Oper.wp execOp
  simp only [List.map_toArray, List.map_cons, List.map_nil, hx]
  go_simp
  exact hK _ _ rfl rfl
theorem cell_oneE (w : World) (y : Ent) (g : Nat) (hg : w.heap.size = g) : EntIn (w.alloc (.cells #[.int .i64 y.i, .int .i64 y.t, .int .i64 y.k, .slice y.p y.n y.c] 41)) g 0 y := by subst hg; exact ⟨by simp, by simp, by simp, by simp⟩
theorem stepLoadE {ops : Array Oper} {o : Oper} {a : Act} {w : World} {K : Act → World → Prop} {Q : Exit → Act → World → Prop} {E : Prop} (hg : o.guard = none) (x : Operand) (hop : o.op = Op.load 29 x) (b j : Nat) (p : Option Addr) (n c : Nat)
    (hx : a.eval x = .pointer (some ⟨b, j, none⟩)) (hc : w.cell? ⟨b, j, none⟩ = some (.slice p n c))
    (hK : K (a.put o.dst (.slice p n c)) w) :
    if Region.wanted o (yielded ops a.tmps) = true then Oper.wp Try.prog o a w K Q else E := by
  have hw : Region.wanted o (yielded ops a.tmps) = true := by simp [Region.wanted, hg]
  rw [if_pos hw]
  obtain ⟨d, p', t, ps, af, gd⟩ := o
  subst hop
  unfold Oper.wp execOp
  simp only [hx]
  go_simp
  exact hK
theorem stepStoreE {ops : Array Oper} {o : Oper} {a : Act} {w : World} {K : Act → World → Prop} {Q : Exit → Act → World → Prop} {E : Prop} (hg : o.guard = none) (x y : Operand) (hop : o.op = Op.store 29 x y) (b j : Nat) (p : Option Addr) (n c : Nat) (u : Value)
    (hx : a.eval x = .pointer (some ⟨b, j, none⟩)) (hy : a.eval y = .slice p n c) (hc : w.cell? ⟨b, j, none⟩ = some u) (hf : w.frozen? ⟨b, j, none⟩ = false)
    (hK : K (a.put o.dst undef) (w.setCell ⟨b, j, none⟩ (.slice p n c))) :
    if Region.wanted o (yielded ops a.tmps) = true then Oper.wp Try.prog o a w K Q else E := by
  have hw : Region.wanted o (yielded ops a.tmps) = true := by simp [Region.wanted, hg]
  rw [if_pos hw]
  obtain ⟨d, p', t, ps, af, gd⟩ := o
  subst hop
  unfold Oper.wp execOp
  simp only [hx, hy]
  go_simp
  exact hK
/-- A call of one argument as a step. -/
theorem stepCallF1 {P : Program} {ops : Array Oper} {o : Oper} {a : Act} {w : World} {K : Act → World → Prop} {Q : Exit → Act → World → Prop} {E : Prop} (hg : o.guard = none) (F : FuncId) (x : Operand) (ts : Array TypeId)
    (hop : o.op = Op.call { callee := Callee.value (Operand.func F), args := #[x], argTypes := ts }) (v : Value) (hx : a.eval x = v) (hF : a.eval (Operand.func F) = .func (.func F) #[] #[])
    (henter : (callFunc F #[v]).run P w = .ok (.enter F #[v]) w)
    (hc : Calls P F #[v] w fun e w' => ∃ r, e = .returned r ∧ K (a.put o.dst r) w') :
    if Region.wanted o (yielded ops a.tmps) = true then Oper.wp P o a w K Q else E := by
  have hw : Region.wanted o (yielded ops a.tmps) = true := by simp [Region.wanted, hg]
  rw [if_pos hw]
  unfold Oper.wp
  simp [execOp, hop, resolve, invoke, hx, hF, Deferred.ofValue]
  rw [henter]
  refine hc.mono ?_
  rintro e w' ⟨r, rfl, hk⟩
  exact hk
/-- A log as New makes it and Append grows it: its box, its entries of its own, one configuration. -/
structure LogO (w0 : World) (lb gc : Nat) (ve : Value) (ix tm at0 : Int) (cv1 cv2 : Value) (L : List Ent) (W : World) : Prop where
  u : Old w0 W
  b : w0.heap.size ≤ gc
  g : gc < lb
  c0 : W.cell? ⟨lb, 0, none⟩ = some (.int .i64 ix)
  c1 : W.cell? ⟨lb, 1, none⟩ = some (.int .i64 tm)
  c2 : W.cell? ⟨lb, 2, none⟩ = some ve
  c3 : W.cell? ⟨lb, 3, none⟩ = some (.slice (some ⟨gc, 0, none⟩) 1 1)
  f : ∀ j, W.frozen? ⟨lb, j, none⟩ = false
  k0 : W.cell? ⟨gc, 0, none⟩ = some (.int .i64 at0)
  k1 : W.cell? ⟨gc, 1, none⟩ = some cv1
  k2 : W.cell? ⟨gc, 2, none⟩ = some cv2
  kf : ∀ j, W.frozen? ⟨gc, j, none⟩ = false
  o : OwnE (lb + 1) W ve L
theorem LogO.lt {w0 W : World} {lb gc : Nat} {ve : Value} {ix tm at0 : Int} {cv1 cv2 : Value} {L : List Ent} (h : LogO w0 lb gc ve ix tm at0 cv1 cv2 L W) : lb < W.heap.size := World.block_lt_of_cell? W _ h.c0
theorem LogO.old {w0 W W' : World} {lb gc : Nat} {ve : Value} {ix tm at0 : Int} {cv1 cv2 : Value} {L : List Ent} (h : LogO w0 lb gc ve ix tm at0 cv1 cv2 L W) (u : Old W W') : LogO w0 lb gc ve ix tm at0 cv1 cv2 L W' :=
  have fz : ∀ (b j : Nat), b < W.heap.size → W'.frozen? ⟨b, j, none⟩ = W.frozen? ⟨b, j, none⟩ := fun b j hb => Below.frozen (p := ⟨b, j, none⟩) u hb
  ⟨h.u.trans u, h.b, h.g, u.keep h.c0, u.keep h.c1, u.keep h.c2, u.keep h.c3, fun j => (fz lb j h.lt).trans (h.f j), u.keep h.k0, u.keep h.k1, u.keep h.k2, fun j => (fz gc j (Nat.lt_trans h.g h.lt)).trans (h.kf j), h.o.up u⟩
/-- The row has grown, the box still holds what it held. -/
structure LogG (w0 : World) (lb gc : Nat) (ve ve' : Value) (ix tm at0 : Int) (cv1 cv2 : Value) (L' : List Ent) (W : World) : Prop where
  u : Old w0 W
  b : w0.heap.size ≤ gc
  g : gc < lb
  c0 : W.cell? ⟨lb, 0, none⟩ = some (.int .i64 ix)
  c1 : W.cell? ⟨lb, 1, none⟩ = some (.int .i64 tm)
  c2 : W.cell? ⟨lb, 2, none⟩ = some ve
  c3 : W.cell? ⟨lb, 3, none⟩ = some (.slice (some ⟨gc, 0, none⟩) 1 1)
  f : ∀ j, W.frozen? ⟨lb, j, none⟩ = false
  k0 : W.cell? ⟨gc, 0, none⟩ = some (.int .i64 at0)
  k1 : W.cell? ⟨gc, 1, none⟩ = some cv1
  k2 : W.cell? ⟨gc, 2, none⟩ = some cv2
  kf : ∀ j, W.frozen? ⟨gc, j, none⟩ = false
  o : OwnE (lb + 1) W ve' L'
theorem LogG.mk' {w0 W W' : World} {lb gc : Nat} {ve ve' : Value} {ix tm at0 : Int} {cv1 cv2 : Value} {L L' : List Ent} (h : LogO w0 lb gc ve ix tm at0 cv1 cv2 L W) (o : OwnE (lb + 1) W' ve' L') (g : W.grownBy W' ve.ownBlock) : LogG w0 lb gc ve ve' ix tm at0 cv1 cv2 L' W' := by
  have hlt := World.ownsRow.lt h.o
  have hz := h.lt
  have hg := h.g
  have hb := h.b
  have far : ∀ k, k ≤ lb → W'.heap[k]? = W.heap[k]? := fun k hk => g.block k (by omega) (fun e => by have := (hlt k e.symm).1; omega)
  have cl : ∀ (k j : Nat) (v : Value), k ≤ lb → W.cell? ⟨k, j, none⟩ = some v → W'.cell? ⟨k, j, none⟩ = some v := fun k j v hk e => (World.cell?_of_block (a := ⟨k, j, none⟩) (far k hk)).trans e
  have fr : ∀ (k j : Nat), k ≤ lb → W'.frozen? ⟨k, j, none⟩ = W.frozen? ⟨k, j, none⟩ := fun k j hk => World.frozen?_of_block (a := ⟨k, j, none⟩) (far k hk)
  exact ⟨Below.grown h.u g h.u.size (fun k e => by have := (hlt k e).1; omega), h.b, h.g, cl lb 0 _ (Nat.le_refl _) h.c0, cl lb 1 _ (Nat.le_refl _) h.c1, cl lb 2 _ (Nat.le_refl _) h.c2, cl lb 3 _ (Nat.le_refl _) h.c3, fun j => (fr lb j (Nat.le_refl _)).trans (h.f j), cl gc 0 _ (Nat.le_of_lt hg) h.k0, cl gc 1 _ (Nat.le_of_lt hg) h.k1, cl gc 2 _ (Nat.le_of_lt hg) h.k2, fun j => (fr gc j (Nat.le_of_lt hg)).trans (h.kf j), o⟩
theorem LogG.set {w0 W : World} {lb gc : Nat} {ve ve' : Value} {ix tm at0 : Int} {cv1 cv2 : Value} {L' : List Ent} (h : LogG w0 lb gc ve ve' ix tm at0 cv1 cv2 L' W) : LogO w0 lb gc ve' ix tm at0 cv1 cv2 L' (W.setCell ⟨lb, 2, none⟩ ve') := by
  have c : Chg [lb] W (W.setCell ⟨lb, 2, none⟩ ve') := Chg.set _ _ _ (by simp)
  have hg := h.g
  have hb := h.b
  have n1 : gc ∉ [lb] := by simp; omega
  have oth : ∀ (j : Nat) (v : Value), j ≠ 2 → W.cell? ⟨lb, j, none⟩ = some v → (W.setCell ⟨lb, 2, none⟩ ve').cell? ⟨lb, j, none⟩ = some v := fun j v hj e => by rw [World.cell?_setCell_other _ _ _ _ (by first | (simp; done) | (simp; omega))]; exact e
  exact ⟨h.u.setCell (by show w0.heap.size ≤ lb; omega) _, h.b, h.g, oth 0 _ (by omega) h.c0, oth 1 _ (by omega) h.c1, World.cell?_setCell_same _ _ _ h.c2, oth 3 _ (by omega) h.c3, fun j => by rw [World.frozen?_setCell]; exact h.f j, c.cell h.k0 n1, c.cell h.k1 n1, c.cell h.k2 n1, fun j => by rw [World.frozen?_setCell]; exact h.kf j, h.o.chg c (fun g e => by have := (World.ownsRow.lt h.o g e).1; simp; omega)⟩
theorem LogO.r {w0 W : World} {lb gc : Nat} {ve : Value} {ix tm at0 : Int} {cv1 cv2 : Value} {L : List Ent} (h : LogO w0 lb gc ve ix tm at0 cv1 cv2 L W) (hl : L.length ≤ 1000000) : LogR W lb ix tm L.length (entA L) := by
  obtain ⟨p, c, e, h1, h2⟩ := h.o.len
  have o := h.o
  have c2 := h.c2
  subst e
  exact ⟨h.c0, h.c1, by omega, p, c, c2, h1, h2, o.cells⟩
def blks (b : Nat) (v : Value) : List Nat := b :: v.ownBlock.toList
theorem mem_blks {b : Nat} {v : Value} {k : Nat} : k ∈ blks b v ↔ k = b ∨ v.ownBlock = some k := by simp [blks, Option.mem_toList]
theorem Chg.grown {T : List Nat} {w w' : World} {row : Option Nat} (g : w.grownBy w' row) (h : ∀ k, row = some k → k ∈ T) : Chg T w w' := ⟨g.os, g.tape, g.output, g.size, fun k hk hn => g.block k hk (fun e => hn (h k e.symm))⟩
theorem own_new {T : List Nat} {w W : World} {v v' : Value} (c : Chg T w W) (h : v'.ownBlock = v.ownBlock ∨ v'.ownBlock = some W.heap.size) : ∀ k, v'.ownBlock = some k → v.ownBlock = some k ∨ w.heap.size ≤ k := fun k e => by
  rcases h with q | q
  · exact .inl (by rw [← q]; exact e)
  · right; rw [q] at e; cases e; exact c.size
set_option maxHeartbeats 1000000 in
set_option maxRecDepth 20000 in
theorem outside_any (n least : Int) (w : World) : Calls Try.prog 53 #[.int .i64 n, .int .i64 least] w fun e w' => e = .returned (.bool (decide (n < least) || decide (1099511627776 < n))) ∧ w' = w := by
  go_enter Try.func53, Try.ntmps53
  by_cases h1 : n < least
  · have d1 : decide (n < least) = true := decide_eq_true h1
    go_wp2
    go_ret
    exact ⟨by first | rfl | simp [d1], rfl⟩
  · have d1 : decide (n < least) = false := decide_eq_false h1
    go_wp2
    go_ret
    exact ⟨by first | rfl | simp [d1], rfl⟩
set_option maxHeartbeats 2000000 in
set_option maxRecDepth 20000 in
theorem right_ok (i t : Int) (hi : 1 ≤ i ∧ i ≤ 1099511627776) (ht : 0 ≤ t ∧ t ≤ 1099511627776) (w : World) :
    Calls Try.prog 46 #[.agg #[.int .i64 i, .int .i64 t, .int .i64 0, .slice none 0 0]] w fun e w' => e = .returned (.bool true) ∧ Old w w' := by
  have H1 := hid (fun W => outside_any i 1 W)
  have H2 := hid (fun W => outside_any t 0 W)
  have e1 : (decide (i < 1) || decide (1099511627776 < i)) = false := by simp; omega
  have e2 : (decide (t < 0) || decide (1099511627776 < t)) = false := by simp; omega
  rw [e1] at H1
  rw [e2] at H2
  go_enter Try.func46, Try.ntmps46
  go_wp2_with (first | (go_at_call_of 53 (Value.int .i64 i); refine (H1.out _).mono ?_; rintro e w1 ⟨rfl, rfl⟩) | (go_at_call_of 53 (Value.int .i64 t); refine (H2.out _).mono ?_; rintro e w1 ⟨rfl, rfl⟩))
  go_ret
  exact ⟨rfl, (Old.refl w).alloc _⟩
theorem EntIn.grown {w w' : World} {g o : Nat} {e : Ent} {row : Option Nat} (h : EntIn w g o e) (u : w.grownBy w' row) (hn : ∀ k, row = some k → k ≠ g) : EntIn w' g o e := by
  have lt := World.block_lt_of_cell? w _ h.1
  have q := u.block g lt (fun e => hn g e.symm rfl)
  exact ⟨(World.cell?_of_block (a := ⟨g, o, none⟩) q).trans h.1, (World.cell?_of_block (a := ⟨g, o + 1, none⟩) q).trans h.2.1, (World.cell?_of_block (a := ⟨g, o + 2, none⟩) q).trans h.2.2.1, (World.cell?_of_block (a := ⟨g, o + 3, none⟩) q).trans h.2.2.2⟩
theorem EntIn.set {w : World} {g o lb j : Nat} {e : Ent} (h : EntIn w g o e) (hn : g ≠ lb) (v : Value) : EntIn (w.setCell ⟨lb, j, none⟩ v) g o e := by
  have c : Chg [lb] w (w.setCell ⟨lb, j, none⟩ v) := Chg.set _ _ _ (by simp)
  have n : g ∉ [lb] := by simp; exact hn
  exact ⟨c.cell h.1 n, c.cell h.2.1 n, c.cell h.2.2.1 n, c.cell h.2.2.2 n⟩
set_option maxHeartbeats 1000000 in
set_option maxRecDepth 20000 in
theorem cloneB_nil (w : World) : Calls Try.prog 50 #[.slice none 0 0] w fun e w' => e = .returned (.slice none 0 0) ∧ w' = w := by
  have hq := fun w => Go.Lib.run_eql_slice_nil (P := Try.prog) w 39 5 none 0 0 0 0 Try.underlying39
  go_enter Try.func50, Try.ntmps50
  go_wp2
  go_ret
  exact ⟨rfl, rfl⟩
set_option maxHeartbeats 2000000 in
set_option maxRecDepth 20000 in
theorem cloneE_nil (i t : Int) (w : World) :
    Calls Try.prog 35 #[.agg #[.int .i64 i, .int .i64 t, .int .i64 0, .slice none 0 0]] w fun e w' => e = .returned (.agg #[.int .i64 i, .int .i64 t, .int .i64 0, .slice none 0 0]) ∧ Old w w' := by
  go_enter Try.func35, Try.ntmps35
  go_wp2_with (go_at_call 50; refine (cloneB_nil _).mono ?_; rintro e w1 ⟨rfl, rfl⟩)
  refine bodyPost_ret (v := .agg #[.int .i64 i, .int .i64 t, .int .i64 0, .slice none 0 0]) (by simp [results, Try.results35, go_sem]) rfl ⟨rfl, ?_⟩
  repeat (first | exact Old.refl _ | refine Old.setCell ?_ (by simp) _ | refine Old.alloc ?_ _)
set_option maxHeartbeats 4000000 in
set_option maxRecDepth 20000 in
theorem put_ok (w0 : World) (lb gc : Nat) (ve : Value) (ix tm at0 : Int) (cv1 cv2 : Value) (L : List Ent) (i t : Int) (w : World) (h : LogO w0 lb gc ve ix tm at0 cv1 cv2 L w) (hl : L.length ≤ 1000) :
    Calls Try.prog 32 #[.pointer (some ⟨lb, 0, none⟩), .agg #[.int .i64 i, .int .i64 t, .int .i64 0, .slice none 0 0]] w fun e w' => e = .returned (.tuple #[]) ∧ ∃ ve', LogO w0 lb gc ve' ix tm at0 cv1 cv2 (L ++ [en i t]) w' ∧ Chg (blks lb ve) w w' ∧ ∀ k, ve'.ownBlock = some k → ve.ownBlock = some k ∨ w.heap.size ≤ k := by
  obtain ⟨pv, cv, rfl, _, _⟩ := h.o.len
  have HL := hid hl
  have hlb := h.lt
  have HEl := hid (show w.heap.size ≠ lb from by omega)
  have HEn := hid (fun k (e : (Value.slice pv L.length cv).ownBlock = some k) => show k ≠ w.heap.size from by have := (World.ownsRow.lt h.o k e).2; omega)
  have AK := hid (h.old ((Old.refl w).alloc (.cells #[.int .i64 i, .int .i64 t, .int .i64 0, .slice none 0 0] 41)))
  have S0 : EntIn (w.alloc (.cells #[.int .i64 i, .int .i64 t, .int .i64 0, .slice none 0 0] 41)) w.heap.size 0 (en i t) := cell_oneE w (en i t) _ rfl
  have HCw := hid (Chg.ofOld (S := blks lb (.slice pv L.length cv)) ((Old.refl w).alloc (.cells #[.int .i64 i, .int .i64 t, .int .i64 0, .slice none 0 0] 41)))
  generalize heb : w.heap.size = eb at *
  generalize hw1 : w.alloc (.cells #[.int .i64 i, .int .i64 t, .int .i64 0, .slice none 0 0] 41) = w1 at *
  go_enter Try.func32, Try.ntmps32
  go_upto_region 1 with (fail)
  try rw [heb, hw1]
  clear h hl hlb
  refine wp_region_noPanic ?_
  refine wp_region_held_drew (S := fun wz => EntIn wz eb 0 (en i t)) (by kernel_rfl) ?_ (fun hHeld => ?_)
  · exact EntIn.old S0 ((Old.refl _).drew)
  (try simp only [Act.put]); (try simp only [List.setIfInBounds_toArray]); (try simp only [List.set_cons_succ]); (try simp only [List.set_cons_zero])
  clear hHeld
  refine wpAnyH_take (i := 0) (oi := { dst := some 6, op := Op.move (Operand.tmp 0), type := 26, pos := "rlog.go:92", after := #[], guard := none }) (v := ?vk1) rfl (by kernel_rfl) (by kernel_rfl) (by kernel_rfl) (fun _ _ _ h => h) (Or.inl ⟨by rfl, ?hk1⟩) (EntIn.old S0 ((Old.refl _).drew)) ?rk1
  case hk1 => (intro wz hSw; (try dsimp only at hSw); go_simp; try with_reducible rfl)
  (try simp only [Act.put]); (try simp only [List.setIfInBounds_toArray]); (try simp only [List.set_cons_succ]); (try simp only [List.set_cons_zero])
  refine wpAnyH_take (i := 1) (oi := { dst := some 7, op := Op.move (Operand.tmp 0), type := 26, pos := "rlog.go:92", after := #[], guard := none }) (v := ?vk2) rfl (by kernel_rfl) (by kernel_rfl) (by kernel_rfl) (fun _ _ _ h => h) (Or.inl ⟨by rfl, ?hk2⟩) (EntIn.old S0 ((Old.refl _).drew)) ?rk2
  case hk2 => (intro wz hSw; (try dsimp only at hSw); go_simp; try with_reducible rfl)
  (try simp only [Act.put]); (try simp only [List.setIfInBounds_toArray]); (try simp only [List.set_cons_succ]); (try simp only [List.set_cons_zero])
  refine wpAnyH_take (i := 2) (oi := { dst := some 8, op := Op.nilCheck (Operand.tmp 7), type := 0, pos := "rlog.go:92", after := #[{ on := 1, ground := Ground.data }], guard := none }) (v := ?vk3) rfl (by kernel_rfl) (by kernel_rfl) (by kernel_rfl) (fun _ _ _ h => h) (Or.inl ⟨by rfl, ?hk3⟩) (EntIn.old S0 ((Old.refl _).drew)) ?rk3
  case hk3 => (intro wz hSw; (try dsimp only at hSw); go_simp; try with_reducible rfl)
  (try simp only [Act.put]); (try simp only [List.setIfInBounds_toArray]); (try simp only [List.set_cons_succ]); (try simp only [List.set_cons_zero])
  refine wpAnyH_take (i := 3) (oi := { dst := some 9, op := Op.fieldAddr 68 (Operand.tmp 8) 2, type := 0, pos := "rlog.go:92", after := #[{ on := 2, ground := Ground.data }], guard := none }) (v := ?vk4) rfl (by kernel_rfl) (by kernel_rfl) (by kernel_rfl) (fun _ _ _ h => h) (Or.inl ⟨by rfl, ?hk4⟩) (EntIn.old S0 ((Old.refl _).drew)) ?rk4
  case hk4 => (intro wz hSw; (try dsimp only at hSw); go_simp; try with_reducible rfl)
  (try simp only [Act.put]); (try simp only [List.setIfInBounds_toArray]); (try simp only [List.set_cons_succ]); (try simp only [List.set_cons_zero])
  refine wpAnyH_take (i := 5) (oi := { dst := some 11, op := Op.load 41 (Operand.tmp 3), type := 41, pos := "rlog.go:92", after := #[], guard := none }) (v := ?vk5) rfl (by kernel_rfl) (by kernel_rfl) (by kernel_rfl) (fun _ _ _ h => h) (Or.inl ⟨by rfl, ?hk5⟩) (EntIn.old S0 ((Old.refl _).drew)) ?rk5
  case hk5 => (intro wz hSw; (try dsimp only at hSw); go_simp; try with_reducible rfl)
  (try simp only [Act.put]); (try simp only [List.setIfInBounds_toArray]); (try simp only [List.set_cons_succ]); (try simp only [List.set_cons_zero])
  refine wpAnyH_ready (rs := [4, 6]) (by kernel_rfl) (by simp) ?_
  refine AllReadyH.cons (o := { dst := some 10, op := Op.load 29 (Operand.tmp 9), type := 29, pos := "rlog.go:92", after := #[{ on := 3, ground := Ground.data }], guard := none }) rfl (fun K hK => ?_) (AllReadyH.cons (o := { dst := some 12, op := Op.call { callee := Callee.value (Operand.func 35), args := #[Operand.tmp 11], argTypes := #[41] }, type := 41, pos := "rlog.go:92", after := #[{ on := 5, ground := Ground.data }], guard := none }) rfl (fun K hK => ?_) AllReadyH.nil)
  · skip
    refine stepLoadE ?_ (.tmp 9) ?_ lb 2 pv L.length cv ?_ (AK.out.old ((Old.refl _).drew)).c2 ?_
    · rfl
    · rfl
    · rfl
    refine hK.out _ _ (EntIn.old S0 ((Old.refl _).drew)) (fun _ => ?_)
    clear hK K
    (try simp only [Act.put]); (try simp only [List.setIfInBounds_toArray]); (try simp only [List.set_cons_succ]); (try simp only [List.set_cons_zero])
    refine wpAnyH_ready (rs := [6]) (by kernel_rfl) (by simp) ?_
    refine AllReadyH.cons (o := { dst := some 12, op := Op.call { callee := Callee.value (Operand.func 35), args := #[Operand.tmp 11], argTypes := #[41] }, type := 41, pos := "rlog.go:92", after := #[{ on := 5, ground := Ground.data }], guard := none }) rfl (fun K hK => ?_) AllReadyH.nil
    · skip
      refine stepCallF1 ?_ 35 (.tmp 11) #[41] ?_ (.agg #[.int .i64 i, .int .i64 t, .int .i64 0, .slice none 0 0]) ?_ ?_ (enters_of Try.func35 (by kernel_rfl) rfl _ _) ?_
      · rfl
      · rfl
      · rfl
      · rfl
      refine (cloneE_nil i t _).mono ?_
      rintro o x6 ⟨rfl, b6⟩
      refine ⟨_, rfl, ?_⟩
      have A6 := (AK.out.old ((Old.refl _).drew)).old b6
      have C6 := (Chg.ofOld (S := blks lb (.slice pv L.length cv)) ((Old.refl w1).drew)).trans (Chg.ofOld b6)
      have S6 := EntIn.old (EntIn.old S0 ((Old.refl _).drew)) b6
      refine hK.out _ _ S6 (fun _ => ?_)
      clear hK K
      (try simp only [Act.put]); (try simp only [List.setIfInBounds_toArray]); (try simp only [List.set_cons_succ]); (try simp only [List.set_cons_zero])
      refine wpAnyH_ready (rs := [7]) (by kernel_rfl) (by simp) ?_
      refine AllReadyH.cons (o := { dst := some 13, op := Op.buildSlice 29 1 #[(0, Operand.tmp 12)], type := 29, pos := "rlog.go:92", after := #[{ on := 6, ground := Ground.data }], guard := none }) rfl (fun K hK => ?_) AllReadyH.nil
      · skip
        refine stepBuild1E ?_ (.tmp 12) ?_ (en i t) ?_ ?_
        · rfl
        · rfl
        · rfl
        intro m7 y7 hm7 hy7
        have R7 : EntIn y7 m7 0 (en i t) := by rw [hy7]; exact cell_oneE _ _ _ hm7.symm
        have V7 : Old _ y7 := show Old _ y7 from by rw [hy7]; exact (Old.refl _).alloc _
        have A7 := A6.old V7
        have C7 := C6.trans (Chg.ofOld V7)
        have S7 := EntIn.old S6 V7
        clear hm7 hy7
        refine hK.out _ _ S7 (fun _ => ?_)
        clear hK K
        (try simp only [Act.put]); (try simp only [List.setIfInBounds_toArray]); (try simp only [List.set_cons_succ]); (try simp only [List.set_cons_zero])
        refine wpAnyH_ready (rs := [8]) (by kernel_rfl) (by simp) ?_
        refine AllReadyH.cons (o := { dst := some 14, op := Op.call { callee := Callee.builtin Builtin.append, args := #[Operand.tmp 10, Operand.tmp 13], argTypes := #[29, 29] }, type := 29, pos := "rlog.go:92", after := #[{ on := 4, ground := Ground.data }, { on := 7, ground := Ground.data }, { on := 6, ground := Ground.chain }], guard := none }) rfl (fun K hK => ?_) AllReadyH.nil
        · skip
          refine step_appE ?_ (.tmp 10) (.tmp 13) ?_ (lb + 1) _ L m7 (en i t) ?_ ?_ A7.o R7 (by have := HL.out; omega) A7.lt ?_
          · rfl
          · rfl
          · rfl
          · rfl
          intro v8 y8 o8 g8 n8
          have G8 := LogG.mk' A7 o8 g8
          have C8 := C7.trans (Chg.grown g8 (T := blks lb (.slice pv L.length cv)) (fun q hq => mem_blks.2 (.inr hq)))
          have N8 := own_new C7 n8
          have S8 : EntIn y8 eb 0 (en i t) := EntIn.grown S7 g8 HEn.out
          obtain ⟨p8, c8, e8, _, _⟩ := o8.len
          rw [List.length_append, List.length_singleton] at e8
          subst e8
          clear o8 g8 n8
          refine hK.out _ _ S8 (fun _ => ?_)
          clear hK K
          (try simp only [Act.put]); (try simp only [List.setIfInBounds_toArray]); (try simp only [List.set_cons_succ]); (try simp only [List.set_cons_zero])
          refine wpAnyH_take (i := 9) (oi := { dst := some 15, op := Op.nilCheck (Operand.tmp 6), type := 0, pos := "rlog.go:92", after := #[{ on := 0, ground := Ground.data }, { on := 0, ground := Ground.phase }, { on := 1, ground := Ground.phase }, { on := 2, ground := Ground.phase }, { on := 3, ground := Ground.phase }, { on := 4, ground := Ground.phase }, { on := 5, ground := Ground.phase }, { on := 6, ground := Ground.phase }, { on := 7, ground := Ground.phase }, { on := 8, ground := Ground.phase }], guard := none }) (v := ?vk9) rfl (by kernel_rfl) (by kernel_rfl) (by kernel_rfl) (fun _ _ _ h => h) (Or.inl ⟨by rfl, ?hk9⟩) S8 ?rk9
          case hk9 => (intro wz hSw; (try dsimp only at hSw); go_simp; try with_reducible rfl)
          (try simp only [Act.put]); (try simp only [List.setIfInBounds_toArray]); (try simp only [List.set_cons_succ]); (try simp only [List.set_cons_zero])
          refine wpAnyH_take (i := 10) (oi := { dst := some 16, op := Op.fieldAddr 68 (Operand.tmp 15) 2, type := 0, pos := "rlog.go:92", after := #[{ on := 9, ground := Ground.data }, { on := 0, ground := Ground.phase }, { on := 1, ground := Ground.phase }, { on := 2, ground := Ground.phase }, { on := 3, ground := Ground.phase }, { on := 4, ground := Ground.phase }, { on := 5, ground := Ground.phase }, { on := 6, ground := Ground.phase }, { on := 7, ground := Ground.phase }, { on := 8, ground := Ground.phase }], guard := none }) (v := ?vk10) rfl (by kernel_rfl) (by kernel_rfl) (by kernel_rfl) (fun _ _ _ h => h) (Or.inl ⟨by rfl, ?hk10⟩) S8 ?rk10
          case hk10 => (intro wz hSw; (try dsimp only at hSw); go_simp; try with_reducible rfl)
          (try simp only [Act.put]); (try simp only [List.setIfInBounds_toArray]); (try simp only [List.set_cons_succ]); (try simp only [List.set_cons_zero])
          refine wpAnyH_ready (rs := [11]) (by kernel_rfl) (by simp) ?_
          refine AllReadyH.cons (o := { dst := none, op := Op.store 29 (Operand.tmp 16) (Operand.tmp 14), type := 0, pos := "rlog.go:92", after := #[{ on := 10, ground := Ground.data }, { on := 8, ground := Ground.data }, { on := 8, ground := Ground.chain }, { on := 0, ground := Ground.phase }, { on := 1, ground := Ground.phase }, { on := 2, ground := Ground.phase }, { on := 3, ground := Ground.phase }, { on := 4, ground := Ground.phase }, { on := 5, ground := Ground.phase }, { on := 6, ground := Ground.phase }, { on := 7, ground := Ground.phase }, { on := 8, ground := Ground.phase }], guard := none }) rfl (fun K hK => ?_) AllReadyH.nil
          · skip
            refine stepStoreE ?_ (.tmp 16) (.tmp 14) ?_ lb 2 p8 (L.length + 1) c8 _ ?_ ?_ G8.c2 (G8.f 2) ?_
            · rfl
            · rfl
            · rfl
            · rfl
            have A11 := G8.set
            have C11 := C8.trans (Chg.set _ ⟨lb, 2, none⟩ (.slice p8 (L.length + 1) c8) (mem_blks.2 (.inl rfl)))
            have S11 := EntIn.set (j := 2) S8 HEl.out (.slice p8 (L.length + 1) c8)
            refine hK.out _ _ S11 (fun _ => ?_)
            clear hK K
            (try simp only [Act.put]); (try simp only [List.setIfInBounds_toArray]); (try simp only [List.set_cons_succ]); (try simp only [List.set_cons_zero])
            refine wpAnyH_done (by kernel_rfl) ?_ _
            refine NoPanic.normal ?_
            have AZ := hid A11
            have CZ := hid (HCw.out.trans C11)
            have NZ := hid N8
            clear C11 N8
            obtain ⟨x0, x1, x2, x3⟩ := S11
            dsimp only [en] at x0 x1 x2 x3
            go_wp2
            (try simp only [Exit.inBlock, Exit.then])
            exact bodyPost_end (v := .tuple #[]) (by simp [results, Try.results32, go_sem]) rfl ⟨rfl, _, AZ.out, CZ.out, fun k e => (NZ.out k e).imp id (fun q => by have := HCw.out.size; omega)⟩
  · skip
    refine stepCallF1 ?_ 35 (.tmp 11) #[41] ?_ (.agg #[.int .i64 i, .int .i64 t, .int .i64 0, .slice none 0 0]) ?_ ?_ (enters_of Try.func35 (by kernel_rfl) rfl _ _) ?_
    · rfl
    · rfl
    · rfl
    · rfl
    refine (cloneE_nil i t _).mono ?_
    rintro o x12 ⟨rfl, b12⟩
    refine ⟨_, rfl, ?_⟩
    have A12 := (AK.out.old ((Old.refl _).drew)).old b12
    have C12 := (Chg.ofOld (S := blks lb (.slice pv L.length cv)) ((Old.refl w1).drew)).trans (Chg.ofOld b12)
    have S12 := EntIn.old (EntIn.old S0 ((Old.refl _).drew)) b12
    refine hK.out _ _ S12 (fun _ => ?_)
    clear hK K
    (try simp only [Act.put]); (try simp only [List.setIfInBounds_toArray]); (try simp only [List.set_cons_succ]); (try simp only [List.set_cons_zero])
    refine wpAnyH_ready (rs := [4, 7]) (by kernel_rfl) (by simp) ?_
    refine AllReadyH.cons (o := { dst := some 10, op := Op.load 29 (Operand.tmp 9), type := 29, pos := "rlog.go:92", after := #[{ on := 3, ground := Ground.data }], guard := none }) rfl (fun K hK => ?_) (AllReadyH.cons (o := { dst := some 13, op := Op.buildSlice 29 1 #[(0, Operand.tmp 12)], type := 29, pos := "rlog.go:92", after := #[{ on := 6, ground := Ground.data }], guard := none }) rfl (fun K hK => ?_) AllReadyH.nil)
    · skip
      refine stepLoadE ?_ (.tmp 9) ?_ lb 2 pv L.length cv ?_ A12.c2 ?_
      · rfl
      · rfl
      · rfl
      refine hK.out _ _ S12 (fun _ => ?_)
      clear hK K
      (try simp only [Act.put]); (try simp only [List.setIfInBounds_toArray]); (try simp only [List.set_cons_succ]); (try simp only [List.set_cons_zero])
      refine wpAnyH_ready (rs := [7]) (by kernel_rfl) (by simp) ?_
      refine AllReadyH.cons (o := { dst := some 13, op := Op.buildSlice 29 1 #[(0, Operand.tmp 12)], type := 29, pos := "rlog.go:92", after := #[{ on := 6, ground := Ground.data }], guard := none }) rfl (fun K hK => ?_) AllReadyH.nil
      · skip
        refine stepBuild1E ?_ (.tmp 12) ?_ (en i t) ?_ ?_
        · rfl
        · rfl
        · rfl
        intro m13 y13 hm13 hy13
        have R13 : EntIn y13 m13 0 (en i t) := by rw [hy13]; exact cell_oneE _ _ _ hm13.symm
        have V13 : Old _ y13 := show Old _ y13 from by rw [hy13]; exact (Old.refl _).alloc _
        have A13 := A12.old V13
        have C13 := C12.trans (Chg.ofOld V13)
        have S13 := EntIn.old S12 V13
        clear hm13 hy13
        refine hK.out _ _ S13 (fun _ => ?_)
        clear hK K
        (try simp only [Act.put]); (try simp only [List.setIfInBounds_toArray]); (try simp only [List.set_cons_succ]); (try simp only [List.set_cons_zero])
        refine wpAnyH_ready (rs := [8]) (by kernel_rfl) (by simp) ?_
        refine AllReadyH.cons (o := { dst := some 14, op := Op.call { callee := Callee.builtin Builtin.append, args := #[Operand.tmp 10, Operand.tmp 13], argTypes := #[29, 29] }, type := 29, pos := "rlog.go:92", after := #[{ on := 4, ground := Ground.data }, { on := 7, ground := Ground.data }, { on := 6, ground := Ground.chain }], guard := none }) rfl (fun K hK => ?_) AllReadyH.nil
        · skip
          refine step_appE ?_ (.tmp 10) (.tmp 13) ?_ (lb + 1) _ L m13 (en i t) ?_ ?_ A13.o R13 (by have := HL.out; omega) A13.lt ?_
          · rfl
          · rfl
          · rfl
          · rfl
          intro v14 y14 o14 g14 n14
          have G14 := LogG.mk' A13 o14 g14
          have C14 := C13.trans (Chg.grown g14 (T := blks lb (.slice pv L.length cv)) (fun q hq => mem_blks.2 (.inr hq)))
          have N14 := own_new C13 n14
          have S14 : EntIn y14 eb 0 (en i t) := EntIn.grown S13 g14 HEn.out
          obtain ⟨p14, c14, e14, _, _⟩ := o14.len
          rw [List.length_append, List.length_singleton] at e14
          subst e14
          clear o14 g14 n14
          refine hK.out _ _ S14 (fun _ => ?_)
          clear hK K
          (try simp only [Act.put]); (try simp only [List.setIfInBounds_toArray]); (try simp only [List.set_cons_succ]); (try simp only [List.set_cons_zero])
          refine wpAnyH_take (i := 9) (oi := { dst := some 15, op := Op.nilCheck (Operand.tmp 6), type := 0, pos := "rlog.go:92", after := #[{ on := 0, ground := Ground.data }, { on := 0, ground := Ground.phase }, { on := 1, ground := Ground.phase }, { on := 2, ground := Ground.phase }, { on := 3, ground := Ground.phase }, { on := 4, ground := Ground.phase }, { on := 5, ground := Ground.phase }, { on := 6, ground := Ground.phase }, { on := 7, ground := Ground.phase }, { on := 8, ground := Ground.phase }], guard := none }) (v := ?vk15) rfl (by kernel_rfl) (by kernel_rfl) (by kernel_rfl) (fun _ _ _ h => h) (Or.inl ⟨by rfl, ?hk15⟩) S14 ?rk15
          case hk15 => (intro wz hSw; (try dsimp only at hSw); go_simp; try with_reducible rfl)
          (try simp only [Act.put]); (try simp only [List.setIfInBounds_toArray]); (try simp only [List.set_cons_succ]); (try simp only [List.set_cons_zero])
          refine wpAnyH_take (i := 10) (oi := { dst := some 16, op := Op.fieldAddr 68 (Operand.tmp 15) 2, type := 0, pos := "rlog.go:92", after := #[{ on := 9, ground := Ground.data }, { on := 0, ground := Ground.phase }, { on := 1, ground := Ground.phase }, { on := 2, ground := Ground.phase }, { on := 3, ground := Ground.phase }, { on := 4, ground := Ground.phase }, { on := 5, ground := Ground.phase }, { on := 6, ground := Ground.phase }, { on := 7, ground := Ground.phase }, { on := 8, ground := Ground.phase }], guard := none }) (v := ?vk16) rfl (by kernel_rfl) (by kernel_rfl) (by kernel_rfl) (fun _ _ _ h => h) (Or.inl ⟨by rfl, ?hk16⟩) S14 ?rk16
          case hk16 => (intro wz hSw; (try dsimp only at hSw); go_simp; try with_reducible rfl)
          (try simp only [Act.put]); (try simp only [List.setIfInBounds_toArray]); (try simp only [List.set_cons_succ]); (try simp only [List.set_cons_zero])
          refine wpAnyH_ready (rs := [11]) (by kernel_rfl) (by simp) ?_
          refine AllReadyH.cons (o := { dst := none, op := Op.store 29 (Operand.tmp 16) (Operand.tmp 14), type := 0, pos := "rlog.go:92", after := #[{ on := 10, ground := Ground.data }, { on := 8, ground := Ground.data }, { on := 8, ground := Ground.chain }, { on := 0, ground := Ground.phase }, { on := 1, ground := Ground.phase }, { on := 2, ground := Ground.phase }, { on := 3, ground := Ground.phase }, { on := 4, ground := Ground.phase }, { on := 5, ground := Ground.phase }, { on := 6, ground := Ground.phase }, { on := 7, ground := Ground.phase }, { on := 8, ground := Ground.phase }], guard := none }) rfl (fun K hK => ?_) AllReadyH.nil
          · skip
            refine stepStoreE ?_ (.tmp 16) (.tmp 14) ?_ lb 2 p14 (L.length + 1) c14 _ ?_ ?_ G14.c2 (G14.f 2) ?_
            · rfl
            · rfl
            · rfl
            · rfl
            have A17 := G14.set
            have C17 := C14.trans (Chg.set _ ⟨lb, 2, none⟩ (.slice p14 (L.length + 1) c14) (mem_blks.2 (.inl rfl)))
            have S17 := EntIn.set (j := 2) S14 HEl.out (.slice p14 (L.length + 1) c14)
            refine hK.out _ _ S17 (fun _ => ?_)
            clear hK K
            (try simp only [Act.put]); (try simp only [List.setIfInBounds_toArray]); (try simp only [List.set_cons_succ]); (try simp only [List.set_cons_zero])
            refine wpAnyH_done (by kernel_rfl) ?_ _
            refine NoPanic.normal ?_
            have AZ := hid A17
            have CZ := hid (HCw.out.trans C17)
            have NZ := hid N14
            clear C17 N14
            obtain ⟨x0, x1, x2, x3⟩ := S17
            dsimp only [en] at x0 x1 x2 x3
            go_wp2
            (try simp only [Exit.inBlock, Exit.then])
            exact bodyPost_end (v := .tuple #[]) (by simp [results, Try.results32, go_sem]) rfl ⟨rfl, _, AZ.out, CZ.out, fun k e => (NZ.out k e).imp id (fun q => by have := HCw.out.size; omega)⟩
    · skip
      refine stepBuild1E ?_ (.tmp 12) ?_ (en i t) ?_ ?_
      · rfl
      · rfl
      · rfl
      intro m18 y18 hm18 hy18
      have R18 : EntIn y18 m18 0 (en i t) := by rw [hy18]; exact cell_oneE _ _ _ hm18.symm
      have V18 : Old _ y18 := show Old _ y18 from by rw [hy18]; exact (Old.refl _).alloc _
      have A18 := A12.old V18
      have C18 := C12.trans (Chg.ofOld V18)
      have S18 := EntIn.old S12 V18
      clear hm18 hy18
      refine hK.out _ _ S18 (fun _ => ?_)
      clear hK K
      (try simp only [Act.put]); (try simp only [List.setIfInBounds_toArray]); (try simp only [List.set_cons_succ]); (try simp only [List.set_cons_zero])
      refine wpAnyH_ready (rs := [4]) (by kernel_rfl) (by simp) ?_
      refine AllReadyH.cons (o := { dst := some 10, op := Op.load 29 (Operand.tmp 9), type := 29, pos := "rlog.go:92", after := #[{ on := 3, ground := Ground.data }], guard := none }) rfl (fun K hK => ?_) AllReadyH.nil
      · skip
        refine stepLoadE ?_ (.tmp 9) ?_ lb 2 pv L.length cv ?_ A18.c2 ?_
        · rfl
        · rfl
        · rfl
        refine hK.out _ _ S18 (fun _ => ?_)
        clear hK K
        (try simp only [Act.put]); (try simp only [List.setIfInBounds_toArray]); (try simp only [List.set_cons_succ]); (try simp only [List.set_cons_zero])
        refine wpAnyH_ready (rs := [8]) (by kernel_rfl) (by simp) ?_
        refine AllReadyH.cons (o := { dst := some 14, op := Op.call { callee := Callee.builtin Builtin.append, args := #[Operand.tmp 10, Operand.tmp 13], argTypes := #[29, 29] }, type := 29, pos := "rlog.go:92", after := #[{ on := 4, ground := Ground.data }, { on := 7, ground := Ground.data }, { on := 6, ground := Ground.chain }], guard := none }) rfl (fun K hK => ?_) AllReadyH.nil
        · skip
          refine step_appE ?_ (.tmp 10) (.tmp 13) ?_ (lb + 1) _ L m18 (en i t) ?_ ?_ A18.o R18 (by have := HL.out; omega) A18.lt ?_
          · rfl
          · rfl
          · rfl
          · rfl
          intro v19 y19 o19 g19 n19
          have G19 := LogG.mk' A18 o19 g19
          have C19 := C18.trans (Chg.grown g19 (T := blks lb (.slice pv L.length cv)) (fun q hq => mem_blks.2 (.inr hq)))
          have N19 := own_new C18 n19
          have S19 : EntIn y19 eb 0 (en i t) := EntIn.grown S18 g19 HEn.out
          obtain ⟨p19, c19, e19, _, _⟩ := o19.len
          rw [List.length_append, List.length_singleton] at e19
          subst e19
          clear o19 g19 n19
          refine hK.out _ _ S19 (fun _ => ?_)
          clear hK K
          (try simp only [Act.put]); (try simp only [List.setIfInBounds_toArray]); (try simp only [List.set_cons_succ]); (try simp only [List.set_cons_zero])
          refine wpAnyH_take (i := 9) (oi := { dst := some 15, op := Op.nilCheck (Operand.tmp 6), type := 0, pos := "rlog.go:92", after := #[{ on := 0, ground := Ground.data }, { on := 0, ground := Ground.phase }, { on := 1, ground := Ground.phase }, { on := 2, ground := Ground.phase }, { on := 3, ground := Ground.phase }, { on := 4, ground := Ground.phase }, { on := 5, ground := Ground.phase }, { on := 6, ground := Ground.phase }, { on := 7, ground := Ground.phase }, { on := 8, ground := Ground.phase }], guard := none }) (v := ?vk20) rfl (by kernel_rfl) (by kernel_rfl) (by kernel_rfl) (fun _ _ _ h => h) (Or.inl ⟨by rfl, ?hk20⟩) S19 ?rk20
          case hk20 => (intro wz hSw; (try dsimp only at hSw); go_simp; try with_reducible rfl)
          (try simp only [Act.put]); (try simp only [List.setIfInBounds_toArray]); (try simp only [List.set_cons_succ]); (try simp only [List.set_cons_zero])
          refine wpAnyH_take (i := 10) (oi := { dst := some 16, op := Op.fieldAddr 68 (Operand.tmp 15) 2, type := 0, pos := "rlog.go:92", after := #[{ on := 9, ground := Ground.data }, { on := 0, ground := Ground.phase }, { on := 1, ground := Ground.phase }, { on := 2, ground := Ground.phase }, { on := 3, ground := Ground.phase }, { on := 4, ground := Ground.phase }, { on := 5, ground := Ground.phase }, { on := 6, ground := Ground.phase }, { on := 7, ground := Ground.phase }, { on := 8, ground := Ground.phase }], guard := none }) (v := ?vk21) rfl (by kernel_rfl) (by kernel_rfl) (by kernel_rfl) (fun _ _ _ h => h) (Or.inl ⟨by rfl, ?hk21⟩) S19 ?rk21
          case hk21 => (intro wz hSw; (try dsimp only at hSw); go_simp; try with_reducible rfl)
          (try simp only [Act.put]); (try simp only [List.setIfInBounds_toArray]); (try simp only [List.set_cons_succ]); (try simp only [List.set_cons_zero])
          refine wpAnyH_ready (rs := [11]) (by kernel_rfl) (by simp) ?_
          refine AllReadyH.cons (o := { dst := none, op := Op.store 29 (Operand.tmp 16) (Operand.tmp 14), type := 0, pos := "rlog.go:92", after := #[{ on := 10, ground := Ground.data }, { on := 8, ground := Ground.data }, { on := 8, ground := Ground.chain }, { on := 0, ground := Ground.phase }, { on := 1, ground := Ground.phase }, { on := 2, ground := Ground.phase }, { on := 3, ground := Ground.phase }, { on := 4, ground := Ground.phase }, { on := 5, ground := Ground.phase }, { on := 6, ground := Ground.phase }, { on := 7, ground := Ground.phase }, { on := 8, ground := Ground.phase }], guard := none }) rfl (fun K hK => ?_) AllReadyH.nil
          · skip
            refine stepStoreE ?_ (.tmp 16) (.tmp 14) ?_ lb 2 p19 (L.length + 1) c19 _ ?_ ?_ G19.c2 (G19.f 2) ?_
            · rfl
            · rfl
            · rfl
            · rfl
            have A22 := G19.set
            have C22 := C19.trans (Chg.set _ ⟨lb, 2, none⟩ (.slice p19 (L.length + 1) c19) (mem_blks.2 (.inl rfl)))
            have S22 := EntIn.set (j := 2) S19 HEl.out (.slice p19 (L.length + 1) c19)
            refine hK.out _ _ S22 (fun _ => ?_)
            clear hK K
            (try simp only [Act.put]); (try simp only [List.setIfInBounds_toArray]); (try simp only [List.set_cons_succ]); (try simp only [List.set_cons_zero])
            refine wpAnyH_done (by kernel_rfl) ?_ _
            refine NoPanic.normal ?_
            have AZ := hid A22
            have CZ := hid (HCw.out.trans C22)
            have NZ := hid N19
            clear C22 N19
            obtain ⟨x0, x1, x2, x3⟩ := S22
            dsimp only [en] at x0 x1 x2 x3
            go_wp2
            (try simp only [Exit.inBlock, Exit.then])
            exact bodyPost_end (v := .tuple #[]) (by simp [results, Try.results32, go_sem]) rfl ⟨rfl, _, AZ.out, CZ.out, fun k e => (NZ.out k e).imp id (fun q => by have := HCw.out.size; omega)⟩
end Go.Proofs.Ytgpfmohaogppiaa
