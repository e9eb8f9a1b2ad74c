/- Heard of a client; conditions: the client lies in memory as New makes it. -/
import Derived.Test.YthjfkmjeppdcnaaGreatSqa
import Derived.Test.YthjfkmjeppdcnaaGreatClS
import Derived.Maps.AppendAt
namespace Go.Proofs.YthjfkmjeppdcnaaGreat
abbrev oKl70 : Oper := { dst := some 38, op := .move (.tmp 0), type := 23, pos := "client.go:91", after := #[], guard := none }
abbrev oKl71 : Oper := { dst := some 39, op := .move (.tmp 0), type := 23, pos := "client.go:91", after := #[], guard := none }
abbrev oKl72 : Oper := { dst := some 40, op := .nilCheck (.tmp 39), type := 0, pos := "client.go:91", after := #[⟨1, .data⟩], guard := none }
abbrev oKl73 : Oper := { dst := some 41, op := .fieldAddr 70 (.tmp 40) 5, type := 0, pos := "client.go:91", after := #[⟨2, .data⟩], guard := none }
abbrev oKl74 : Oper := { dst := some 43, op := .move (.tmp 1), type := 2, pos := "client.go:91", after := #[], guard := none }
abbrev oKl75 : Oper := { dst := some 44, op := .load 40 (.tmp 7), type := 40, pos := "client.go:91", after := #[], guard := none }
abbrev oKl76 : Oper := { dst := some 45, op := .build 51 #[(0, .tmp 43), (1, .tmp 44)], type := 51, pos := "client.go:91", after := #[⟨5, .data⟩, ⟨6, .data⟩], guard := none }
abbrev oKl77 : Oper := { dst := some 42, op := .load 42 (.tmp 41), type := 42, pos := "client.go:91", after := #[⟨3, .data⟩], guard := none }
abbrev oKl78 : Oper := { dst := some 46, op := .buildSlice 42 1 #[(0, .tmp 45)], type := 42, pos := "client.go:91", after := #[⟨7, .data⟩], guard := none }
abbrev oKl79 : Oper := { dst := some 47, op := .call { callee := Callee.builtin Builtin.append, args := #[.tmp 42, .tmp 46], argTypes := #[42, 42] }, type := 42, pos := "client.go:91", after := #[⟨4, .data⟩, ⟨8, .data⟩], guard := none }
abbrev oKl710 : Oper := { dst := some 48, op := .nilCheck (.tmp 38), type := 0, pos := "client.go:91", after := #[⟨0, .data⟩, ⟨0, .phase⟩, ⟨1, .phase⟩, ⟨2, .phase⟩, ⟨3, .phase⟩, ⟨4, .phase⟩, ⟨5, .phase⟩, ⟨6, .phase⟩, ⟨7, .phase⟩, ⟨8, .phase⟩, ⟨9, .phase⟩], guard := none }
abbrev oKl711 : Oper := { dst := some 49, op := .fieldAddr 70 (.tmp 48) 5, type := 0, pos := "client.go:91", after := #[⟨10, .data⟩, ⟨0, .phase⟩, ⟨1, .phase⟩, ⟨2, .phase⟩, ⟨3, .phase⟩, ⟨4, .phase⟩, ⟨5, .phase⟩, ⟨6, .phase⟩, ⟨7, .phase⟩, ⟨8, .phase⟩, ⟨9, .phase⟩], guard := none }
abbrev oKl712 : Oper := { dst := none, op := .store 42 (.tmp 49) (.tmp 47), type := 0, pos := "client.go:91", after := #[⟨11, .data⟩, ⟨9, .data⟩, ⟨9, .chain⟩, ⟨0, .phase⟩, ⟨1, .phase⟩, ⟨2, .phase⟩, ⟨3, .phase⟩, ⟨4, .phase⟩, ⟨5, .phase⟩, ⟨6, .phase⟩, ⟨7, .phase⟩, ⟨8, .phase⟩, ⟨9, .phase⟩], guard := none }
abbrev oKl713 : Oper := { dst := some 64, op := .move (.tmp 0), type := 23, pos := "client.go:95", after := #[], guard := none }
abbrev oKl714 : Oper := { dst := some 65, op := .move (.tmp 0), type := 23, pos := "client.go:95", after := #[], guard := none }
abbrev oKl715 : Oper := { dst := some 66, op := .nilCheck (.tmp 65), type := 0, pos := "client.go:95", after := #[⟨1, .data⟩], guard := none }
abbrev oKl716 : Oper := { dst := some 67, op := .fieldAddr 70 (.tmp 66) 2, type := 0, pos := "client.go:95", after := #[⟨2, .data⟩], guard := none }
abbrev oKl717 : Oper := { dst := some 70, op := .move (.tmp 0), type := 23, pos := "client.go:95", after := #[], guard := none }
abbrev oKl718 : Oper := { dst := some 71, op := .nilCheck (.tmp 70), type := 0, pos := "client.go:95", after := #[⟨6, .data⟩], guard := none }
abbrev oKl719 : Oper := { dst := some 72, op := .fieldAddr 70 (.tmp 71) 1, type := 0, pos := "client.go:95", after := #[⟨7, .data⟩], guard := none }
abbrev oKl720 : Oper := { dst := some 73, op := .load 22 (.tmp 72), type := 22, pos := "client.go:95", after := #[⟨8, .data⟩], guard := none }
abbrev oKl721 : Oper := { dst := some 74, op := .call { callee := Callee.builtin Builtin.len, args := #[.tmp 73], argTypes := #[22] }, type := 3, pos := "client.go:95", after := #[⟨9, .data⟩], guard := none }
abbrev oKl722 : Oper := { dst := some 68, op := .load 3 (.tmp 67), type := 3, pos := "client.go:95", after := #[⟨3, .data⟩], guard := none }
abbrev oKl723 : Oper := { dst := some 69, op := .binOp .add 3 (.tmp 68) (.const (.int IntKind.i64 1)) 3, type := 3, pos := "client.go:95", after := #[⟨4, .data⟩], guard := none }
abbrev oKl724 : Oper := { dst := some 75, op := .binOp .rem 3 (.tmp 69) (.tmp 74) 3, type := 3, pos := "client.go:95", after := #[⟨5, .data⟩, ⟨10, .data⟩], guard := none }
abbrev oKl725 : Oper := { dst := some 76, op := .nilCheck (.tmp 64), type := 0, pos := "client.go:95", after := #[⟨0, .data⟩, ⟨0, .phase⟩, ⟨1, .phase⟩, ⟨2, .phase⟩, ⟨3, .phase⟩, ⟨4, .phase⟩, ⟨5, .phase⟩, ⟨6, .phase⟩, ⟨7, .phase⟩, ⟨8, .phase⟩, ⟨9, .phase⟩, ⟨10, .phase⟩, ⟨11, .phase⟩], guard := none }
abbrev oKl726 : Oper := { dst := some 77, op := .fieldAddr 70 (.tmp 76) 2, type := 0, pos := "client.go:95", after := #[⟨12, .data⟩, ⟨0, .phase⟩, ⟨1, .phase⟩, ⟨2, .phase⟩, ⟨3, .phase⟩, ⟨4, .phase⟩, ⟨5, .phase⟩, ⟨6, .phase⟩, ⟨7, .phase⟩, ⟨8, .phase⟩, ⟨9, .phase⟩, ⟨10, .phase⟩, ⟨11, .phase⟩], guard := none }
abbrev oKl727 : Oper := { dst := none, op := .store 3 (.tmp 77) (.tmp 75), type := 0, pos := "client.go:95", after := #[⟨13, .data⟩, ⟨11, .data⟩, ⟨0, .phase⟩, ⟨1, .phase⟩, ⟨2, .phase⟩, ⟨3, .phase⟩, ⟨4, .phase⟩, ⟨5, .phase⟩, ⟨6, .phase⟩, ⟨7, .phase⟩, ⟨8, .phase⟩, ⟨9, .phase⟩, ⟨10, .phase⟩, ⟨11, .phase⟩], guard := none }
open Go.RowKit Go.Lib
set_option linter.unusedVariables false
set_option linter.unusedSimpArgs false
set_option maxRecDepth 20000
attribute [local go_sem] run_bits run_frombits run_store_float eqF
theorem alloc_at (w : World) (o : Obj) : (w.alloc o).heap[w.heap.size]? = some o := by
 show (w.heap.push o)[w.heap.size]? = some o
 simp
theorem box2V {w : World} {b : Nat} {x y : Value} {T : TypeId} (h : w.heap[b]? = some (.cells #[x, y] T (0, 0))) : (w.cell? ⟨b, 0, none⟩ = some x ∧ w.cell? ⟨b, 1, none⟩ = some y) ∧ ∀ o, w.frozen? ⟨b, o, none⟩ = false :=
 ⟨⟨by rw [Go.Joins.cell_of_block h]; rfl, by rw [Go.Joins.cell_of_block h]; rfl⟩, fun o => Go.Joins.unfrozen_of_block h o⟩
theorem Chg.grownB {w w' : World} {row : Option Nat} (g : w.grownBy w' row) : Chg row.toList w w' := ⟨g.os, g.tape, g.output, g.size, fun k hk hn => g.block k hk (fun e => hn (by rw [← e]; simp))⟩
def blk3 (cb mb : Nat) (rv : Value) : List Nat := cb :: mb :: rv.ownBlock.toList
theorem mem_blk3 {cb mb : Nat} {rv : Value} {g : Nat} : g ∈ blk3 cb mb rv ↔ g = cb ∨ g = mb ∨ rv.ownBlock = some g := by simp [blk3, Option.mem_toList]
structure CMv (cb mb : Nat) (rv : Value) (w : World) (rv' : Value) (w' : World) : Prop where
 c : Chg (blk3 cb mb rv) w w'
 r : ∀ g, rv'.ownBlock = some g → rv.ownBlock = some g ∨ w.heap.size ≤ g
theorem CMv.ofOld {cb mb : Nat} {rv : Value} {w w' : World} (u : Old w w') : CMv cb mb rv w rv w' := ⟨Chg.ofOld u, fun g e => .inl e⟩
theorem CMv.trans {cb mb : Nat} {r1 r2 r3 : Value} {w1 w2 w3 : World} (h : CMv cb mb r1 w1 r2 w2) (k : CMv cb mb r2 w2 r3 w3) : CMv cb mb r1 w1 r3 w3 := by
 refine ⟨⟨k.c.os.trans h.c.os, k.c.tape.trans h.c.tape, k.c.output.trans h.c.output, Nat.le_trans h.c.size k.c.size, fun i hi hn => ?_⟩, fun g e => ?_⟩
 ·refine (k.c.block i (Nat.lt_of_lt_of_le hi h.c.size) fun q => hn ?_).trans (h.c.block i hi hn)
  rcases mem_blk3.1 q with z | z | z
  ·exact mem_blk3.2 (.inl z)
  ·exact mem_blk3.2 (.inr (.inl z))
  ·rcases h.r i z with y | y
   ·exact mem_blk3.2 (.inr (.inr y))
   ·omega
 ·rcases k.r g e with z | z
  ·exact h.r g z
  ·exact .inr (Nat.le_trans h.c.size z)
theorem ClAt.lt {base cb mb : Nat} {mv rv : Value} {s : Cs} {w : World} (h : ClAt base cb mb mv rv s w) : ∀ g ∈ blk3 cb mb rv, base ≤ g ∧ g < w.heap.size := fun g q => by
 rcases mem_blk3.1 q with rfl | rfl | z
 ·exact ⟨h.lo.1, heap_lt h.blk⟩
 ·exact ⟨h.lo.2, h.map.lt⟩
 ·exact World.ownsRow.lt h.res g z
theorem CMv.keep {base cb mb : Nat} {mv rv rv' : Value} {s : Cs} {w0 w w' : World} (m : CMv cb mb rv w rv' w') (h : ClAt base cb mb mv rv s w) (u : Old w0 w) (hb : w0.heap.size ≤ base) : Old w0 w' :=
 u.below (m.c.below w0.heap.size (fun k q => Nat.le_trans hb (h.lt k q).1) u.size)
theorem ClAt.setT {base cb mb : Nat} {mv rv : Value} {s : Cs} {w : World} (h : ClAt base cb mb mv rv s w) (t : Nat) : ClAt base cb mb mv rv { s with tg := t } (w.setCell ⟨cb, 2, none⟩ (.int .i64 (t : Nat))) ∧ CMv cb mb rv w rv (w.setCell ⟨cb, 2, none⟩ (.int .i64 (t : Nat))) := by
 have ch : Chg [cb] w (w.setCell ⟨cb, 2, none⟩ (.int .i64 (t : Nat))) := Chg.set w ⟨cb, 2, none⟩ _ (by simp)
 refine ⟨⟨Go.Joins.block_setCell h.blk (.int .i64 (t : Nat)) (i := 2), h.map.chg ch (by simp; exact fun e => h.ne.1 e.symm), h.mem.chg ch (fun g e => by simp; intro q; subst q; exact h.ne.2.1 e), own_chg h.res ch (fun g e => by simp; intro q; subst q; exact h.ne.2.2.2.1 e), fun p q => (h.sub p q).chg ch (fun g z => by simp; exact (h.far p q g z).1), h.far, h.lo, h.ne⟩, ch.mono (fun k q _ => mem_blk3.2 (.inl (by simpa using q))), fun g e => .inl e⟩
theorem ClAt.del {base cb mb : Nat} {mv rv : Value} {s : Cs} {w w' : World} (h : ClAt base cb mb mv rv s w) (q : Int) (hm : MapIs w' mb (mdel q (opM s.op))) (c : Chg [mb] w w') : ClAt base cb mb mv rv { s with op := s.op.filter fun p => decide (p.1 ≠ q) } w' ∧ CMv cb mb rv w rv w' := by
 have e : opM (s.op.filter fun p => decide (p.1 ≠ q)) = mdel q (opM s.op) := by
  unfold opM mdel
  rw [List.filter_map]
  rfl
 refine ⟨⟨c.heapAt h.blk (by simp; exact h.ne.1), by rw [e]; exact hm, h.mem.chg c (fun g z => by simp; intro y; subst y; exact h.ne.2.2.1 z), own_chg h.res c (fun g z => by simp; intro y; subst y; exact h.ne.2.2.2.2.1 z), fun p z => (h.sub p (List.mem_filter.1 z).1).chg c (fun g y => by simp; exact (h.far p ((List.mem_filter.1 z).1) g y).2.1), fun p z => h.far p ((List.mem_filter.1 z).1), h.lo, h.ne⟩, c.mono (fun k z _ => mem_blk3.2 (.inr (.inl (by simpa using z)))), fun g z => .inl z⟩
theorem ClAt.push {base cb mb : Nat} {mv rv v' : Value} {s : Cs} {w w1 w2 : World} {r : Int × Int × Int} (h : ClAt base cb mb mv rv s w) (u : Old w w1) (ro : w2.ownsRow base 51 3 v' (s.rs ++ [r]).length (rcs (s.rs ++ [r]))) (g : w1.grownBy w2 rv.ownBlock) (n : v'.ownBlock = rv.ownBlock ∨ v'.ownBlock = some w1.heap.size) :
    ClAt base cb mb mv v' { s with rs := s.rs ++ [r] } (w2.setCell ⟨cb, 5, none⟩ v') ∧ CMv cb mb rv w v' (w2.setCell ⟨cb, 5, none⟩ v') := by
 have h1 := h.old u
 have c1 := Chg.grownB g
 have hh : ∀ g, v'.ownBlock = some g → rv.ownBlock = some g ∨ w1.heap.size ≤ g := fun g e => by
  rcases n with z | z
  ·exact .inl (z ▸ e)
  ·rw [z] at e; cases e; exact .inr (Nat.le_refl _)
 have nr : ∀ {S : List Nat} {x : Nat}, rv.ownBlock ≠ some x → x ∉ rv.ownBlock.toList := fun e q => e (by simpa [Option.mem_toList] using q)
 have lcb := heap_lt h1.blk
 have lmb := h1.map.lt
 have b2 : w2.heap[cb]? = _ := c1.heapAt h1.blk (nr (S := []) h1.ne.2.2.2.1)
 have ch : Chg [cb] w2 (w2.setCell ⟨cb, 5, none⟩ v') := Chg.set w2 ⟨cb, 5, none⟩ _ (by simp)
 have ncb : v'.ownBlock ≠ some cb := fun e => by rcases hh cb e with z | z; exact h1.ne.2.2.2.1 z; omega
 have nmb : v'.ownBlock ≠ some mb := fun e => by rcases hh mb e with z | z; exact h1.ne.2.2.2.2.1 z; omega
 refine ⟨⟨Go.Joins.block_setCell b2 v' (i := 5), (h1.map.chg c1 (nr (S := []) h1.ne.2.2.2.2.1)).chg ch (by simp; exact fun e => h1.ne.1 e.symm), (h1.mem.chg c1 (fun g e => nr (S := []) fun z => h1.ne.2.2.2.2.2 g z e)).chg ch (fun g e => by simp; intro q; subst q; exact h1.ne.2.1 e), own_chg ro ch (fun g e => by simp; intro q; subst q; exact ncb e), fun p q => ((h1.sub p q).chg c1 (fun g z => nr (S := []) (h1.far p q g z).2.2)).chg ch (fun g z => by simp; exact (h1.far p q g z).1), fun p q g z => ⟨(h1.far p q g z).1, (h1.far p q g z).2.1, fun e => ?_⟩, h.lo, h1.ne.1, h1.ne.2.1, h1.ne.2.2.1, ncb, nmb, fun g e => ?_⟩, ?_, fun g e => ?_⟩
 ·rcases hh g e with y | y
  ·exact (h1.far p q g z).2.2 y
  ·have := ((h1.sub p q).lt g z).2; omega
 ·rcases hh g e with y | y
  ·exact h1.ne.2.2.2.2.2 g y
  ·intro z
   have := (World.ownsRow.lt (show w1.ownsRow base 3 1 mv s.ms.length (Ci.ils s.ms) from h1.mem) g z).2
   omega
 ·exact ((Chg.ofOld u).trans (c1.mono fun k q _ => mem_blk3.2 (.inr (.inr (by simpa [Option.mem_toList] using q))))).trans (ch.mono fun k q _ => mem_blk3.2 (.inl (by simpa using q)))
 ·rcases hh g e with y | y
  ·exact .inl y
  ·exact .inr (Nat.le_trans u.size y)
set_option maxHeartbeats 400000 in
theorem stepLdR {ops : Array Oper} {o : Oper} {a : Act} {w : World} {K : Act → World → Prop} {Q : Exit → Act → World → Prop} {E : Prop} (hg : o.guard = none) (x : Operand) (hop : o.op = Op.load 42 x) (b j : Nat) (p : Option Addr) (n c : Nat)
    (hx : a.eval x = .pointer (some ⟨b, j, none⟩)) (hc : w.cell? ⟨b, j, none⟩ = some (.slice p n c))
    (hK : K (a.put o.dst (.slice p n c)) w) :
    if Region.wanted o (yielded ops a.tmps) = true then Oper.wp Tryz.prog o a w K Q else E := by
 have hw : Region.wanted o (yielded ops a.tmps) = true := by simp [Region.wanted, hg]
 rw [if_pos hw]
 obtain ⟨d, p', t, ps, af, gd⟩ := o
 subst hop
 unfold Oper.wp execOp
 simp only [hx]
 go_simp
 exact hK
set_option maxHeartbeats 400000 in
theorem stepStR {ops : Array Oper} {o : Oper} {a : Act} {w : World} {K : Act → World → Prop} {Q : Exit → Act → World → Prop} {E : Prop} (hg : o.guard = none) (x y : Operand) (hop : o.op = Op.store 42 x y) (b j : Nat) (p : Option Addr) (n c : Nat) (u : Value)
    (hx : a.eval x = .pointer (some ⟨b, j, none⟩)) (hy : a.eval y = .slice p n c) (hc : w.cell? ⟨b, j, none⟩ = some u) (hf : w.frozen? ⟨b, j, none⟩ = false)
    (hK : K (a.put o.dst undef) (w.setCell ⟨b, j, none⟩ (.slice p n c))) :
    if Region.wanted o (yielded ops a.tmps) = true then Oper.wp Tryz.prog o a w K Q else E := by
 have hw : Region.wanted o (yielded ops a.tmps) = true := by simp [Region.wanted, hg]
 rw [if_pos hw]
 obtain ⟨d, p', t, ps, af, gd⟩ := o
 subst hop
 unfold Oper.wp execOp
 simp only [hx, hy]
 go_simp
 exact hK
set_option maxHeartbeats 400000 in
theorem stepBuildR {ops : Array Oper} {o : Oper} {a : Act} {w : World} {K : Act → World → Prop} {Q : Exit → Act → World → Prop} {E : Prop} (hg : o.guard = none) (x : Operand) (hop : o.op = Op.buildSlice 42 1 #[(0, x)]) (q c n : Int)
    (hx : a.eval x = .agg #[.int .i64 q, .int .i64 c, .int .i64 n])
    (hK : ∀ m w', m = w.heap.size → w' = w.alloc (.cells #[.int .i64 q, .int .i64 c, .int .i64 n] 51) → K (a.put o.dst (.slice (some ⟨m, 0, none⟩) 1 1)) w') :
    if Region.wanted o (yielded ops a.tmps) = true then Oper.wp Tryz.prog o a w K Q else E := by
 have hw : Region.wanted o (yielded ops a.tmps) = true := by simp [Region.wanted, hg]
 rw [if_pos hw]
 obtain ⟨d, p', t, ps, af, gd⟩ := o
 subst hop
 unfold Oper.wp execOp
 simp only [List.map_toArray, List.map_cons, List.map_nil, hx]
 go_simp
 exact hK _ _ rfl rfl
theorem step_appR {ops : Array Oper} {o : Oper} {a : Act} {w : World} {K : Act → World → Prop} {Q : Exit → Act → World → Prop} {E : Prop} (hgd : o.guard = none) (s x : Operand)
    (ho : o.op = .call { callee := .builtin .append, args := #[s, x], argTypes := #[42, 42] }) (base : Nat) (v : Value) (L : List (Int × Int × Int)) (g : Nat) (r : Int × Int × Int)
    (hs : a.eval s = v) (hx : a.eval x = .slice (some ⟨g, 0, none⟩) 1 1) (hown : w.ownsRow base 51 3 v L.length (rcs L)) (hc : w.heap[g]? = some (.cells #[.int .i64 r.1, .int .i64 r.2.1, .int .i64 r.2.2] 51 (0, 0))) (hb : L.length ≤ 1099511627776) (hbase : base ≤ w.heap.size)
    (h : ∀ v' w', w'.ownsRow base 51 3 v' (L ++ [r]).length (rcs (L ++ [r])) → w.grownBy w' v.ownBlock → (v'.ownBlock = v.ownBlock ∨ v'.ownBlock = some w.heap.size) → K (a.put o.dst v') w') :
    if Region.wanted o (yielded ops a.tmps) = true then Oper.wp Tryz.prog o a w K Q else E := by
 refine Ci.step_lift1 hgd ?_
 obtain ⟨i0, hi, hz0, hz1, hz2⟩ := Ci.info_parts infoRs
 refine wpList_append_own_at w hgd s x 42 ho base 51 i0 _ 3 24 Tryz.underlying42 hi hz0 hz1 hz2 rfl (by decide) v L.length (rcs L) hs hown ⟨g, 0, none⟩ 1 1 (rcs [r]) hx rfl ?_ (rcs_one _) (by unfold maxLen; omega) (by omega) hbase ?_
 ·intro j u hj
  rw [Go.WideShapes.add_plain, Nat.zero_add, Go.Joins.cell_of_block hc]
  simpa [rcs, rc] using hj
 ·intro v' w' h1 h2 h3 h4
  unfold wpList
  rw [rcs_app] at h1
  exact ⟨rfl, h v' w' (by rw [List.length_append]; exact h1) h2 h4⟩
theorem OwnR.len {base : Nat} {w : World} {v : Value} {L : List (Int × Int × Int)} (h : w.ownsRow base 51 3 v L.length (rcs L)) : ∃ a c, v = .slice a L.length c := by
 rcases h.2 with ⟨rfl, e⟩ | ⟨g, cap, cur, rfl, _⟩
 ·exact ⟨none, 0, by rw [e]⟩
 ·exact ⟨_, _, rfl⟩
set_option maxHeartbeats 400000 in
theorem stepLdI {ops : Array Oper} {o : Oper} {a : Act} {w : World} {K : Act → World → Prop} {Q : Exit → Act → World → Prop} {E : Prop} (hg : o.guard = none) (x : Operand) (hop : o.op = Op.load 3 x) (b j : Nat) (v : Int)
    (hx : a.eval x = .pointer (some ⟨b, j, none⟩)) (hc : w.cell? ⟨b, j, none⟩ = some (.int .i64 v))
    (hK : K (a.put o.dst (.int .i64 v)) w) :
    if Region.wanted o (yielded ops a.tmps) = true then Oper.wp Tryz.prog o a w K Q else E := by
 have hw : Region.wanted o (yielded ops a.tmps) = true := by simp [Region.wanted, hg]
 rw [if_pos hw]
 obtain ⟨d, p', t, ps, af, gd⟩ := o
 subst hop
 unfold Oper.wp execOp
 simp only [hx]
 go_simp
 exact hK
set_option maxHeartbeats 400000 in
theorem stepStI {ops : Array Oper} {o : Oper} {a : Act} {w : World} {K : Act → World → Prop} {Q : Exit → Act → World → Prop} {E : Prop} (hg : o.guard = none) (x y : Operand) (hop : o.op = Op.store 3 x y) (b j : Nat) (v : Int) (u : Value)
    (hx : a.eval x = .pointer (some ⟨b, j, none⟩)) (hy : a.eval y = .int .i64 v) (hc : w.cell? ⟨b, j, none⟩ = some u) (hf : w.frozen? ⟨b, j, none⟩ = false)
    (hK : K (a.put o.dst undef) (w.setCell ⟨b, j, none⟩ (.int .i64 v))) :
    if Region.wanted o (yielded ops a.tmps) = true then Oper.wp Tryz.prog o a w K Q else E := by
 have hw : Region.wanted o (yielded ops a.tmps) = true := by simp [Region.wanted, hg]
 rw [if_pos hw]
 obtain ⟨d, p', t, ps, af, gd⟩ := o
 subst hop
 unfold Oper.wp execOp
 simp only [hx, hy]
 go_simp
 exact hK
def heardC (s : Cs) (q vc vn e : Int) (k : Nat) : Cs :=
 if (∀ p ∈ s.op, p.1 ≠ q) then s
 else if e = 0 then { s with op := s.op.filter fun p => decide (p.1 ≠ q), rs := s.rs ++ [(q, vc, vn)] }
 else if e = 180 ∧ k < s.ms.length then { s with tg := k }
 else if e = 181 then s
 else { s with tg := (s.tg + 1) % s.ms.length }
def LdAt (s : Cs) (lead : Int) (k : Nat) : Prop := (k < s.ms.length ∧ s.ms.getD k 0 = lead) ∨ (k = s.ms.length ∧ ∀ i, i < s.ms.length → s.ms.getD i 0 ≠ lead)
def HdPost (base cb mb : Nat) (mv rv : Value) (s : Cs) (q vc vn e lead : Int) (w : World) (x : Ending) (w' : World) : Prop := ∃ k rv', x = .returned (.tuple #[]) ∧ LdAt s lead k ∧ ClAt base cb mb mv rv' (heardC s q vc vn e k) w' ∧ CMv cb mb rv w rv' w'
abbrev SVd (vb : Nat) (c n : Int) (w : World) : Prop := w.cell? ⟨vb, 0, none⟩ = some (.int .i64 c) ∧ w.cell? ⟨vb, 1, none⟩ = some (.int .i64 n)
theorem SVd.old {vb : Nat} {c n : Int} {w w' : World} (h : SVd vb c n w) (u : Old w w') : SVd vb c n w' := ⟨u.keep h.1, u.keep h.2⟩
set_option maxHeartbeats 8000000 in
theorem heard_any (base cb mb : Nat) (mv rv : Value) (s : Cs) (q vc vn e lead : Int) (w : World) (h : ClAt base cb mb mv rv s w) (hok : CsOk s) (hq : N64 q) :
    Calls Tryz.prog 11 #[.pointer (some ⟨cb, 0, none⟩), .int .i64 q, .agg #[.int .i64 vc, .int .i64 vn], .int .i64 e, .int .i64 lead] w fun x w' => HdPost base cb mb mv rv s q vc vn e lead w x w' := by
 have HLk := hid (fun (W : World) (u : Old w W) => (h.map.old u).look true hq)
 have hNR : ∀ W, Old w W → Ci.NRowL W mv s.ms.length (fun i => s.ms.getD i 0) := fun W u => (h.mem.up u).rowL (by have := hok.m1; omega) rfl (fun i hi => rfl)
 have HIx := hid (fun (W : World) (u : Old w W) => index1_any mv s.ms.length (fun i => s.ms.getD i 0) lead W (hNR W u))
 have hsome : (∀ p ∈ s.op, p.1 ≠ q) ∨ ∃ p ∈ s.op, p.1 = q := by
  by_cases c : ∃ p ∈ s.op, p.1 = q
  ·exact .inr c
  ·exact .inl fun p hp e => c ⟨p, hp, e⟩
 have HB := hid h.blk
 have HA := hid h
 obtain ⟨kk, hkk⟩ : ∃ k, LdAt s lead k := by
  by_cases c : ∃ i, i < s.ms.length ∧ s.ms.getD i 0 = lead
  ·obtain ⟨i, hi, e⟩ := c
   exact ⟨i, .inl ⟨hi, e⟩⟩
  ·exact ⟨s.ms.length, .inr ⟨rfl, fun i hi e => c ⟨i, hi, e⟩⟩⟩
 have HKK := hid hkk
 clear hkk
 rcases hsome with hn | ⟨p0, hp0, hpq⟩
 ·have hg : mget q (opM s.op) = none := mget_none fun p hp => by
    obtain ⟨y, hy, rfl⟩ := List.mem_map.1 (show p ∈ s.op.map fun p => (p.1, p.2.val) from hp)
    exact hn y hy
  rw [hg] at HLk
  simp only [if_true, Option.getD_none, Option.isSome_none] at HLk
  have HE := hid (show heardC s q vc vn e kk = s from by unfold heardC; rw [if_pos hn])
  clear hg hn h hok HIx hNR
  go_enter Tryz.func11, Tryz.ntmps11
  go_upto_region 1 with fail
  have U1 := hid ((Old.refl w).alloc (.cells #[.int .i64 vc, .int .i64 vn] 40))
  generalize w.alloc (.cells #[.int .i64 vc, .int .i64 vn] 40) = w1 at *
  obtain ⟨⟨x0, x1, x2, x3, x4, x5⟩, -⟩ := box6 (U1.out.block HB.out)
  have hlk := HLk.out w1 U1.out
  clear x0 x1 x2 x3 x5 HLk HB
  go_wp2
  have U2 := hid (U1.out.trans ((Old.refl w1).alloc (.cells #[.int .i64 0, .int .i64 0, .int .i64 0, .slice none 0 0, .slice none 0 0, .slice none 0 0] 33)))
  exact bodyPost_end (v := .tuple #[]) (by simp [results, Tryz.results11, go_sem]) rfl ⟨kk, rv, rfl, HKK.out, by rw [HE.out]; exact HA.out.old U2.out, CMv.ofOld U2.out⟩
 ·have hg : mget q (opM s.op) = some p0.2.val := mget_of h.map.nod (List.mem_map.2 ⟨p0, hp0, by rw [hpq]⟩)
  rw [hg] at HLk
  simp only [if_true, Option.getD_some, Option.isSome_some] at HLk
  have hex : ¬ ∀ p ∈ s.op, p.1 ≠ q := fun c => c p0 hp0 hpq
  have HE := hid (fun (k : Nat) => show heardC s q vc vn e k = if e = 0 then { s with op := s.op.filter fun p => decide (p.1 ≠ q), rs := s.rs ++ [(q, vc, vn)] } else if e = 180 ∧ k < s.ms.length then { s with tg := k } else if e = 181 then s else { s with tg := (s.tg + 1) % s.ms.length } from by unfold heardC; rw [if_neg hex])
  have HRl := hid hok.rl
  have HTg := hid hok.tg
  have HM7 := hid hok.m1
  have HKx := hid (⟨kk, HKK.out⟩ : ∃ k, LdAt s lead k)
  have HNv0 := hid (show mb < w.heap.size ∧ cb < w.heap.size from ⟨h.map.lt, heap_lt h.blk⟩)
  have HNr0 := hid (show ∀ g, rv.ownBlock = some g → g < w.heap.size from fun g e => (World.ownsRow.lt h.res g e).2)
  clear hg hex h hok hNR hp0 hpq HKK
  obtain ⟨k0, x⟩ := p0
  dsimp only at HLk
  go_enter Tryz.func11, Tryz.ntmps11
  go_upto_region 1 with fail
  have U1 := hid ((Old.refl w).alloc (.cells #[.int .i64 vc, .int .i64 vn] 40))
  have V1 := hid (alloc_at w (.cells #[.int .i64 vc, .int .i64 vn] 40))
  generalize w.alloc (.cells #[.int .i64 vc, .int .i64 vn] 40) = w1 at *
  obtain ⟨vb, hvb⟩ : ∃ vb, w.heap.size = vb := ⟨_, rfl⟩
  have HNv := hid (show vb ≠ mb from fun e => by have := HNv0.out.1; omega)
  have HNc := hid (show vb ≠ cb from fun e => by have := HNv0.out.2; omega)
  have HNr := hid (show ∀ z : Value, z = rv → vb ∉ z.ownBlock.toList from fun z e q => by have := HNr0.out vb (e ▸ (by simpa [Option.mem_toList] using q)); omega)
  rw [hvb] at V1 ⊢
  clear HNv0 HNr0
  clear hvb
  obtain ⟨⟨x0, x1, x2, x3, x4, x5⟩, -⟩ := box6 (U1.out.block HB.out)
  have hlk := HLk.out w1 U1.out
  clear x0 x1 x2 x3 x5 HLk
  go_upto_region 3 with fail
  have U2 := hid (U1.out.trans ((Old.refl w1).alloc (.cells #[.int .i64 x.s1, .int .i64 x.s2, .int .i64 x.s3, .slice x.a1 x.n1 x.c1, .slice x.a2 x.n2 x.c2, .slice x.a3 x.n3 x.c3] 33)))
  have V2 := hid (((Old.refl w1).alloc (.cells #[.int .i64 x.s1, .int .i64 x.s2, .int .i64 x.s3, .slice x.a1 x.n1 x.c1, .slice x.a2 x.n2 x.c2, .slice x.a3 x.n3 x.c3] 33)).block V1.out)
  generalize w1.alloc (.cells #[.int .i64 x.s1, .int .i64 x.s2, .int .i64 x.s3, .slice x.a1 x.n1 x.c1, .slice x.a2 x.n2 x.c2, .slice x.a3 x.n3 x.c3] 33) = w2 at *
  generalize w1.heap.size = sb at *
  clear x4 hlk U1 V1
  obtain ⟨⟨x0, x1, x2, x3, x4, x5⟩, -⟩ := box6 (U2.out.block HB.out)
  go_upto_region 4 with (go_at_call 24; refine (HIx.out _ U2.out).mono ?_; rintro e3 w3 ⟨r, rfl, hr, u⟩; have HR := hid hr; have U3 := hid (U2.out.trans u); have V3 := hid (u.block V2.out); clear hr u)
  clear x0 x1 x2 x3 x4 x5 U2 V2 HIx
  have HA3 := hid (HA.out.old U3.out)
  obtain ⟨⟨x0, x1, x2, x3, x4, x5⟩, fz⟩ := box6 HA3.out.blk
  by_cases he0 : e = 0
  ·subst he0
   obtain ⟨w4, hdl, hm4, hc4, -⟩ := HA3.out.map.del hq 0
   have HD := hid (HA3.out.del q hm4 hc4)
   have V4 := hid (hc4.heapAt V3.out (by simp; exact HNv.out))
   have HK := hid (show ∃ k, LdAt s lead k from HKx.out)
   clear hm4 hc4 x0 x1 x2 x3 x5 fz HR HKx
   go_upto_region 6 with fail
   clear x4 hdl
   have HB4 := hid (box6 HD.out.1.blk)
   obtain ⟨ra, rc, hrv⟩ := OwnR.len HD.out.1.res
   dsimp only at hrv
   have HRv := hid hrv
   clear hrv
   have HS0 := hid (show SVd vb vc vn w4.drew from SVd.old (box2V V4.out).1 ((Old.refl w4).drew))
   focus
    refine wp_region_noPanic ?_
    refine wp_region_held_drew (S := SVd vb vc vn) (by kernel_rfl) ?_ (fun hHeld => ?_)
    ·exact HS0.out
    try simp only [Act.put, puA, puB, puC]
    clear hHeld
    all_goals
     refine atA [false, false, false, false, false, false, false, false, false, false, false, false, false] ?_
     refine tkA (i := 0) (oi := oKl70) (SVd.old (box2V V4.out).1 ((Old.refl w4).drew)) ?_
     try simp only [Act.put, puA, puB, puC]
     refine tkA (i := 1) (oi := oKl71) (SVd.old (box2V V4.out).1 ((Old.refl w4).drew)) ?_
     try simp only [Act.put, puA, puB, puC]
     refine tkA (i := 2) (oi := oKl72) (SVd.old (box2V V4.out).1 ((Old.refl w4).drew)) ?_
     try simp only [Act.put, puA, puB, puC]
     refine tkA (i := 3) (oi := oKl73) (SVd.old (box2V V4.out).1 ((Old.refl w4).drew)) ?_
     try simp only [Act.put, puA, puB, puC]
     refine tkA (i := 5) (oi := oKl74) (SVd.old (box2V V4.out).1 ((Old.refl w4).drew)) ?_
     try simp only [Act.put, puA, puB, puC]
     refine tkA (i := 6) (oi := oKl75) (SVd.old (box2V V4.out).1 ((Old.refl w4).drew)) ?_
     try simp only [Act.put, puA, puB, puC]
     refine tkA (i := 7) (oi := oKl76) (SVd.old (box2V V4.out).1 ((Old.refl w4).drew)) ?_
     try simp only [Act.put, puA, puB, puC]
     refine rdA [4, 8] ?_
     refine AllReadyH.cons (o := oKl77) rfl (fun K hK => ?_) (AllReadyH.cons (o := oKl78) rfl (fun K hK => ?_) AllReadyH.nil)
     refine stepLdR ?_ (.tmp 41) ?_ cb 5 ra s.rs.length rc ?_ (by rw [← HRv.out]; exact (((Old.refl w4).drew).keep HB4.out.1.2.2.2.2.2)) ?_
     iterate 3 rfl
     refine hK.out _ _ (SVd.old (box2V V4.out).1 ((Old.refl w4).drew)) (fun _ => ?_)
     clear hK K
     try simp only [Act.put, puA, puB, puC]
     rotate_left
     refine stepBuildR ?_ (.tmp 45) ?_ q vc vn ?_ ?_
     iterate 3 rfl
     rintro m300n x300n hb300n rfl
     have N300n := hb300n ▸ alloc_at w4.drew (.cells #[.int .i64 q, .int .i64 vc, .int .i64 vn] 51)
     have U300n := ((Old.refl w4).drew).alloc (.cells #[.int .i64 q, .int .i64 vc, .int .i64 vn] 51)
     clear hb300n
     obtain ⟨y300n, hy300n⟩ : ∃ y, w4.drew.alloc (.cells #[.int .i64 q, .int .i64 vc, .int .i64 vn] 51) = y := ⟨_, rfl⟩
     rw [hy300n] at N300n U300n ⊢
     clear hy300n
     refine hK.out _ _ (SVd.old (box2V V4.out).1 U300n) (fun _ => ?_)
     clear hK K
     try simp only [Act.put, puA, puB, puC]
     have NN_300 := N300n
     have UU_300 := U300n
     obtain ⟨mb_300, rfl⟩ : ∃ z, z = m300n := ⟨_, rfl⟩
     obtain ⟨yw_300, rfl⟩ : ∃ z, z = y300n := ⟨_, rfl⟩
     rotate_left
    all_goals first
     |refine atA [true, true, true, true, true, true, true, true, false, false, false, false, false] ?_
      refine rdA [8] ?_
      refine AllReadyH.cons (o := oKl78) rfl (fun K hK => ?_) AllReadyH.nil
      refine stepBuildR ?_ (.tmp 45) ?_ q vc vn ?_ ?_
      iterate 3 rfl
      rintro m300n x300n hb300n rfl
      have N300n := hb300n ▸ alloc_at w4.drew (.cells #[.int .i64 q, .int .i64 vc, .int .i64 vn] 51)
      have U300n := ((Old.refl w4).drew).alloc (.cells #[.int .i64 q, .int .i64 vc, .int .i64 vn] 51)
      clear hb300n
      obtain ⟨y300n, hy300n⟩ : ∃ y, w4.drew.alloc (.cells #[.int .i64 q, .int .i64 vc, .int .i64 vn] 51) = y := ⟨_, rfl⟩
      rw [hy300n] at N300n U300n ⊢
      clear hy300n
      refine hK.out _ _ (SVd.old (box2V V4.out).1 U300n) (fun _ => ?_)
      clear hK K
      try simp only [Act.put, puA, puB, puC]
      have NN_300 := N300n
      have UU_300 := U300n
      obtain ⟨mb_300, rfl⟩ : ∃ z, z = m300n := ⟨_, rfl⟩
      obtain ⟨yw_300, rfl⟩ : ∃ z, z = y300n := ⟨_, rfl⟩
     |refine atA [true, true, true, true, false, true, true, true, true, false, false, false, false] ?_
      refine rdA [4] ?_
      refine AllReadyH.cons (o := oKl77) rfl (fun K hK => ?_) AllReadyH.nil
      refine stepLdR ?_ (.tmp 41) ?_ cb 5 ra s.rs.length rc ?_ (by rw [← HRv.out]; exact (UU_300.keep HB4.out.1.2.2.2.2.2)) ?_
      iterate 3 rfl
      refine hK.out _ _ (SVd.old (box2V V4.out).1 UU_300) (fun _ => ?_)
      clear hK K
      try simp only [Act.put, puA, puB, puC]
    all_goals
     refine atA [true, true, true, true, true, true, true, true, true, false, false, false, false] ?_
     refine rdA [9] ?_
     refine AllReadyH.cons (o := oKl79) rfl (fun K hK => ?_) AllReadyH.nil
     refine step_appR ?_ (.tmp 42) (.tmp 46) ?_ base (.slice ra s.rs.length rc) s.rs mb_300 (q, vc, vn) ?_ ?_ (by rw [← HRv.out]; exact own_old HD.out.1.res UU_300) NN_300 HRl.out (Nat.le_trans (Nat.le_trans HD.out.1.lo.1 (Nat.le_of_lt (heap_lt HD.out.1.blk))) UU_300.size) ?_
     iterate 4 rfl
     intro v300n x300n h300n g300n n300n
     obtain ⟨p300n, d300n, hv300n⟩ := OwnR.len h300n
     obtain ⟨t300n, hnl300n⟩ : ∃ nl, (s.rs ++ [(q, vc, vn)]).length = nl := ⟨_, rfl⟩
     rw [hnl300n] at hv300n
     clear hnl300n
     have P300n := HD.out.1.push UU_300 h300n (by rw [HRv.out]; exact g300n) (by rw [HRv.out]; exact n300n)
     have C300n := (Chg.grownB g300n).heapAt (UU_300.block HD.out.1.blk) (by have := HD.out.1.ne.2.2.2.1; rw [HRv.out] at this; simpa [Option.mem_toList] using this)
     have S300n : SVd vb vc vn x300n := (box2V ((Chg.grownB g300n).heapAt (UU_300.block V4.out) (HNr.out _ HRv.out.symm))).1
     rw [hv300n] at P300n ⊢
     refine hK.out _ _ S300n (fun _ => ?_)
     clear hK K
     try simp only [Act.put, puA, puB, puC]
     have CC_300 := C300n
     have PP_300 := P300n
     have SS_300 := S300n
     obtain ⟨tnl_300, rfl⟩ : ∃ z, z = t300n := ⟨_, rfl⟩
     obtain ⟨ppa_300, rfl⟩ : ∃ z, z = p300n := ⟨_, rfl⟩
     obtain ⟨dpc_300, rfl⟩ : ∃ z, z = d300n := ⟨_, rfl⟩
     obtain ⟨xw_300, rfl⟩ : ∃ z, z = x300n := ⟨_, rfl⟩
    all_goals
     refine atA [true, true, true, true, true, true, true, true, true, true, false, false, false] ?_
     refine tkA (i := 10) (oi := oKl710) SS_300 ?_
     try simp only [Act.put, puA, puB, puC]
     refine tkA (i := 11) (oi := oKl711) SS_300 ?_
     try simp only [Act.put, puA, puB, puC]
     refine rdA [12] ?_
     refine AllReadyH.cons (o := oKl712) rfl (fun K hK => ?_) AllReadyH.nil
     refine stepStR ?_ (.tmp 49) (.tmp 47) ?_ cb 5 ppa_300 tnl_300 dpc_300 _ ?_ ?_ (box6 CC_300).1.2.2.2.2.2 ((box6 CC_300).2 5) ?_
     iterate 4 rfl
     have S300n : SVd vb vc vn (xw_300.setCell ⟨cb, 5, none⟩ (.slice ppa_300 tnl_300 dpc_300)) := ⟨(Chg.set (S := [cb]) xw_300 ⟨cb, 5, none⟩ _ (by simp)).cell SS_300.1 (by simp; exact HNc.out), (Chg.set (S := [cb]) xw_300 ⟨cb, 5, none⟩ _ (by simp)).cell SS_300.2 (by simp; exact HNc.out)⟩
     refine hK.out _ _ S300n (fun _ => ?_)
     clear hK K
     try simp only [Act.put, puA, puB, puC]
     have SS_300 := S300n
    all_goals
     refine atA [true, true, true, true, true, true, true, true, true, true, true, true, true] ?_
     refine wpAnyH_done (by kernel_rfl) ?_ _
     refine NoPanic.normal ?_
     have PP := hid PP_300
   all_goals go_wp2
   all_goals exact bodyPost_end (v := .tuple #[]) (by simp [results, Tryz.results11, go_sem]) rfl (by obtain ⟨k, hk⟩ := HK.out; exact ⟨k, _, rfl, hk, by rw [HE.out k]; simp only [if_true]; exact PP.out.1, (CMv.ofOld U3.out).trans (HD.out.2.trans PP.out.2)⟩)
  ·have d0 : (e == 0) = false := by simp [he0]
   have HE0 := hid (fun (k : Nat) => show heardC s q vc vn e k = if e = 180 ∧ k < s.ms.length then { s with tg := k } else if e = 181 then s else { s with tg := (s.tg + 1) % s.ms.length } from by rw [HE.out k, if_neg he0])
   clear HE he0 V3 HRl
   by_cases h180 : e = 180
   ·subst h180
    rcases HR.out with ⟨hr1, hr2⟩ | ⟨i, hi1, hi2, hi3⟩
    ·subst hr1
     have HN := hid hr2
     have HEi := hid (show heardC s q vc vn 180 s.ms.length = { s with tg := (s.tg + 1) % s.ms.length } from by rw [HE0.out, if_neg (fun c => Nat.lt_irrefl _ c.2), if_neg (by decide)])
     clear HE0
     have d1 : decide ((-1 : Int) ≥ 0) = false := by decide
     clear HR hr2 HKx x0 x3 x4 x5 fz
     go_upto_region 10 with fail
     obtain ⟨ga, gc, hmv⟩ := HA3.out.mem.len
     obtain ⟨mn, hmn⟩ : ∃ n, s.ms.length = n := ⟨_, rfl⟩
     obtain ⟨y, hy⟩ : ∃ y, (s.tg + 1) % s.ms.length = y := ⟨_, rfl⟩
     have ht := HTg.out
     have h7 := HM7.out
     rw [hmn] at hmv ht h7
     rw [hmv] at x1
     have HX2 := hid (show w3.drew.cell? ⟨cb, 2, none⟩ = some (.int .i64 (s.tg : Nat)) ∧ w3.drew.frozen? ⟨cb, 2, none⟩ = false from ⟨(box6 (((Old.refl w3).drew).block HA3.out.blk)).1.2.2.1, (box6 (((Old.refl w3).drew).block HA3.out.blk)).2 2⟩)
     have HS1 := hid (show w3.drew.cell? ⟨cb, 1, none⟩ = some (.slice ga mn gc) from ((Old.refl w3).drew).keep x1)
     have PP := hid ((HA3.out.old ((Old.refl w3).drew)).setT y)
     have HS2 := hid (show (w3.drew.setCell ⟨cb, 2, none⟩ (.int .i64 (y : Int))).cell? ⟨cb, 1, none⟩ = some (.slice ga mn gc) from hmv ▸ (box6 PP.out.1.blk).1.2.1)
     have HVal := hid (show ((s.tg : Int) + 1).tmod (mn : Int) = (y : Int) from by rw [Int.tmod_eq_emod_of_nonneg (by omega), ← hy, hmn]; push_cast; rfl)
     rw [hy] at HEi
     obtain ⟨tg, htg⟩ : ∃ tg, s.tg = tg := ⟨_, rfl⟩
     rw [htg] at ht HX2 HVal x2
     have l1 : IntKind.i64.wrap ((tg : Int) + 1) = (tg : Int) + 1 := IntWalk.i64_in _ (by omega)
     have l2 : ((mn : Int) == 0) = false := by simp; omega
     have l3 : ¬ mn = 0 := by omega
     clear hmv x1 x2 hmn hy ht h7 htg
     focus
      refine wp_region_noPanic ?_
      refine wp_region_held_drew (S := fun wz => wz.cell? ⟨cb, 1, none⟩ = some (.slice ga mn gc)) (by kernel_rfl) ?_ (fun hHeld => ?_)
      ·exact HS1.out
      try simp only [Act.put, puA, puB, puC]
      clear hHeld
      all_goals
       refine atA [false, false, false, false, false, false, false, false, false, false, false, false, false, false, false] ?_
       refine tkA (i := 0) (oi := oKl713) HS1.out ?_
       try simp only [Act.put, puA, puB, puC]
       refine tkA (i := 1) (oi := oKl714) HS1.out ?_
       try simp only [Act.put, puA, puB, puC]
       refine tkA (i := 2) (oi := oKl715) HS1.out ?_
       try simp only [Act.put, puA, puB, puC]
       refine tkA (i := 3) (oi := oKl716) HS1.out ?_
       try simp only [Act.put, puA, puB, puC]
       refine tkA (i := 6) (oi := oKl717) HS1.out ?_
       try simp only [Act.put, puA, puB, puC]
       refine tkA (i := 7) (oi := oKl718) HS1.out ?_
       try simp only [Act.put, puA, puB, puC]
       refine tkA (i := 8) (oi := oKl719) HS1.out ?_
       try simp only [Act.put, puA, puB, puC]
       refine tkA (i := 9) (oi := oKl720) HS1.out ?_
       try simp only [Act.put, puA, puB, puC]
       refine tkA (i := 10) (oi := oKl721) HS1.out ?_
       try simp only [Act.put, puA, puB, puC]
       refine rdA [4] ?_
       refine AllReadyH.cons (o := oKl722) rfl (fun K hK => ?_) AllReadyH.nil
       refine stepLdI ?_ (.tmp 67) ?_ cb 2 (tg : Nat) ?_ HX2.out.1 ?_
       iterate 3 rfl
       refine hK.out _ _ HS1.out (fun _ => ?_)
       clear hK K
       try simp only [Act.put, puA, puB, puC]
      all_goals
       refine atA [true, true, true, true, true, false, true, true, true, true, true, false, false, false, false] ?_
       refine tkA (i := 5) (oi := oKl723) HS1.out ?_
       try simp only [Act.put, puA, puB, puC]
       refine tkA (i := 11) (oi := oKl724) HS1.out ?_
       try simp only [Act.put, puA, puB, puC]
       refine tkA (i := 12) (oi := oKl725) HS1.out ?_
       try simp only [Act.put, puA, puB, puC]
       refine tkA (i := 13) (oi := oKl726) HS1.out ?_
       try simp only [Act.put, puA, puB, puC]
       refine rdA [14] ?_
       refine AllReadyH.cons (o := oKl727) rfl (fun K hK => ?_) AllReadyH.nil
       refine stepStI ?_ (.tmp 77) (.tmp 75) ?_ cb 2 (y : Int) _ ?_ ?_ HX2.out.1 HX2.out.2 ?_
       iterate 3 rfl
       ·exact congrArg (Value.int .i64) HVal.out
       refine hK.out _ _ HS2.out (fun _ => ?_)
       clear hK K
       try simp only [Act.put, puA, puB, puC]
      all_goals
       refine atA [true, true, true, true, true, true, true, true, true, true, true, true, true, true, true] ?_
       refine wpAnyH_done (by kernel_rfl) ?_ _
       refine NoPanic.normal ?_
     go_wp2
     exact bodyPost_end (v := .tuple #[]) (by simp [results, Tryz.results11, go_sem]) rfl ⟨s.ms.length, rv, rfl, .inr ⟨rfl, HN.out⟩, by rw [HEi.out]; exact PP.out.1, (CMv.ofOld U3.out.drew).trans PP.out.2⟩
    ·subst hi2
     have HI := hid (And.intro hi1 hi3)
     have HEi := hid (show heardC s q vc vn 180 i = { s with tg := i } from by rw [HE0.out, if_pos ⟨rfl, hi1⟩])
     clear HE0
     have d1 : decide ((i : Int) ≥ 0) = true := by simp
     have d2 : decide (0 ≤ (i : Int)) = true := by simp
     have PP := hid (HA3.out.setT i)
     have f2 := fz 2
     clear HR hi1 hi3 HKx x0 x1 x3 x4 x5 fz
     go_wp2
     exact bodyPost_end (v := .tuple #[]) (by simp [results, Tryz.results11, go_sem]) rfl ⟨i, rv, rfl, .inl HI.out, by rw [HEi.out]; exact PP.out.1, (CMv.ofOld U3.out).trans PP.out.2⟩
   ·have d3 : (e == 180) = false := by simp [h180]
    by_cases h181 : e = 181
    ·subst h181
     have HEi := hid (fun (k : Nat) => show heardC s q vc vn 181 k = s from by rw [HE0.out, if_neg (fun c => by have := c.1; omega), if_pos rfl])
     clear HE0
     clear HR x0 x1 x2 x3 x4 x5 fz h180
     go_wp2
     exact bodyPost_end (v := .tuple #[]) (by simp [results, Tryz.results11, go_sem]) rfl (by obtain ⟨k, hk⟩ := HKx.out; exact ⟨k, rv, rfl, hk, by rw [HEi.out]; exact HA3.out, CMv.ofOld U3.out⟩)
    ·have d4 : (e != 181) = true := by simp [h181]
     have HEi := hid (fun (k : Nat) => show heardC s q vc vn e k = { s with tg := (s.tg + 1) % s.ms.length } from by rw [HE0.out, if_neg (fun c => h180 c.1), if_neg h181])
     clear HE0
     clear HR x0 x3 x4 x5 fz h180 h181
     go_upto_region 10 with fail
     obtain ⟨ga, gc, hmv⟩ := HA3.out.mem.len
     obtain ⟨mn, hmn⟩ : ∃ n, s.ms.length = n := ⟨_, rfl⟩
     obtain ⟨y, hy⟩ : ∃ y, (s.tg + 1) % s.ms.length = y := ⟨_, rfl⟩
     have ht := HTg.out
     have h7 := HM7.out
     rw [hmn] at hmv ht h7
     rw [hmv] at x1
     have HX2 := hid (show w3.drew.cell? ⟨cb, 2, none⟩ = some (.int .i64 (s.tg : Nat)) ∧ w3.drew.frozen? ⟨cb, 2, none⟩ = false from ⟨(box6 (((Old.refl w3).drew).block HA3.out.blk)).1.2.2.1, (box6 (((Old.refl w3).drew).block HA3.out.blk)).2 2⟩)
     have HS1 := hid (show w3.drew.cell? ⟨cb, 1, none⟩ = some (.slice ga mn gc) from ((Old.refl w3).drew).keep x1)
     have PP := hid ((HA3.out.old ((Old.refl w3).drew)).setT y)
     have HS2 := hid (show (w3.drew.setCell ⟨cb, 2, none⟩ (.int .i64 (y : Int))).cell? ⟨cb, 1, none⟩ = some (.slice ga mn gc) from hmv ▸ (box6 PP.out.1.blk).1.2.1)
     have HVal := hid (show ((s.tg : Int) + 1).tmod (mn : Int) = (y : Int) from by rw [Int.tmod_eq_emod_of_nonneg (by omega), ← hy, hmn]; push_cast; rfl)
     rw [hy] at HEi
     obtain ⟨tg, htg⟩ : ∃ tg, s.tg = tg := ⟨_, rfl⟩
     rw [htg] at ht HX2 HVal x2
     have l1 : IntKind.i64.wrap ((tg : Int) + 1) = (tg : Int) + 1 := IntWalk.i64_in _ (by omega)
     have l2 : ((mn : Int) == 0) = false := by simp; omega
     have l3 : ¬ mn = 0 := by omega
     clear hmv x1 x2 hmn hy ht h7 htg
     focus
      refine wp_region_noPanic ?_
      refine wp_region_held_drew (S := fun wz => wz.cell? ⟨cb, 1, none⟩ = some (.slice ga mn gc)) (by kernel_rfl) ?_ (fun hHeld => ?_)
      ·exact HS1.out
      try simp only [Act.put, puA, puB, puC]
      clear hHeld
      all_goals
       refine atA [false, false, false, false, false, false, false, false, false, false, false, false, false, false, false] ?_
       refine tkA (i := 0) (oi := oKl713) HS1.out ?_
       try simp only [Act.put, puA, puB, puC]
       refine tkA (i := 1) (oi := oKl714) HS1.out ?_
       try simp only [Act.put, puA, puB, puC]
       refine tkA (i := 2) (oi := oKl715) HS1.out ?_
       try simp only [Act.put, puA, puB, puC]
       refine tkA (i := 3) (oi := oKl716) HS1.out ?_
       try simp only [Act.put, puA, puB, puC]
       refine tkA (i := 6) (oi := oKl717) HS1.out ?_
       try simp only [Act.put, puA, puB, puC]
       refine tkA (i := 7) (oi := oKl718) HS1.out ?_
       try simp only [Act.put, puA, puB, puC]
       refine tkA (i := 8) (oi := oKl719) HS1.out ?_
       try simp only [Act.put, puA, puB, puC]
       refine tkA (i := 9) (oi := oKl720) HS1.out ?_
       try simp only [Act.put, puA, puB, puC]
       refine tkA (i := 10) (oi := oKl721) HS1.out ?_
       try simp only [Act.put, puA, puB, puC]
       refine rdA [4] ?_
       refine AllReadyH.cons (o := oKl722) rfl (fun K hK => ?_) AllReadyH.nil
       refine stepLdI ?_ (.tmp 67) ?_ cb 2 (tg : Nat) ?_ HX2.out.1 ?_
       iterate 3 rfl
       refine hK.out _ _ HS1.out (fun _ => ?_)
       clear hK K
       try simp only [Act.put, puA, puB, puC]
      all_goals
       refine atA [true, true, true, true, true, false, true, true, true, true, true, false, false, false, false] ?_
       refine tkA (i := 5) (oi := oKl723) HS1.out ?_
       try simp only [Act.put, puA, puB, puC]
       refine tkA (i := 11) (oi := oKl724) HS1.out ?_
       try simp only [Act.put, puA, puB, puC]
       refine tkA (i := 12) (oi := oKl725) HS1.out ?_
       try simp only [Act.put, puA, puB, puC]
       refine tkA (i := 13) (oi := oKl726) HS1.out ?_
       try simp only [Act.put, puA, puB, puC]
       refine rdA [14] ?_
       refine AllReadyH.cons (o := oKl727) rfl (fun K hK => ?_) AllReadyH.nil
       refine stepStI ?_ (.tmp 77) (.tmp 75) ?_ cb 2 (y : Int) _ ?_ ?_ HX2.out.1 HX2.out.2 ?_
       iterate 3 rfl
       ·exact congrArg (Value.int .i64) HVal.out
       refine hK.out _ _ HS2.out (fun _ => ?_)
       clear hK K
       try simp only [Act.put, puA, puB, puC]
      all_goals
       refine atA [true, true, true, true, true, true, true, true, true, true, true, true, true, true, true] ?_
       refine wpAnyH_done (by kernel_rfl) ?_ _
       refine NoPanic.normal ?_
     go_wp2
     exact bodyPost_end (v := .tuple #[]) (by simp [results, Tryz.results11, go_sem]) rfl (by obtain ⟨k, hk⟩ := HKx.out; exact ⟨k, rv, rfl, hk, by rw [HEi.out]; exact PP.out.1, (CMv.ofOld U3.out.drew).trans PP.out.2⟩)
end Go.Proofs.YthjfkmjeppdcnaaGreat
