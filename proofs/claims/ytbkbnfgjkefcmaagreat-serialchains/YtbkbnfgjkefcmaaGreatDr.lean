/- Spans in new variables: a store of a span, a variable of one, a call of one argument as a step of a region that draws; what two new variables hold; conditions: the variables lie in memory. -/
import Derived.Test.YtbkbnfgjkefcmaaGreatSb
import Derived.Deep.MidRow
import Derived.Deep.RegionHeld3
import Derived.Deep.DeepCutAuto
namespace Go.Proofs.YtbkbnfgjkefcmaaGreat
open Go.RowKit
set_option linter.unusedVariables false
theorem Up.setCells {a : World} {b : Nat} (hb : a.heap.size ≤ b) : ∀ (vs : List Value) (o : Nat) {w : World}, Up a w → Up a (w.setCells b o vs)
  | [], _, _, h => h
  | v :: r, o, _, h => by rw [World.setCells]; exact Up.setCells hb r (o + 1) (h.setCell hb v)
abbrev spanRow (a b : Nat) (p q : Bool) : List Value := [.float .f64 a, .float .f64 b, .bool p, .bool q]
theorem SpAt.some {m a b : Nat} {p q : Bool} {w : World} (h : SpAt m a b p q w) : ∀ j, j < 4 → (w.cell? ⟨m, 0 + j, none⟩).isSome = true := by
  intro j hj
  rw [Nat.zero_add]
  match j, hj with
  | 0, _ => rw [h.1]; rfl
  | 1, _ => rw [h.2.1]; rfl
  | 2, _ => rw [h.2.2.1]; rfl
  | 3, _ => rw [h.2.2.2]; rfl
theorem SpAt.stored {m a b : Nat} {p q : Bool} {w : World} (h : SpAt m a b p q w) (x y : Nat) (r s : Bool) : SpAt m x y r s (w.setCells m 0 (spanRow x y r s)) := by
  have H := World.cell?_setCells_in m (spanRow x y r s) 0 w h.some
  exact ⟨by simpa using H 0 (by simp), by simpa using H 1 (by simp), by simpa using H 2 (by simp), by simpa using H 3 (by simp)⟩
theorem SpAt.far {m n a b : Nat} {p q : Bool} {w : World} (h : SpAt n a b p q w) (hn : n ≠ m) (vs : List Value) (o : Nat) : SpAt n a b p q (w.setCells m o vs) := by
  have H : ∀ k, (w.setCells m o vs).cell? ⟨n, k, none⟩ = w.cell? ⟨n, k, none⟩ := fun k => World.cell?_setCells_out m vs o w ⟨n, k, none⟩ (fun e => absurd e hn)
  exact ⟨by rw [H]; exact h.1, by rw [H]; exact h.2.1, by rw [H]; exact h.2.2.1, by rw [H]; exact h.2.2.2⟩
theorem FrAt.set {m n o : Nat} {w : World} (h : FrAt n w) (vs : List Value) : FrAt n (w.setCells m o vs) := by
  simp only [FrAt, World.frozen?_setCells]; exact h
theorem SpAt.there {m a b : Nat} {p q : Bool} {w : World} (h : SpAt m a b p q w) (f : FrAt m w) : w.there m 0 4 := by
  intro j hj
  refine ⟨h.some j hj, ?_⟩
  rw [Nat.zero_add]
  match j, hj with
  | 0, _ => exact f.1
  | 1, _ => exact f.2.1
  | 2, _ => exact f.2.2.1
  | 3, _ => exact f.2.2.2
theorem infoSpan : (Tryz.prog.info? 67).map (·.size) = some 4 := by kernel_rfl
/-- A call of a Go function of one argument that returns, as one step of a region that draws. -/
theorem stepCall1 {P : Program} {ops : Array Oper} {o : Oper} {a : Act} {w : World} {K : Act → World → Prop} {Q : Exit → Act → World → Prop} {E : Prop} (hg : o.guard = none) (F : FuncId) (x : Operand) (ts : Array TypeId)
    (hop : o.op = Op.call { callee := Callee.value (Operand.func F), args := #[x], argTypes := ts }) (v : Value) (hx : a.eval x = v) (hF : a.eval (Operand.func F) = .func (.func F) #[] #[])
    (henter : (callFunc F #[v]).run P w = .ok (.enter F #[v]) w)
    (hc : Calls P F #[v] w fun e w' => ∃ r, e = .returned r ∧ K (a.put o.dst r) w') :
    if Region.wanted o (yielded ops a.tmps) = true then Oper.wp P o a w K Q else E := by
  have hw : Region.wanted o (yielded ops a.tmps) = true := by simp [Region.wanted, hg]
  rw [if_pos hw]
  unfold Oper.wp
  simp [execOp, hop, resolve, invoke, hx, hF, Deferred.ofValue]
  rw [henter]
  refine hc.mono ?_
  rintro e w' ⟨r, rfl, hk⟩
  exact hk
/-- A new variable of a span. -/
theorem stepAlloc {ops : Array Oper} {o : Oper} {a : Act} {w : World} {K : Act → World → Prop} {Q : Exit → Act → World → Prop} {E : Prop} (hg : o.guard = none) (hop : o.op = Op.alloc 67)
    (hK : ∀ m w', m = w.heap.size → w' = w.alloc (.cells #[.float .f64 0, .float .f64 0, .bool false, .bool false] 67) → K (a.put o.dst (.pointer (some ⟨m, 0, none⟩))) w') :
    if Region.wanted o (yielded ops a.tmps) = true then Oper.wp Tryz.prog o a w K Q else E := by
  have hw : Region.wanted o (yielded ops a.tmps) = true := by simp [Region.wanted, hg]
  rw [if_pos hw]
  obtain ⟨d, p, t, ps, af, gd⟩ := o
  subst hop
  go_simp
  exact hK _ _ rfl rfl
/-- A span is stored into a variable. -/
theorem stepStore {ops : Array Oper} {o : Oper} {a : Act} {w : World} {K : Act → World → Prop} {Q : Exit → Act → World → Prop} {E : Prop} (hg : o.guard = none) (x y : Operand) (hop : o.op = Op.store 67 x y) (m u v : Nat) (r s : Bool)
    (hx : a.eval x = .pointer (some ⟨m, 0, none⟩)) (hy : a.eval y = .agg #[.float .f64 u, .float .f64 v, .bool r, .bool s]) (ht : w.there m 0 4)
    (hK : K (a.put o.dst undef) (w.setCells m 0 (spanRow u v r s))) :
    if Region.wanted o (yielded ops a.tmps) = true then Oper.wp Tryz.prog o a w K Q else E := by
  have hw : Region.wanted o (yielded ops a.tmps) = true := by simp [Region.wanted, hg]
  rw [if_pos hw]
  exact wp_store_mid _ x y hop m 0 _ hx hy ht infoSpan (by simp [Value.oneCell']) hK
/-- Which of two new variables are there. -/
def J2 (w0 : World) (f g : Option Nat) (w : World) : Prop := Up w0 w ∧ (∀ m, f = some m → w0.heap.size ≤ m ∧ SpAt m 0 0 false false w ∧ FrAt m w) ∧ (∀ m, g = some m → w0.heap.size ≤ m ∧ SpAt m 0 0 false false w ∧ FrAt m w) ∧ (∀ m n, f = some m → g = some n → n ≠ m)
theorem J2.start (w0 : World) : J2 w0 none none w0.drew := ⟨(Up.refl _).drew, fun _ h => (by cases h), fun _ h => (by cases h), fun _ _ h => (by cases h)⟩
theorem J2.up {w0 : World} {f g : Option Nat} {w w' : World} (j : J2 w0 f g w) (u : Up w w') : J2 w0 f g w' :=
  ⟨j.1.trans u, fun m h => ⟨(j.2.1 m h).1, SpAt.up u (j.2.1 m h).2.1, SpAt.frUp u (j.2.1 m h).2.1 (j.2.1 m h).2.2⟩, fun m h => ⟨(j.2.2.1 m h).1, SpAt.up u (j.2.2.1 m h).2.1, SpAt.frUp u (j.2.2.1 m h).2.1 (j.2.2.1 m h).2.2⟩, j.2.2.2⟩
theorem newSpan (w : World) : SpAt w.heap.size 0 0 false false (w.alloc (.cells #[.float .f64 0, .float .f64 0, .bool false, .bool false] 67)) ∧ FrAt w.heap.size (w.alloc (.cells #[.float .f64 0, .float .f64 0, .bool false, .bool false] 67)) := by simp [SpAt, FrAt]
theorem J2.newF {w0 : World} {g : Option Nat} {w : World} (j : J2 w0 none g w) : J2 w0 (some w.heap.size) g (w.alloc (.cells #[.float .f64 0, .float .f64 0, .bool false, .bool false] 67)) := by
  have k := j.up ((Up.refl w).alloc (.cells #[.float .f64 0, .float .f64 0, .bool false, .bool false] 67))
  refine ⟨k.1, ?_, k.2.2.1, ?_⟩
  · rintro m h; cases h; exact ⟨j.1.size, newSpan w⟩
  · rintro m n h h' e; cases h; subst e; exact absurd (World.block_lt_of_cell? w _ (j.2.2.1 _ h').2.1.1) (Nat.lt_irrefl _)
theorem J2.newG {w0 : World} {f : Option Nat} {w : World} (j : J2 w0 f none w) : J2 w0 f (some w.heap.size) (w.alloc (.cells #[.float .f64 0, .float .f64 0, .bool false, .bool false] 67)) := by
  have k := j.up ((Up.refl w).alloc (.cells #[.float .f64 0, .float .f64 0, .bool false, .bool false] 67))
  refine ⟨k.1, k.2.1, ?_, ?_⟩
  · rintro m h; cases h; exact ⟨j.1.size, newSpan w⟩
  · rintro m n h h' e; cases h'; subst e; exact absurd (World.block_lt_of_cell? w _ (j.2.1 _ h).2.1.1) (Nat.lt_irrefl _)
theorem J2.nF {w0 : World} {g : Option Nat} {w w' : World} {m : Nat} (j : J2 w0 none g w) (hm : m = w.heap.size) (hw : w' = w.alloc (.cells #[.float .f64 0, .float .f64 0, .bool false, .bool false] 67)) : J2 w0 (some m) g w' := by subst hm hw; exact j.newF
theorem J2.nG {w0 : World} {f : Option Nat} {w w' : World} {m : Nat} (j : J2 w0 f none w) (hm : m = w.heap.size) (hw : w' = w.alloc (.cells #[.float .f64 0, .float .f64 0, .bool false, .bool false] 67)) : J2 w0 f (some m) w' := by subst hm hw; exact j.newG
theorem J2.thereF {w0 : World} {m : Nat} {g : Option Nat} {w : World} (j : J2 w0 (some m) g w) : w.there m 0 4 := (j.2.1 m rfl).2.1.there (j.2.1 m rfl).2.2
theorem J2.upF {w0 : World} {m : Nat} {g : Option Nat} {w : World} (j : J2 w0 (some m) g w) (vs : List Value) : Up w0 (w.setCells m 0 vs) := Up.setCells (j.2.1 m rfl).1 _ _ j.1
theorem J2.thereG {w0 : World} {m n : Nat} {w : World} (j : J2 w0 (some m) (some n) w) (vs : List Value) : (w.setCells m 0 vs).there n 0 4 := ((j.2.2.1 n rfl).2.1.far (j.2.2.2 m n rfl rfl) vs 0).there ((j.2.2.1 n rfl).2.2.set vs)
theorem J2.fin {w0 : World} {m n : Nat} {w : World} (j : J2 w0 (some m) (some n) w) (a b c d : Nat) (p q r s : Bool) :
    SpAt m a b p q ((w.setCells m 0 (spanRow a b p q)).setCells n 0 (spanRow c d r s)) ∧ SpAt n c d r s ((w.setCells m 0 (spanRow a b p q)).setCells n 0 (spanRow c d r s)) ∧ Up w0 ((w.setCells m 0 (spanRow a b p q)).setCells n 0 (spanRow c d r s)) :=
  ⟨((j.2.1 m rfl).2.1.stored a b p q).far (fun e => j.2.2.2 m n rfl rfl e.symm) _ _, ((j.2.2.1 n rfl).2.1.far (j.2.2.2 m n rfl rfl) _ _).stored c d r s, Up.setCells (j.2.2.1 n rfl).1 _ _ (j.upF _)⟩
/-- Three blocks that hold spans; the third may be written; nothing of a world has turned. -/
abbrev A3 (w0 : World) (n a b : Nat) (p q : Bool) (m c d : Nat) (r s : Bool) (k : Nat) (w : World) : Prop := (SpAt n a b p q w ∧ SpAt m c d r s w) ∧ (SpAt k 0 0 false false w ∧ FrAt k w) ∧ Up w0 w
theorem A3.up {w0 : World} {n a b : Nat} {p q : Bool} {m c d : Nat} {r s : Bool} {k : Nat} {w' : World} (h : A3 w0 n a b p q m c d r s k w0) (u : Up w0 w') : A3 w0 n a b p q m c d r s k w' := ⟨⟨SpAt.up u h.1.1, SpAt.up u h.1.2⟩, ⟨SpAt.up u h.2.1.1, SpAt.frUp u h.2.1.1 h.2.1.2⟩, u⟩
theorem enter_canonS (args : Array Value) (w : World) : (callFunc 78 args).run Tryz.prog w = .ok (.enter 78 args) w := by kernel_rfl
/-- Two numbers in a new row. -/
abbrev R2 (m u v : Nat) (w : World) : Prop := w.cell? ⟨m, 0, none⟩ = some (.float .f64 u) ∧ w.cell? ⟨m, 1, none⟩ = some (.float .f64 v)
theorem R2.up {m u v : Nat} {w w' : World} (h : R2 m u v w) (b : Up w w') : R2 m u v w' := ⟨b.keep h.1, b.keep h.2⟩
theorem R2.new {m u v : Nat} {w w' : World} (hm : m = w.heap.size) (hw : w' = w.alloc (.cells #[.float .f64 u, .float .f64 v] 43)) : R2 m u v w' ∧ Up w w' := by subst hm hw; exact ⟨by simp [R2], (Up.refl _).alloc _⟩
/-- A row of two numbers is built. -/
theorem stepBuild2 {ops : Array Oper} {o : Oper} {a : Act} {w : World} {K : Act → World → Prop} {Q : Exit → Act → World → Prop} {E : Prop} (hg : o.guard = none) (x y : Operand) (hop : o.op = Op.buildSlice 28 2 #[(0, x), (1, y)]) (u v : Nat)
    (hx : a.eval x = .float .f64 u) (hy : a.eval y = .float .f64 v)
    (hK : ∀ m w', m = w.heap.size → w' = w.alloc (.cells #[.float .f64 u, .float .f64 v] 43) → K (a.put o.dst (.slice (some ⟨m, 0, none⟩) 2 2)) w') :
    if Region.wanted o (yielded ops a.tmps) = true then Oper.wp Tryz.prog o a w K Q else E := by
  have hw : Region.wanted o (yielded ops a.tmps) = true := by simp [Region.wanted, hg]
  rw [if_pos hw]
  obtain ⟨d, p, t, ps, af, gd⟩ := o
  subst hop
  unfold Oper.wp execOp
  simp only [List.map_toArray, List.map_cons, List.map_nil, hx, hy]
  go_simp
  exact hK _ _ rfl rfl
/-- A call of a Go function of two arguments, as one step of a region that draws. -/
theorem stepCall2 {P : Program} {ops : Array Oper} {o : Oper} {a : Act} {w : World} {K : Act → World → Prop} {Q : Exit → Act → World → Prop} {E : Prop} (hg : o.guard = none) (F : FuncId) (x y : Operand) (ts : Array TypeId)
    (hop : o.op = Op.call { callee := Callee.value (Operand.func F), args := #[x, y], argTypes := ts }) (u v : Value) (hx : a.eval x = u) (hy : a.eval y = v) (hF : a.eval (Operand.func F) = .func (.func F) #[] #[])
    (henter : (callFunc F #[u, v]).run P w = .ok (.enter F #[u, v]) w)
    (hc : Calls P F #[u, v] w fun e w' => ∃ r, e = .returned r ∧ K (a.put o.dst r) w') :
    if Region.wanted o (yielded ops a.tmps) = true then Oper.wp P o a w K Q else E := by
  have hw : Region.wanted o (yielded ops a.tmps) = true := by simp [Region.wanted, hg]
  rw [if_pos hw]
  unfold Oper.wp
  simp [execOp, hop, resolve, invoke, hx, hy, hF, Deferred.ofValue]
  rw [henter]
  refine hc.mono ?_
  rintro e w' ⟨r, rfl, hk⟩
  exact hk
set_option maxHeartbeats 400000 in
set_option maxRecDepth 20000 in
theorem enter_most (args : Array Value) (w : World) : (callFunc 109 args).run Tryz.prog w = .ok (.enter 109 args) w := by kernel_rfl
set_option maxHeartbeats 400000 in
set_option maxRecDepth 20000 in
theorem enter_closed (args : Array Value) (w : World) : (callFunc 93 args).run Tryz.prog w = .ok (.enter 93 args) w := by kernel_rfl
end Go.Proofs.YtbkbnfgjkefcmaaGreat
