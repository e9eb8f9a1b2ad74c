/- Ranges of codes in new variables, as Dr for spans; calls behind a guard that is met; conditions: the variables lie in memory. -/
import Derived.Test.YtbkbnfgjkefcmaaGreatDr
import Derived.Test.YtbkbnfgjkefcmaaGreatRg
namespace Go.Proofs.YtbkbnfgjkefcmaaGreat
open Go.RowKit
set_option linter.unusedVariables false
abbrev rangeRow (l h : Nat) : List Value := [.int .u64 (l : Nat), .int .u64 (h : Nat)]
theorem RgAt.some {m a b : Nat} {w : World} (h : RgAt m a b w) : ∀ j, j < 2 → (w.cell? ⟨m, 0 + j, none⟩).isSome = true := by
  intro j hj
  rw [Nat.zero_add]
  match j, hj with
  | 0, _ => rw [h.1.1]; rfl
  | 1, _ => rw [h.1.2]; rfl
theorem RgAt.stored {m a b : Nat} {w : World} (h : RgAt m a b w) (x y : Nat) : RgAt m x y (w.setCells m 0 (rangeRow x y)) := by
  have H := World.cell?_setCells_in m (rangeRow x y) 0 w h.some
  refine ⟨⟨by simpa using H 0 (by simp), by simpa using H 1 (by simp)⟩, ?_⟩
  simp only [World.frozen?_setCells]; exact h.2
theorem RgAt.far {m n a b : Nat} {w : World} (h : RgAt n a b w) (hn : n ≠ m) (vs : List Value) (o : Nat) : RgAt n a b (w.setCells m o vs) := by
  have H : ∀ k, (w.setCells m o vs).cell? ⟨n, k, none⟩ = w.cell? ⟨n, k, none⟩ := fun k => World.cell?_setCells_out m vs o w ⟨n, k, none⟩ (fun e => absurd e hn)
  refine ⟨⟨by rw [H]; exact h.1.1, by rw [H]; exact h.1.2⟩, ?_⟩
  simp only [World.frozen?_setCells]; exact h.2
theorem RgAt.there {m a b : Nat} {w : World} (h : RgAt m a b w) : w.there m 0 2 := by
  intro j hj
  refine ⟨h.some j hj, ?_⟩
  rw [Nat.zero_add]
  match j, hj with
  | 0, _ => exact h.2.1
  | 1, _ => exact h.2.2
theorem infoRange : (Tryz.prog.info? 64).map (·.size) = some 2 := by kernel_rfl
/-- A new variable of a range. -/
theorem stepAllocR {ops : Array Oper} {o : Oper} {a : Act} {w : World} {K : Act → World → Prop} {Q : Exit → Act → World → Prop} {E : Prop} (hg : o.guard = none) (hop : o.op = Op.alloc 64)
    (hK : ∀ m w', m = w.heap.size → w' = w.alloc (.cells #[.int .u64 0, .int .u64 0] 64) → K (a.put o.dst (.pointer (some ⟨m, 0, none⟩))) w') :
    if Region.wanted o (yielded ops a.tmps) = true then Oper.wp Tryz.prog o a w K Q else E := by
  have hw : Region.wanted o (yielded ops a.tmps) = true := by simp [Region.wanted, hg]
  rw [if_pos hw]
  obtain ⟨d, p, t, ps, af, gd⟩ := o
  subst hop
  go_simp
  exact hK _ _ rfl rfl
/-- A range is stored into a variable. -/
theorem stepStoreR {ops : Array Oper} {o : Oper} {a : Act} {w : World} {K : Act → World → Prop} {Q : Exit → Act → World → Prop} {E : Prop} (hg : o.guard = none) (x y : Operand) (hop : o.op = Op.store 64 x y) (m u v : Nat)
    (hx : a.eval x = .pointer (some ⟨m, 0, none⟩)) (hy : a.eval y = .agg #[.int .u64 (u : Nat), .int .u64 (v : Nat)]) (ht : w.there m 0 2)
    (hK : K (a.put o.dst undef) (w.setCells m 0 (rangeRow u v))) :
    if Region.wanted o (yielded ops a.tmps) = true then Oper.wp Tryz.prog o a w K Q else E := by
  have hw : Region.wanted o (yielded ops a.tmps) = true := by simp [Region.wanted, hg]
  rw [if_pos hw]
  exact wp_store_mid _ x y hop m 0 _ hx hy ht infoRange (by simp [Value.oneCell']) hK
/-- Which of two new variables of ranges are there. -/
def J2r (w0 : World) (f g : Option Nat) (w : World) : Prop := Up w0 w ∧ (∀ m, f = some m → w0.heap.size ≤ m ∧ RgAt m 0 0 w) ∧ (∀ m, g = some m → w0.heap.size ≤ m ∧ RgAt m 0 0 w) ∧ (∀ m n, f = some m → g = some n → n ≠ m)
theorem J2r.start (w0 : World) : J2r w0 none none w0.drew := ⟨(Up.refl _).drew, fun _ h => (by cases h), fun _ h => (by cases h), fun _ _ h => (by cases h)⟩
theorem J2r.up {w0 : World} {f g : Option Nat} {w w' : World} (j : J2r w0 f g w) (u : Up w w') : J2r w0 f g w' :=
  ⟨j.1.trans u, fun m h => ⟨(j.2.1 m h).1, RgAt.up u (j.2.1 m h).2⟩, fun m h => ⟨(j.2.2.1 m h).1, RgAt.up u (j.2.2.1 m h).2⟩, j.2.2.2⟩
theorem newRange (w : World) : RgAt w.heap.size 0 0 (w.alloc (.cells #[.int .u64 0, .int .u64 0] 64)) := by simp [RgAt]
theorem J2r.nF {w0 : World} {g : Option Nat} {w w' : World} {m : Nat} (j : J2r w0 none g w) (hm : m = w.heap.size) (hw : w' = w.alloc (.cells #[.int .u64 0, .int .u64 0] 64)) : J2r w0 (some m) g w' := by
  subst hm hw
  have k := j.up ((Up.refl w).alloc (.cells #[.int .u64 0, .int .u64 0] 64))
  refine ⟨k.1, ?_, k.2.2.1, ?_⟩
  · rintro m h; cases h; exact ⟨j.1.size, newRange w⟩
  · rintro m n h h' e; cases h; subst e; exact absurd (World.block_lt_of_cell? w _ (j.2.2.1 _ h').2.1.1) (Nat.lt_irrefl _)
theorem J2r.nG {w0 : World} {f : Option Nat} {w w' : World} {m : Nat} (j : J2r w0 f none w) (hm : m = w.heap.size) (hw : w' = w.alloc (.cells #[.int .u64 0, .int .u64 0] 64)) : J2r w0 f (some m) w' := by
  subst hm hw
  have k := j.up ((Up.refl w).alloc (.cells #[.int .u64 0, .int .u64 0] 64))
  refine ⟨k.1, k.2.1, ?_, ?_⟩
  · rintro m h; cases h; exact ⟨j.1.size, newRange w⟩
  · rintro m n h h' e; cases h'; subst e; exact absurd (World.block_lt_of_cell? w _ (j.2.1 _ h).2.1.1) (Nat.lt_irrefl _)
theorem J2r.thereF {w0 : World} {m : Nat} {g : Option Nat} {w : World} (j : J2r w0 (some m) g w) : w.there m 0 2 := (j.2.1 m rfl).2.there
theorem J2r.upF {w0 : World} {m : Nat} {g : Option Nat} {w : World} (j : J2r w0 (some m) g w) (vs : List Value) : Up w0 (w.setCells m 0 vs) := Up.setCells (j.2.1 m rfl).1 _ _ j.1
theorem J2r.thereG {w0 : World} {m n : Nat} {w : World} (j : J2r w0 (some m) (some n) w) (vs : List Value) : (w.setCells m 0 vs).there n 0 2 := ((j.2.2.1 n rfl).2.far (j.2.2.2 m n rfl rfl) vs 0).there
theorem J2r.fin {w0 : World} {m n : Nat} {w : World} (j : J2r w0 (some m) (some n) w) (a b c d : Nat) :
    RgAt m a b ((w.setCells m 0 (rangeRow a b)).setCells n 0 (rangeRow c d)) ∧ RgAt n c d ((w.setCells m 0 (rangeRow a b)).setCells n 0 (rangeRow c d)) ∧ Up w0 ((w.setCells m 0 (rangeRow a b)).setCells n 0 (rangeRow c d)) :=
  ⟨((j.2.1 m rfl).2.stored a b).far (fun e => j.2.2.2 m n rfl rfl e.symm) _ _, ((j.2.2.1 n rfl).2.far (j.2.2.2 m n rfl rfl) _ _).stored c d, Up.setCells (j.2.2.1 n rfl).1 _ _ (j.upF _)⟩
/-- Calls that are wanted, whatever their guard. -/
theorem wantCall1 {P : Program} {ops : Array Oper} {o : Oper} {a : Act} {w : World} {K : Act → World → Prop} {Q : Exit → Act → World → Prop} {E : Prop} (hw : Region.wanted o (yielded ops a.tmps) = true) (F : FuncId) (x : Operand) (ts : Array TypeId)
    (hop : o.op = Op.call { callee := Callee.value (Operand.func F), args := #[x], argTypes := ts }) (v : Value) (hx : a.eval x = v) (hF : a.eval (Operand.func F) = .func (.func F) #[] #[])
    (henter : (callFunc F #[v]).run P w = .ok (.enter F #[v]) w)
    (hc : Calls P F #[v] w fun e w' => ∃ r, e = .returned r ∧ K (a.put o.dst r) w') :
    if Region.wanted o (yielded ops a.tmps) = true then Oper.wp P o a w K Q else E := by
  rw [if_pos hw]
  unfold Oper.wp
  simp [execOp, hop, resolve, invoke, hx, hF, Deferred.ofValue]
  rw [henter]
  refine hc.mono ?_
  rintro e w' ⟨r, rfl, hk⟩
  exact hk
theorem wantCall2 {P : Program} {ops : Array Oper} {o : Oper} {a : Act} {w : World} {K : Act → World → Prop} {Q : Exit → Act → World → Prop} {E : Prop} (hw : Region.wanted o (yielded ops a.tmps) = true) (F : FuncId) (x y : Operand) (ts : Array TypeId)
    (hop : o.op = Op.call { callee := Callee.value (Operand.func F), args := #[x, y], argTypes := ts }) (u v : Value) (hx : a.eval x = u) (hy : a.eval y = v) (hF : a.eval (Operand.func F) = .func (.func F) #[] #[])
    (henter : (callFunc F #[u, v]).run P w = .ok (.enter F #[u, v]) w)
    (hc : Calls P F #[u, v] w fun e w' => ∃ r, e = .returned r ∧ K (a.put o.dst r) w') :
    if Region.wanted o (yielded ops a.tmps) = true then Oper.wp P o a w K Q else E := by
  rw [if_pos hw]
  unfold Oper.wp
  simp [execOp, hop, resolve, invoke, hx, hy, hF, Deferred.ofValue]
  rw [henter]
  refine hc.mono ?_
  rintro e w' ⟨r, rfl, hk⟩
  exact hk
/-- Two spans. -/
abbrev B2 (n a b : Nat) (p q : Bool) (m c d : Nat) (r s : Bool) (w : World) : Prop := SpAt n a b p q w ∧ SpAt m c d r s w
theorem B2.up {n a b : Nat} {p q : Bool} {m c d : Nat} {r s : Bool} {W w' : World} (h : Up W w') (k : B2 n a b p q m c d r s W) : B2 n a b p q m c d r s w' := ⟨SpAt.up h k.1, SpAt.up h k.2⟩
/-- Two spans, three ranges. -/
abbrev B5 (n a b : Nat) (p q : Bool) (m c d : Nat) (r s : Bool) (x l1 h1 y l2 h2 z l3 h3 : Nat) (w : World) : Prop := (SpAt n a b p q w ∧ SpAt m c d r s w) ∧ RgAt x l1 h1 w ∧ RgAt y l2 h2 w ∧ RgAt z l3 h3 w
theorem B5.up {n a b : Nat} {p q : Bool} {m c d : Nat} {r s : Bool} {x l1 h1 y l2 h2 z l3 h3 : Nat} {W w' : World} (h : Up W w') (k : B5 n a b p q m c d r s x l1 h1 y l2 h2 z l3 h3 W) : B5 n a b p q m c d r s x l1 h1 y l2 h2 z l3 h3 w' := ⟨⟨SpAt.up h k.1.1, SpAt.up h k.1.2⟩, RgAt.up h k.2.1, RgAt.up h k.2.2.1, RgAt.up h k.2.2.2⟩
end Go.Proofs.YtbkbnfgjkefcmaaGreat
