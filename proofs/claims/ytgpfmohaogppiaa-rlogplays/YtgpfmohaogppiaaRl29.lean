/- A log and the document's log beside each other, plainly; conditions: both lie in memory. -/
import Derived.Test.YtgpfmohaogppiaaRl28
namespace Go.Proofs.Ytgpfmohaogppiaa
open Go.RowKit Go.Lib
set_option linter.unusedVariables false
set_option linter.unusedSimpArgs false
set_option maxRecDepth 20000
theorem ERow.lt {w : World} {v : Value} {X : List En} (h : ERow w v X) (h0 : 0 < X.length) (g : Nat) (e : v.ownBlock = some g) : g < w.heap.size := by
  obtain ⟨-, ⟨p, c, rfl, -, -, q⟩, -⟩ := h
  obtain ⟨g', off, rfl, q1⟩ := q 0 h0
  cases e
  exact World.block_lt_of_cell? w _ q1.1
theorem NRowL.lt {w : World} {v : Value} {n : Nat} {f : Nat → Int} (h : NRowL w v n f) (h0 : 0 < n) (g : Nat) (e : v.ownBlock = some g) : g < w.heap.size := by
  obtain ⟨-, p, c, rfl, -, -, q⟩ := h
  obtain ⟨g', off, rfl, q1⟩ := q 0 h0
  cases e
  exact World.block_lt_of_cell? w _ q1
theorem NRowL.chg0 {S : List Nat} {w w' : World} {v : Value} {n : Nat} {f : Nat → Int} (h : NRowL w v n f) (u : Chg S w w') (hn : 0 < n → ∀ g, v.ownBlock = some g → g ∉ S) : NRowL w' v n f := by
  rcases Nat.eq_zero_or_pos n with h0 | h0
  · obtain ⟨a1, p, c, e, h1, h2, hc⟩ := h
    exact ⟨a1, p, c, e, h1, h2, fun i hi => by omega⟩
  · exact h.chg u (hn h0)
theorem own_any (p : Option Addr) (n c m d : Nat) : (Value.slice p n c).ownBlock = (Value.slice p m d).ownBlock := by cases p <;> rfl
/-- The document's log lies apart from some blocks. -/
def DFar (P : PL) (D : Dg) (S : List Nat) : Prop := Far D.ve D.X S ∧ (0 < P.a.length → ∀ g, (D.v1 P).ownBlock = some g → g ∉ S) ∧ (0 < P.b.length → ∀ g, (D.v2 P).ownBlock = some g → g ∉ S)
theorem DocP.chg {S : List Nat} {P : PL} {D : Dg} {w w' : World} (h : DocP P D w) (u : Chg S w w') (f : DFar P D S) : DocP P D w' := ⟨h.e.chg u f.1, h.x, h.a.chg0 u f.2.1, h.b.chg0 u f.2.2, h.ok⟩
theorem DFar.or {P : PL} {D : Dg} {S S' : List Nat} {w : World} (f : DFar P D S) (d : DocP P D w) (h : ∀ k ∈ S', k ∈ S ∨ w.heap.size ≤ k) : DFar P D S' := by
  refine ⟨⟨fun h0 g e q => ?_, fun x hx h0 g e q => ?_⟩, fun h0 g e q => ?_, fun h0 g e q => ?_⟩
  · rcases h g q with z | z
    · exact f.1.1 h0 g e z
    · have := d.e.lt h0 g e; omega
  · rcases h g q with z | z
    · exact f.1.2 x hx h0 g e z
    · have := (d.e.2.2 x hx).lt h0 g e; omega
  · rcases h g q with z | z
    · exact f.2.1 h0 g e z
    · have := d.a.lt h0 g e; omega
  · rcases h g q with z | z
    · exact f.2.2 h0 g e z
    · have := d.b.lt h0 g e; omega
theorem DFar.step {P P' : PL} {D D' : Dg} {E : List En} {S : List Nat} {w : World} (f : DFar P D S) (k : Keeps P P' D D' E w) (hS : ∀ k ∈ S, k < w.heap.size) (hE : ∀ x ∈ E, 0 < x.d.length → ∀ g, x.s.ownBlock = some g → g ∉ S) : DFar P' D' S := by
  refine ⟨⟨fun h0 g e q => ?_, fun x hx h0 g e q => ?_⟩, fun h0 g e q => ?_, fun h0 g e q => ?_⟩
  · rcases k.e with ⟨e1, e2⟩ | z
    · refine f.1.1 (by rw [← e2]; exact h0) g ?_ q
      unfold Dg.ve at e ⊢
      rw [e1] at e
      rw [own_any D.p _ _ D'.X.length D'.c]; exact e
    · have := z _ g e; have := hS g q; omega
  · rcases k.x x hx with z | z
    · exact f.1.2 x z h0 g e q
    · exact hE x z h0 g e q
  · rcases k.a with ⟨e1, e2, e3⟩ | z
    · refine f.2.1 (by rw [← e1]; exact h0) g ?_ q
      unfold Dg.v1 at e ⊢
      rw [e2] at e
      rw [own_any D.p1 _ _ P'.a.length D'.c1]; exact e
    · have := z _ g e; have := hS g q; omega
  · rcases k.b with ⟨e1, e2, e3⟩ | z
    · refine f.2.2 (by rw [← e1]; exact h0) g ?_ q
      unfold Dg.v2 at e ⊢
      rw [e2] at e
      rw [own_any D.p2 _ _ P'.b.length D'.c2]; exact e
    · have := z _ g e; have := hS g q; omega
def MTy (w : World) (k : Nat) : Prop := ∃ cur, w.heap[k]? = some (.cells cur 54 (0, 0))
theorem Own.offM {w : World} {v : Value} {d : List Nat} (h : Own w v d) (g : Nat) (e : v.ownBlock = some g) : ¬ MTy w g := by
  rintro ⟨cur, h1⟩
  rcases h.cases with ⟨rfl, _⟩ | ⟨g', cap, cur', rfl, h3, _⟩
  · cases e
  · cases e
    exact ty_ne h1 h3 (by decide) rfl
theorem OwnI.offM {base : Nat} {w : World} {v : Value} {d : List Int} (h : OwnI base w v d) (g : Nat) (e : v.ownBlock = some g) : ¬ MTy w g := by
  rintro ⟨cur, h1⟩
  rcases h.2 with ⟨rfl, _⟩ | ⟨g', cap, cur', rfl, _, h3, _⟩
  · cases e
  · cases e
    exact ty_ne h1 h3 (by decide) rfl
theorem mty_not {base lb : Nat} {G : Lg} {w : World} (h : LogM base lb G w) {k : Nat} (m : MTy w k) : k ∉ mbl lb G := fun q => by
  obtain ⟨cur, h1⟩ := m
  obtain ⟨cur2, T, h2, h3⟩ := h.ty k q
  rw [h1] at h2
  cases h2
  rcases h3 with q | q | q <;> exact absurd q (by decide)
/-- A log stays where the document's is written. -/
theorem LogM.box {base lb : Nat} {G : Lg} {w w' : World} {mb : Nat} (h : LogM base lb G w) (c : Chg [mb] w w') (m : MTy w mb) : LogM base lb G w' := by
  have hn : ∀ k ∈ mbl lb G, k ∉ [mb] := fun k hk q => by simp at q; subst q; exact mty_not h m hk
  exact ⟨c.heapAt h.bx (hn _ (mem_mbl.2 (.inl rfl))), h.bb, h.oe.chg c (fun g e => hn _ (mem_mbl.2 (.inr (.inl e)))), h.oc.chg c (fun g e => hn _ (mem_mbl.2 (.inr (.inr e)))),
   fun x hx => (h.de x hx).chg c (fun g e q => by simp at q; subst q; exact (h.de x hx).offM g e m),
   fun y hy => ⟨(h.dc y hy).1.chg c (fun g e q => by simp at q; subst q; exact (h.dc y hy).1.offM g e m), (h.dc y hy).2.chg c (fun g e q => by simp at q; subst q; exact (h.dc y hy).2.offM g e m)⟩⟩
/-- A log and the document's log beside each other. -/
structure Both (W0 : World) (lb mb : Nat) (G : Lg) (P : PL) (D : Dg) (w : World) : Prop where
  l : LogP W0.heap.size lb G P w
  d : DocP P D w
  b : w.heap[mb]? = some (.cells #[.int .i64 P.ix, .int .i64 P.tm, D.v1 P, D.v2 P, D.ve] 54 (0, 0))
  f : DFar P D (mb :: mbl lb G)
  u : Old W0 w
  m : W0.heap.size ≤ mb
theorem Both.old {W0 : World} {lb mb : Nat} {G : Lg} {P : PL} {D : Dg} {w w' : World} (h : Both W0 lb mb G P D w) (u : Old w w') : Both W0 lb mb G P D w' := ⟨h.l.old u, h.d.old u, u.block h.b, h.f, h.u.trans u, h.m⟩
theorem Both.log {W0 : World} {lb mb : Nat} {G : Lg} {P : PL} {D : Dg} {w w1 : World} (h : Both W0 lb mb G P D w) {G' : Lg} (m : Mov lb w G w1 G') : DocP P D w1 ∧ w1.heap[mb]? = some (.cells #[.int .i64 P.ix, .int .i64 P.tm, D.v1 P, D.v2 P, D.ve] 54 (0, 0)) ∧ Old W0 w1 ∧ DFar P D (mb :: mbl lb G') := by
  refine ⟨h.d.chg m.1 (h.f.or h.d (fun k hk => .inl (List.mem_cons_of_mem _ hk))), m.1.heapAt h.b (mty_not h.l.m ⟨_, h.b⟩), Mov.keep h.u h.l m, h.f.or h.d (fun k hk => ?_)⟩
  rcases List.mem_cons.1 hk with rfl | q
  · exact .inl (by simp)
  · rcases m.2 k q with z | z
    · exact .inl (List.mem_cons_of_mem _ z)
    · exact .inr z
theorem Both.step {W0 : World} {lb mb : Nat} {G : Lg} {P : PL} {D : Dg} {w w1 : World} (h : Both W0 lb mb G P D w) {G' : Lg} {P' : PL} (l1 : LogP W0.heap.size lb G' P' w1) (m : Mov lb w G w1 G') {D' : Dg} {E : List En} {w2 : World} (d2 : DocP P' D' w2) (o2 : Old w1 w2) (k : Keeps P P' D D' E w1) (hE : ∀ x ∈ E, 0 < x.d.length → ∀ g, x.s.ownBlock = some g → g < W0.heap.size) :
    Both W0 lb mb G' P' D' (((((w2.setCell ⟨mb, 0, none⟩ (.int .i64 P'.ix)).setCell ⟨mb, 1, none⟩ (.int .i64 P'.tm)).setCell ⟨mb, 2, none⟩ (D'.v1 P')).setCell ⟨mb, 3, none⟩ (D'.v2 P')).setCell ⟨mb, 4, none⟩ D'.ve) := by
  obtain ⟨q1, q2, q3, q4⟩ := h.log m
  have b2 := o2.block q2
  have c := Chg.set5 (S := [mb]) w2 mb (by simp) (.int .i64 P'.ix) (.int .i64 P'.tm) (D'.v1 P') (D'.v2 P') D'.ve
  have f2 : DFar P' D' (mb :: mbl lb G') := q4.step k (fun x hx => ?_) (fun x hx h0 g e q => ?_)
  · exact ⟨⟨(l1.m.old o2).box c ⟨_, b2⟩, l1.is, l1.ok⟩, d2.chg c (f2.or d2 (fun k hk => .inl (by simp at hk; simp [hk]))), box5_set b2, f2, (q3.trans o2).set5 h.m, h.m⟩
  · rcases List.mem_cons.1 hx with rfl | q
    · exact heap_lt q2
    · exact (l1.m.lt x q).2
  · have h1 := hE x hx h0 g e
    have h2 := h.m
    rcases List.mem_cons.1 q with rfl | q
    · omega
    · have := (l1.m.lt g q).1; omega
end Go.Proofs.Ytgpfmohaogppiaa
