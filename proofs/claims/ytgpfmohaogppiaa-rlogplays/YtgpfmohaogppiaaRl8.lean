/- What CutFrom and DropTo do to a log's rows, plainly; no condition. -/
import Derived.Test.YtgpfmohaogppiaaRl7
namespace Go.Proofs.Ytgpfmohaogppiaa
open Go.RowKit Go.Lib
set_option linter.unusedVariables false
set_option linter.unusedSimpArgs false
set_option maxRecDepth 20000
/-- clear of the last ones. -/
theorem clear_tail {P : Program} (w : World) (base : Nat) (t e : TypeId) (i : TypeInfo) (z : Value) (size : Nat) (ht : P.underlying t = some (.slice e)) (hi : P.info? e = some i) (hz : i.zero = some z) (hzs : z.cells.size = size) (hsz : 0 < size) (h1 : ∀ u ∈ z.cells.toList, u.oneCell' = true) (g off n c : Nat) (xs : List Value) (o : OwnOff base e size w (.slice (some ⟨g, off, none⟩) n c) n xs) (k : Nat) (hk : k ≤ n) (o2 : Nat) (ho : (c = k ∧ o2 = off) ∨ o2 = off + k * size) :
    ∃ W2, (Builtin.clear_ #[t] 0 #[.slice (some ⟨g, o2, none⟩) (n - k) (c - k)]).run P w = .ok (.tuple #[]) W2 ∧ OwnOff base e size W2 (.slice (some ⟨g, off, none⟩) k c) k (xs.take (k * size)) ∧ Chg [g] w W2 := by
  rcases o.2 with ⟨e1, q⟩ | ⟨g', off', cap, cur, e1, h2, h3, h4, h5, h6, h7⟩
  · cases e1
  · cases e1
    have hle : k * size + (n - k) * size = n * size := by rw [← Nat.add_mul]; congr 1; omega
    have hle2 : n * size ≤ c * size := Nat.mul_le_mul_right _ h4
    obtain ⟨zs, hl, hr⟩ := run_clearOff (P := P) w t 0 e i z size ht hi hz hzs hsz h1 g o2 (n - k) (c - k) cur h3 (fun h0 => by rcases ho with ⟨a, b⟩ | b <;> omega)
    refine ⟨_, hr, ?_⟩
    by_cases hn : n - k = 0
    · rw [if_pos hn]
      exact ⟨o.first k hk, Chg.refl _ _⟩
    · rw [if_neg hn]
      have hb : o2 = off + k * size := by rcases ho with ⟨a, b⟩ | b; omega; exact b
      subst hb
      exact ⟨(o.first k hk).behind cur h3 _ zs (by rw [hl]; omega) (Nat.le_refl _), Chg.row w g _⟩
/-- clear of the first ones. -/
theorem clear_head {P : Program} (w : World) (base : Nat) (t e : TypeId) (i : TypeInfo) (z : Value) (size : Nat) (ht : P.underlying t = some (.slice e)) (hi : P.info? e = some i) (hz : i.zero = some z) (hzs : z.cells.size = size) (hsz : 0 < size) (h1 : ∀ u ∈ z.cells.toList, u.oneCell' = true) (g off n c : Nat) (xs : List Value) (o : OwnOff base e size w (.slice (some ⟨g, off, none⟩) n c) n xs) (k : Nat) (hk : k ≤ n) (o2 : Nat) (ho : (c = k ∧ o2 = off) ∨ o2 = off + k * size) :
    ∃ W2, (Builtin.clear_ #[t] 0 #[.slice (some ⟨g, off, none⟩) k c]).run P w = .ok (.tuple #[]) W2 ∧ OwnOff base e size W2 (.slice (some ⟨g, o2, none⟩) (n - k) (c - k)) (n - k) (xs.drop (k * size)) ∧ Chg [g] w W2 := by
  rcases o.2 with ⟨e1, q⟩ | ⟨g', off', cap, cur, e1, h2, h3, h4, h5, h6, h7⟩
  · cases e1
  · cases e1
    have hle : k * size + (n - k) * size = n * size := by rw [← Nat.add_mul]; congr 1; omega
    have hle2 : n * size ≤ c * size := Nat.mul_le_mul_right _ h4
    obtain ⟨zs, hl, hr⟩ := run_clearOff (P := P) w t 0 e i z size ht hi hz hzs hsz h1 g off k c cur h3 (fun h0 => by omega)
    have hrest := o.rest k hk o2 (by rcases ho with ⟨a, b⟩ | b; exact .inl ⟨a, by omega⟩; exact .inr b)
    refine ⟨_, hr, ?_⟩
    by_cases hn : k = 0
    · rw [if_pos hn]
      exact ⟨hrest, Chg.refl _ _⟩
    · rw [if_neg hn]
      exact ⟨hrest.front cur h3 _ zs (by rw [hl]; omega) (by rcases ho with ⟨a, b⟩ | b; right; omega; left; omega), Chg.row w g _⟩
/-- The row of entries is another one. -/
theorem LogM.setE {base lb : Nat} {ix tm : Int} {es es' : List En} {cs : List Pc} {v vc : Value} {w w' : World} (h : LogM base lb ⟨ix, tm, es, cs, v, vc⟩ w) {v' : Value} (c1 : Chg v.ownBlock.toList w w') (o : OwnOff base 41 4 w' v' es'.length (ecs (es'.map En.e))) (hs : ∀ x ∈ es', x ∈ es) (hv : v'.ownBlock = v.ownBlock) :
    w'.heap[lb]? = some (.cells #[.int .i64 ix, .int .i64 tm, v, vc] 68 (0, 0)) ∧ LogM base lb ⟨ix, tm, es', cs, v', vc⟩ (w'.setCell ⟨lb, 2, none⟩ v') ∧ Mov lb w ⟨ix, tm, es, cs, v, vc⟩ (w'.setCell ⟨lb, 2, none⟩ v') ⟨ix, tm, es', cs, v', vc⟩ := by
  have t1 : ∀ k ∈ v.ownBlock.toList, k < w.heap.size → LTy w k := fun k hk _ => by
    rw [Option.mem_toList] at hk
    obtain ⟨cur, e⟩ := h.oe.ty k hk
    exact ⟨cur, _, e, .inr (.inl rfl)⟩
  have n0 : lb ∉ v.ownBlock.toList := fun q => by
    rw [Option.mem_toList] at q
    obtain ⟨cur, e⟩ := h.oe.ty lb q
    exact ty_ne h.bx e (by decide) rfl
  have n1 : ∀ k, vc.ownBlock = some k → k ∉ v.ownBlock.toList := fun k e q => by
    rw [Option.mem_toList] at q
    obtain ⟨_, e1⟩ := h.oe.ty k q
    obtain ⟨_, e2⟩ := h.oc.ty k e
    exact ty_ne e1 e2 (by decide) rfl
  have b1 := c1.heapAt h.bx n0
  have c2 : Chg [lb] w' (w'.setCell ⟨lb, 2, none⟩ v') := Chg.set (S := [lb]) w' ⟨lb, 2, none⟩ v' (by simp)
  have t2 : LTy w' lb := ⟨_, _, b1, .inl rfl⟩
  have own2 : ∀ {u : Value} {d : List Nat}, Own w u d → Own (w'.setCell ⟨lb, 2, none⟩ v') u d := fun {u d} q => by
    have q1 := q.chg c1 (fun k e z => q.off k e (t1 k z (q.lt k e)))
    exact q1.chg c2 (fun k e z => by simp at z; subst z; exact q1.off k e t2)
  have ownI2 : ∀ {u : Value} {d : List Int}, OwnI 0 w u d → OwnI 0 (w'.setCell ⟨lb, 2, none⟩ v') u d := fun {u d} q => by
    have q1 := q.chg c1 (fun k e z => q.off k e (t1 k z (q.lt k e).2))
    exact q1.chg c2 (fun k e z => by simp at z; subst z; exact q1.off k e t2)
  refine ⟨b1, ⟨Go.Joins.block_setCell b1 v' (i := 2), h.bb, ?_, ?_, fun z hz => own2 (h.de z (hs z hz)), fun z hz => ⟨ownI2 (h.dc z hz).1, ownI2 (h.dc z hz).2⟩⟩, ?_, ?_⟩
  · exact o.chg c2 (fun k e z => by
      simp at z
      subst z
      obtain ⟨_, e1⟩ := o.ty k e
      exact ty_ne b1 e1 (by decide) rfl)
  · have o1 := h.oc.chg c1 n1
    exact o1.chg c2 (fun k e z => by
      simp at z
      subst z
      obtain ⟨_, e1⟩ := o1.ty k e
      exact ty_ne b1 e1 (by decide) rfl)
  · exact (c1.mono (T := mbl lb ⟨ix, tm, es, cs, v, vc⟩) (fun k hk _ => mem_mbl.2 (.inr (.inl (Option.mem_toList.1 hk))))).trans (c2.mono (fun k hk _ => mem_mbl.2 (.inl (by simpa using hk))))
  · intro k hk
    rcases mem_mbl.1 hk with rfl | q | q
    · exact .inl (mem_mbl.2 (.inl rfl))
    · exact .inl (mem_mbl.2 (.inr (.inl (by rw [← hv]; exact q))))
    · exact .inl (mem_mbl.2 (.inr (.inr q)))
/-- The row of configurations is another one. -/
theorem LogM.setC {base lb : Nat} {ix tm : Int} {es : List En} {cs cs' : List Pc} {v vc : Value} {w w' : World} (h : LogM base lb ⟨ix, tm, es, cs, v, vc⟩ w) {v' : Value} (c1 : Chg vc.ownBlock.toList w w') (o : OwnOff base 65 3 w' v' cs'.length (pcs cs')) (hs : ∀ x ∈ cs', x ∈ cs) (hv : v'.ownBlock = vc.ownBlock) :
    w'.heap[lb]? = some (.cells #[.int .i64 ix, .int .i64 tm, v, vc] 68 (0, 0)) ∧ LogM base lb ⟨ix, tm, es, cs', v, v'⟩ (w'.setCell ⟨lb, 3, none⟩ v') ∧ Mov lb w ⟨ix, tm, es, cs, v, vc⟩ (w'.setCell ⟨lb, 3, none⟩ v') ⟨ix, tm, es, cs', v, v'⟩ := by
  have t1 : ∀ k ∈ vc.ownBlock.toList, k < w.heap.size → LTy w k := fun k hk _ => by
    rw [Option.mem_toList] at hk
    obtain ⟨cur, e⟩ := h.oc.ty k hk
    exact ⟨cur, _, e, .inr (.inr rfl)⟩
  have n0 : lb ∉ vc.ownBlock.toList := fun q => by
    rw [Option.mem_toList] at q
    obtain ⟨cur, e⟩ := h.oc.ty lb q
    exact ty_ne h.bx e (by decide) rfl
  have n1 : ∀ k, v.ownBlock = some k → k ∉ vc.ownBlock.toList := fun k e q => by
    rw [Option.mem_toList] at q
    obtain ⟨_, e1⟩ := h.oc.ty k q
    obtain ⟨_, e2⟩ := h.oe.ty k e
    exact ty_ne e1 e2 (by decide) rfl
  have b1 := c1.heapAt h.bx n0
  have c2 : Chg [lb] w' (w'.setCell ⟨lb, 3, none⟩ v') := Chg.set (S := [lb]) w' ⟨lb, 3, none⟩ v' (by simp)
  have t2 : LTy w' lb := ⟨_, _, b1, .inl rfl⟩
  have own2 : ∀ {u : Value} {d : List Nat}, Own w u d → Own (w'.setCell ⟨lb, 3, none⟩ v') u d := fun {u d} q => by
    have q1 := q.chg c1 (fun k e z => q.off k e (t1 k z (q.lt k e)))
    exact q1.chg c2 (fun k e z => by simp at z; subst z; exact q1.off k e t2)
  have ownI2 : ∀ {u : Value} {d : List Int}, OwnI 0 w u d → OwnI 0 (w'.setCell ⟨lb, 3, none⟩ v') u d := fun {u d} q => by
    have q1 := q.chg c1 (fun k e z => q.off k e (t1 k z (q.lt k e).2))
    exact q1.chg c2 (fun k e z => by simp at z; subst z; exact q1.off k e t2)
  refine ⟨b1, ⟨Go.Joins.block_setCell b1 v' (i := 3), h.bb, ?_, ?_, fun z hz => own2 (h.de z hz), fun z hz => ⟨ownI2 (h.dc z (hs z hz)).1, ownI2 (h.dc z (hs z hz)).2⟩⟩, ?_, ?_⟩
  · have o1 := h.oe.chg c1 n1
    exact o1.chg c2 (fun k e z => by
      simp at z
      subst z
      obtain ⟨_, e1⟩ := o1.ty k e
      exact ty_ne b1 e1 (by decide) rfl)
  · exact o.chg c2 (fun k e z => by
      simp at z
      subst z
      obtain ⟨_, e1⟩ := o.ty k e
      exact ty_ne b1 e1 (by decide) rfl)
  · exact (c1.mono (T := mbl lb ⟨ix, tm, es, cs, v, vc⟩) (fun k hk _ => mem_mbl.2 (.inr (.inr (Option.mem_toList.1 hk))))).trans (c2.mono (fun k hk _ => mem_mbl.2 (.inl (by simpa using hk))))
  · intro k hk
    rcases mem_mbl.1 hk with rfl | q | q
    · exact .inl (mem_mbl.2 (.inl rfl))
    · exact .inl (mem_mbl.2 (.inr (.inl q)))
    · exact .inl (mem_mbl.2 (.inr (.inr (by rw [← hv]; exact q))))
/-- The base is another one. -/
theorem LogM.setB {base lb : Nat} {ix tm : Int} {es : List En} {cs : List Pc} {v vc : Value} {w : World} (h : LogM base lb ⟨ix, tm, es, cs, v, vc⟩ w) (i2 t2 : Int) :
    LogM base lb ⟨i2, t2, es, cs, v, vc⟩ ((w.setCell ⟨lb, 0, none⟩ (.int .i64 i2)).setCell ⟨lb, 1, none⟩ (.int .i64 t2)) ∧ Mov lb w ⟨ix, tm, es, cs, v, vc⟩ ((w.setCell ⟨lb, 0, none⟩ (.int .i64 i2)).setCell ⟨lb, 1, none⟩ (.int .i64 t2)) ⟨i2, t2, es, cs, v, vc⟩ := by
  have c2 : Chg [lb] w ((w.setCell ⟨lb, 0, none⟩ (.int .i64 i2)).setCell ⟨lb, 1, none⟩ (.int .i64 t2)) := (Chg.set (S := [lb]) w ⟨lb, 0, none⟩ _ (by simp)).trans (Chg.set (S := [lb]) _ ⟨lb, 1, none⟩ _ (by simp))
  have t1 : LTy w lb := ⟨_, _, h.bx, .inl rfl⟩
  refine ⟨⟨Go.Joins.block_setCell (Go.Joins.block_setCell h.bx (.int .i64 i2) (i := 0)) (.int .i64 t2) (i := 1), h.bb, ?_, ?_, fun z hz => (h.de z hz).chg c2 (fun k e q => by simp at q; subst q; exact (h.de z hz).off k e t1), fun z hz => ⟨(h.dc z hz).1.chg c2 (fun k e q => by simp at q; subst q; exact (h.dc z hz).1.off k e t1), (h.dc z hz).2.chg c2 (fun k e q => by simp at q; subst q; exact (h.dc z hz).2.off k e t1)⟩⟩, c2.mono (fun k hk _ => mem_mbl.2 (.inl (by simpa using hk))), fun k hk => .inl hk⟩
  · exact h.oe.chg c2 (fun k e z => by
      simp at z
      subst z
      obtain ⟨_, e1⟩ := h.oe.ty k e
      exact ty_ne h.bx e1 (by decide) rfl)
  · exact h.oc.chg c2 (fun k e z => by
      simp at z
      subst z
      obtain ⟨_, e1⟩ := h.oc.ty k e
      exact ty_ne h.bx e1 (by decide) rfl)
/-- The first configuration holds from elsewhere on. -/
theorem LogM.setA {base lb : Nat} {ix tm : Int} {es : List En} {y : Pc} {cs : List Pc} {v : Value} {g off c : Nat} {w : World} (h : LogM base lb ⟨ix, tm, es, y :: cs, v, .slice (some ⟨g, off, none⟩) (cs.length + 1) c⟩ w) (x2 : Int) :
    LogM base lb ⟨ix, tm, es, { y with x := x2 } :: cs, v, .slice (some ⟨g, off, none⟩) (cs.length + 1) c⟩ (w.setCell ⟨g, off, none⟩ (.int .i64 x2)) ∧ Mov lb w ⟨ix, tm, es, y :: cs, v, .slice (some ⟨g, off, none⟩) (cs.length + 1) c⟩ (w.setCell ⟨g, off, none⟩ (.int .i64 x2)) ⟨ix, tm, es, { y with x := x2 } :: cs, v, .slice (some ⟨g, off, none⟩) (cs.length + 1) c⟩ := by
  have c2 : Chg [g] w (w.setCell ⟨g, off, none⟩ (.int .i64 x2)) := Chg.set (S := [g]) w ⟨g, off, none⟩ _ (by simp)
  rcases h.oc.2 with ⟨e1, q⟩ | ⟨g', off', cap, cur, e1, h2, h3, h4, h5, h6, h7⟩
  · cases e1
  · cases e1
    have t1 : LTy w g := ⟨_, _, h3, .inr (.inr rfl)⟩
    refine ⟨⟨c2.heapAt h.bx (fun z => by simp at z; subst z; exact ty_ne h.bx h3 (by decide) rfl), h.bb, ?_, ?_, fun z hz => (h.de z hz).chg c2 (fun k e q => by simp at q; subst q; exact (h.de z hz).off k e t1), fun z hz => ?_⟩, c2.mono (fun k hk _ => mem_mbl.2 (.inr (.inr (by simp at hk; subst hk; rfl)))), fun k hk => .inl hk⟩
    · exact h.oe.chg c2 (fun k e z => by
        simp at z
        subst z
        obtain ⟨_, e1⟩ := h.oe.ty k e
        exact ty_ne h3 e1 (by decide) rfl)
    · refine ⟨by rw [pcs_len], .inr ⟨g, off, c, cur.setIfInBounds off (.int .i64 x2), rfl, h2, Go.Joins.block_setCell h3 _ (i := off), h4, h5, by simpa using h6, ?_⟩⟩
      have hlen : off < cur.toList.length := by
        have := h.oc.1
        have h8 := congrArg List.length h7
        simp only [pcs_len, List.length_take, List.length_drop, List.length_cons] at h8
        omega
      have hd : cur.toList.drop off = cur.toList[off] :: cur.toList.drop (off + 1) := List.drop_eq_getElem_cons hlen
      rw [hd] at h7
      have e3 : (cs.length + 1) * 3 = cs.length * 3 + 2 + 1 := by omega
      rw [show (y :: cs).length * 3 = cs.length * 3 + 2 + 1 from by simp; omega] at h7
      rw [show ({ y with x := x2 } :: cs : List Pc).length * 3 = cs.length * 3 + 2 + 1 from by simp; omega]
      rw [Array.toList_setIfInBounds, List.drop_set, if_neg (by omega), Nat.sub_self, hd, List.set_cons_zero, List.take_succ_cons]
      rw [List.take_succ_cons] at h7
      have e4 : pcs (y :: cs) = .int .i64 y.x :: y.u :: y.v :: pcs cs := rfl
      rw [e4] at h7
      have e5 := (List.cons.inj h7).2
      rw [e5]
      rfl
    · rcases List.mem_cons.1 hz with rfl | q
      · have := h.dc y (by simp)
        exact ⟨this.1.chg c2 (fun k e q => by simp at q; subst q; exact this.1.off k e t1), this.2.chg c2 (fun k e q => by simp at q; subst q; exact this.2.off k e t1)⟩
      · have := h.dc z (by simp [q])
        exact ⟨this.1.chg c2 (fun k e q => by simp at q; subst q; exact this.1.off k e t1), this.2.chg c2 (fun k e q => by simp at q; subst q; exact this.2.off k e t1)⟩
theorem cnt_split {cs : List Pc} {U V : List Cf} {idx : Int} (h : cs.map Pc.pl = U ++ V) (hU : ∀ y ∈ U, y.1 ≤ idx) (hV : ∀ y ∈ V, idx < y.1) : U.length ≤ cs.length ∧ (∀ i, i < U.length → (atP cs i).x ≤ idx) ∧ ∀ i, U.length ≤ i → i < cs.length → idx < (atP cs i).x := by
  have hl := congrArg List.length h
  rw [List.length_map, List.length_append] at hl
  have key : ∀ i, i < cs.length → (U ++ V)[i]? = some (atP cs i).pl := fun i hi => by rw [← h, List.getElem?_map, List.getElem?_eq_getElem hi, atP_get cs i hi]; rfl
  refine ⟨by omega, fun i hi => ?_, fun i hi hi2 => ?_⟩
  · have := key i (by omega)
    rw [List.getElem?_append_left hi] at this
    exact hU _ (List.mem_of_getElem? this)
  · have := key i hi2
    rw [List.getElem?_append_right hi] at this
    exact hV _ (List.mem_of_getElem? this)
/-- Of the entries up to an index and those behind, and of their configurations. -/
theorem PLok.split {P : PL} (k : PLok P) (n : Nat) (hn : n ≤ P.es.length) : (∀ y ∈ (P.ix, P.a, P.b) :: cfs (P.es.take n), y.1 ≤ P.ix + n) ∧ ∀ y ∈ cfs (P.es.drop n), P.ix + n < y.1 := by
  have hf := k.fol
  rw [← List.take_append_drop n P.es, Fol.app] at hf
  have hl := Fol.len _ _ _ hf.1
  rw [List.length_take, Nat.min_eq_left hn] at hl
  constructor
  · intro y hy
    rcases List.mem_cons.1 hy with rfl | q
    · show P.ix ≤ _; omega
    · obtain ⟨x, hx, e⟩ := cfs_mem _ _ q
      have := (Fol.mem _ _ _ hf.1 x hx).2.2
      rw [e]; omega
  · intro y hy
    obtain ⟨x, hx, e⟩ := cfs_mem _ _ hy
    have := (Fol.mem _ _ _ hf.2 x hx).2.1
    rw [e]; omega
def cutN (P : PL) (index : Int) : Nat := (min (index - P.ix - 1) (P.es.length : Int)).toNat
def cutP (P : PL) (index : Int) : PL := if index ≤ P.ix then P else ⟨P.ix, P.tm, P.es.take (cutN P index), P.a, P.b⟩
def cutV (P : PL) (index : Int) : Int := if index ≤ P.ix then 1 else 0
theorem cutP_ok {P : PL} (k : PLok P) (index : Int) : PLok (cutP P index) := by
  unfold cutP
  split
  · exact k
  · have hf := k.fol
    rw [← List.take_append_drop (cutN P index) P.es, Fol.app] at hf
    exact ⟨k.i0, k.i1, k.t0, k.t1, hf.1⟩
/-- The last of some configurations. -/
def lastCf : Cf → List Cf → Cf | c, [] => c | _, x :: r => lastCf x r
def drpN (P : PL) (index : Int) : Nat := (index - P.ix).toNat
def drpB (P : PL) (index : Int) : Bool := decide (P.ix ≤ index) && decide (index ≤ P.ix + P.es.length)
def drpP (P : PL) (index : Int) : PL := if drpB P index = true then ⟨index, lstT P.tm (P.es.take (drpN P index)), P.es.drop (drpN P index), (lastCf (P.ix, P.a, P.b) (cfs (P.es.take (drpN P index)))).2.1, (lastCf (P.ix, P.a, P.b) (cfs (P.es.take (drpN P index)))).2.2⟩ else P
theorem lastCf_drop : ∀ (c : Cf) (L : List Cf) (M : List Cf), (c :: L ++ M).drop L.length = lastCf c L :: M
  | c, [], M => rfl
  | c, x :: r, M => by
    show (x :: r ++ M).drop r.length = lastCf x r :: M
    exact lastCf_drop x r M
theorem drpP_ok {P : PL} (k : PLok P) (index : Int) : PLok (drpP P index) := by
  unfold drpP
  split
  · rename_i h
    unfold drpB at h
    simp at h
    have hf := k.fol
    rw [← List.take_append_drop (drpN P index) P.es, Fol.app] at hf
    have hl := Fol.len _ _ _ hf.1
    have hb := Fol.last _ _ _ hf.1 k.i1 k.t0 k.t1
    have hn : drpN P index ≤ P.es.length := by unfold drpN; omega
    rw [List.length_take, Nat.min_eq_left hn] at hl
    have h0 := k.i0
    have h1 := k.t0
    have he : lstI P.ix (P.es.take (drpN P index)) = index := by rw [hl]; unfold drpN; omega
    rw [he] at hf hb
    exact ⟨by dsimp only; omega, by dsimp only; omega, by dsimp only; omega, by dsimp only; omega, hf.2⟩
  · exact k
end Go.Proofs.Ytgpfmohaogppiaa
