/- rlog's put at every log; conditions: the log and the entry's data lie in memory, apart. -/
import Derived.Test.YtgpfmohaogppiaaRl5
namespace Go.Proofs.Ytgpfmohaogppiaa
open Go.RowKit Go.Lib
set_option linter.unusedVariables false
set_option linter.unusedSimpArgs false
set_option maxRecDepth 20000
theorem step_appEO {ops : Array Oper} {o : Oper} {a : Act} {w : World} {K : Act → World → Prop} {Q : Exit → Act → World → Prop} {E : Prop} (hgd : o.guard = none) (s x : Operand)
    (ho : o.op = .call { callee := .builtin .append, args := #[s, x], argTypes := #[29, 29] }) (base : Nat) (v : Value) (L : List Ent) (n g : Nat) (y : Ent)
    (hs : a.eval s = v) (hx : a.eval x = .slice (some ⟨g, 0, none⟩) 1 1) (hown : OwnOff base 41 4 w v n (ecs L)) (hc : EntIn w g 0 y) (hb : n + 1 ≤ 1099511627777) (hbase : base ≤ w.heap.size)
    (h : ∀ v' w', OwnOff base 41 4 w' v' (n + 1) (ecs (L ++ [y])) → w.grownBy w' v.ownBlock → (v'.ownBlock = v.ownBlock ∨ v'.ownBlock = some w.heap.size) → K (a.put o.dst v') w') :
    if Region.wanted o (yielded ops a.tmps) = true then Oper.wp Try.prog o a w K Q else E := by
  refine step_lift1 hgd ?_
  obtain ⟨i0, hi, hz0, hz1, hz2⟩ := info_parts infoEnt
  refine wp_appOff hgd s x 29 ho base 41 i0 _ 4 48 Try.underlying29 hi hz0 hz1 hz2 rfl (by decide) v n (ecs L) hs hown ⟨g, 0, none⟩ 1 1 (ecs [y]) hx rfl ?_ (ecs_one _) (by unfold maxLen; omega) (by omega) hbase ?_
  · intro j u hj
    rw [Go.WideShapes.add_plain]
    obtain ⟨x0, x1, x2, x3⟩ := hc
    match j with
    | 0 => simp [ecs, ec] at hj; subst hj; exact x0
    | 1 => simp [ecs, ec] at hj; subst hj; exact x1
    | 2 => simp [ecs, ec] at hj; subst hj; exact x2
    | 3 => simp [ecs, ec] at hj; subst hj; exact x3
    | j + 4 => simp [ecs, ec] at hj
  · intro v' w' h1 h2 h4
    unfold wpList
    rw [ecs_app] at h1
    exact ⟨rfl, h v' w' h1 h2 h4⟩
theorem infoPlc : (Try.prog.info? 65).map (fun i => (i.zero, i.size, i.bytes)) = some (some (.agg #[.int .i64 0, .slice none 0 0, .slice none 0 0]), 3, 56) := by kernel_rfl
theorem step_appPO {ops : Array Oper} {o : Oper} {a : Act} {w : World} {K : Act → World → Prop} {Q : Exit → Act → World → Prop} {E : Prop} (hgd : o.guard = none) (s x : Operand)
    (ho : o.op = .call { callee := .builtin .append, args := #[s, x], argTypes := #[66, 66] }) (base : Nat) (v : Value) (L : List Pc) (n g : Nat) (y : Pc)
    (hs : a.eval s = v) (hx : a.eval x = .slice (some ⟨g, 0, none⟩) 1 1) (hown : OwnOff base 65 3 w v n (pcs L)) (hc : w.heap[g]? = some (.cells #[.int .i64 y.x, y.u, y.v] 65 (0, 0))) (z1 : y.u.oneCell' = true) (z2 : y.v.oneCell' = true) (hb : n + 1 ≤ 1099511627778) (hbase : base ≤ w.heap.size)
    (h : ∀ v' w', OwnOff base 65 3 w' v' (n + 1) (pcs (L ++ [y])) → w.grownBy w' v.ownBlock → (v'.ownBlock = v.ownBlock ∨ v'.ownBlock = some w.heap.size) → K (a.put o.dst v') w') :
    if Region.wanted o (yielded ops a.tmps) = true then Oper.wp Try.prog o a w K Q else E := by
  refine step_lift1 hgd ?_
  obtain ⟨i0, hi, hz0, hz1, hz2⟩ := info_parts infoPlc
  refine wp_appOff hgd s x 66 ho base 65 i0 _ 3 56 Try.underlying66 hi hz0 hz1 hz2 rfl (by decide) v n (pcs L) hs hown ⟨g, 0, none⟩ 1 1 (pcs [y]) hx rfl ?_ ?_ (by unfold maxLen; omega) (by omega) hbase ?_
  · intro j u hj
    rw [Go.WideShapes.add_plain, Nat.zero_add, Go.Joins.cell_of_block hc]
    match j with
    | 0 => simp [pcs, pcv] at hj; subst hj; rfl
    | 1 => simp [pcs, pcv] at hj; subst hj; rfl
    | 2 => simp [pcs, pcv] at hj; subst hj; rfl
    | j + 3 => simp [pcs, pcv] at hj
  · intro u hu
    simp [pcs, pcv] at hu
    rcases hu with rfl | rfl | rfl
    · rfl
    · exact z1
    · exact z2
  · intro v' w' h1 h2 h4
    unfold wpList
    rw [pcs_app] at h1
    exact ⟨rfl, h v' w' h1 h2 h4⟩
theorem stepLoadPs {ops : Array Oper} {o : Oper} {a : Act} {w : World} {K : Act → World → Prop} {Q : Exit → Act → World → Prop} {E : Prop} (hg : o.guard = none) (x : Operand) (hop : o.op = Op.load 66 x) (b j : Nat) (p : Option Addr) (n c : Nat)
    (hx : a.eval x = .pointer (some ⟨b, j, none⟩)) (hc : w.cell? ⟨b, j, none⟩ = some (.slice p n c))
    (hK : K (a.put o.dst (.slice p n c)) w) :
    if Region.wanted o (yielded ops a.tmps) = true then Oper.wp Try.prog o a w K Q else E := by
  have hw : Region.wanted o (yielded ops a.tmps) = true := by simp [Region.wanted, hg]
  rw [if_pos hw]
  obtain ⟨d, p', t, ps, af, gd⟩ := o
  subst hop
  unfold Oper.wp execOp
  simp only [hx]
  go_simp
  exact hK
theorem stepStorePs {ops : Array Oper} {o : Oper} {a : Act} {w : World} {K : Act → World → Prop} {Q : Exit → Act → World → Prop} {E : Prop} (hg : o.guard = none) (x y : Operand) (hop : o.op = Op.store 66 x y) (b j : Nat) (p : Option Addr) (n c : Nat) (u : Value)
    (hx : a.eval x = .pointer (some ⟨b, j, none⟩)) (hy : a.eval y = .slice p n c) (hc : w.cell? ⟨b, j, none⟩ = some u) (hf : w.frozen? ⟨b, j, none⟩ = false)
    (hK : K (a.put o.dst undef) (w.setCell ⟨b, j, none⟩ (.slice p n c))) :
    if Region.wanted o (yielded ops a.tmps) = true then Oper.wp Try.prog o a w K Q else E := by
  have hw : Region.wanted o (yielded ops a.tmps) = true := by simp [Region.wanted, hg]
  rw [if_pos hw]
  obtain ⟨d, p', t, ps, af, gd⟩ := o
  subst hop
  unfold Oper.wp execOp
  simp only [hx, hy]
  go_simp
  exact hK
theorem stepBuild1P {ops : Array Oper} {o : Oper} {a : Act} {w : World} {K : Act → World → Prop} {Q : Exit → Act → World → Prop} {E : Prop} (hg : o.guard = none) (x : Operand) (hop : o.op = Op.buildSlice 66 1 #[(0, x)]) (i : Int) (p1 p2 : Option Addr) (n1 c1 n2 c2 : Nat)
    (hx : a.eval x = .agg #[.int .i64 i, .slice p1 n1 c1, .slice p2 n2 c2])
    (hK : ∀ m w', m = w.heap.size → w' = w.alloc (.cells #[.int .i64 i, .slice p1 n1 c1, .slice p2 n2 c2] 65) → K (a.put o.dst (.slice (some ⟨m, 0, none⟩) 1 1)) w') :
    if Region.wanted o (yielded ops a.tmps) = true then Oper.wp Try.prog o a w K Q else E := by
  have hw : Region.wanted o (yielded ops a.tmps) = true := by simp [Region.wanted, hg]
  rw [if_pos hw]
  obtain ⟨d, p', t, ps, af, gd⟩ := o
  subst hop
  unfold Oper.wp execOp
  simp only [List.map_toArray, List.map_cons, List.map_nil, hx]
  go_simp
  exact hK _ _ rfl rfl
theorem riK_len (f : Nat → Int) : ∀ n, riK f n = true → (n : Int) ≤ lastK f n ∧ lastK f n ≤ 7
  | 0, _ => ⟨by simp [lastK], by simp [lastK]⟩
  | k + 1, h => by
    unfold riK at h
    simp at h
    obtain ⟨h1, h2, h3⟩ := h
    have := riK_len f k h1
    show ((k + 1 : Nat) : Int) ≤ f k ∧ f k ≤ 7
    push_cast
    omega
theorem ldConf_small {d : List Nat} {a b : List Int} (h : ldConf d = some (a, b)) : a.length ≤ 7 ∧ b.length ≤ 7 := by
  unfold ldConf at h
  split at h
  · rename_i a' b' e
    cases h
    unfold tkConf at e
    split at e
    · cases e
    · split at e
      · cases e
      · split at e
        · rename_i hr
          cases e
          unfold rightL rightB at hr
          simp at hr
          have h1 := riK_len _ _ hr.2.1
          have h2 := riK_len _ _ hr.2.2.1
          omega
        · cases e
  · cases h
theorem Chg.grown2 {w w' : World} {row : Option Nat} (g : w.grownBy w' row) : Chg row.toList w w' := ⟨g.os, g.tape, g.output, g.size, fun k hk hn => g.block k hk (fun e => hn (by rw [← e]; simp))⟩
/-- What of memory may have turned, and where a log lies now. -/
def Mov (lb : Nat) (w : World) (G : Lg) (w' : World) (G' : Lg) : Prop := Chg (mbl lb G) w w' ∧ ∀ k ∈ mbl lb G', k ∈ mbl lb G ∨ w.heap.size ≤ k
theorem Mov.trans {lb : Nat} {w w1 w2 : World} {G G1 G2 : Lg} (h : Mov lb w G w1 G1) (k : Mov lb w1 G1 w2 G2) : Mov lb w G w2 G2 := by
  have hs := h.1.size
  refine ⟨⟨k.1.os.trans h.1.os, k.1.tape.trans h.1.tape, k.1.output.trans h.1.output, Nat.le_trans hs k.1.size, fun i hi hn => ?_⟩, fun j hj => ?_⟩
  · rw [k.1.block i (by omega) (fun q => ?_), h.1.block i hi hn]
    rcases h.2 i q with z | z
    · exact hn z
    · omega
  · rcases k.2 j hj with z | z
    · exact h.2 j z
    · right; omega
theorem Mov.old {lb : Nat} {w w1 : World} {G : Lg} (u : Old w w1) : Mov lb w G w1 G := ⟨Chg.ofOld u, fun k h => .inl h⟩
theorem Mov.refl (lb : Nat) (w : World) (G : Lg) : Mov lb w G w G := Mov.old (Old.refl w)
theorem ty_ne {w : World} {a b : Nat} {c1 c2 : Array Value} {S T : TypeId} (h1 : w.heap[a]? = some (.cells c1 S (0, 0))) (h2 : w.heap[b]? = some (.cells c2 T (0, 0))) (h : S ≠ T) : a ≠ b := fun e => by
  rw [e, h2] at h1
  cases h1
  exact h rfl
/-- An entry is put behind. -/
theorem LogM.putE {base lb : Nat} {ix tm : Int} {es : List En} {cs : List Pc} {v vc : Value} {w w' : World} (h : LogM base lb ⟨ix, tm, es, cs, v, vc⟩ w) (y : En) (hy : Own w y.s y.d) {v' : Value} (o : OwnOff base 41 4 w' v' (es.length + 1) (ecs (es.map En.e ++ [y.e]))) (g : w.grownBy w' v.ownBlock) (hv : v'.ownBlock = v.ownBlock ∨ v'.ownBlock = some w.heap.size) :
    w'.heap[lb]? = some (.cells #[.int .i64 ix, .int .i64 tm, v, vc] 68 (0, 0)) ∧ LogM base lb ⟨ix, tm, es ++ [y], cs, v', vc⟩ (w'.setCell ⟨lb, 2, none⟩ v') ∧ Mov lb w ⟨ix, tm, es, cs, v, vc⟩ (w'.setCell ⟨lb, 2, none⟩ v') ⟨ix, tm, es ++ [y], cs, v', vc⟩ := by
  have c1 := Chg.grown2 g
  have t1 : ∀ k ∈ v.ownBlock.toList, k < w.heap.size → LTy w k := fun k hk _ => by
    rw [Option.mem_toList] at hk
    obtain ⟨cur, e⟩ := h.oe.ty k hk
    exact ⟨cur, _, e, .inr (.inl rfl)⟩
  have n0 : lb ∉ v.ownBlock.toList := fun q => by
    rw [Option.mem_toList] at q
    obtain ⟨cur, e⟩ := h.oe.ty lb q
    exact ty_ne h.bx e (by decide) rfl
  have n1 : ∀ k, vc.ownBlock = some k → k ∉ v.ownBlock.toList := fun k e q => by
    rw [Option.mem_toList] at q
    obtain ⟨_, e1⟩ := h.oe.ty k q
    obtain ⟨_, e2⟩ := h.oc.ty k e
    exact ty_ne e1 e2 (by decide) rfl
  have b1 := c1.heapAt h.bx n0
  have c2 : Chg [lb] w' (w'.setCell ⟨lb, 2, none⟩ v') := Chg.set (S := [lb]) w' ⟨lb, 2, none⟩ v' (by simp)
  have t2 : LTy w' lb := ⟨_, _, b1, .inl rfl⟩
  have own2 : ∀ {u : Value} {d : List Nat}, Own w u d → Own (w'.setCell ⟨lb, 2, none⟩ v') u d := fun {u d} q => by
    have q1 := q.chg c1 (fun k e z => q.off k e (t1 k z (q.lt k e)))
    exact q1.chg c2 (fun k e z => by simp at z; subst z; exact q1.off k e t2)
  have ownI2 : ∀ {u : Value} {d : List Int}, OwnI 0 w u d → OwnI 0 (w'.setCell ⟨lb, 2, none⟩ v') u d := fun {u d} q => by
    have q1 := q.chg c1 (fun k e z => q.off k e (t1 k z (q.lt k e).2))
    exact q1.chg c2 (fun k e z => by simp at z; subst z; exact q1.off k e t2)
  refine ⟨b1, ⟨Go.Joins.block_setCell b1 v' (i := 2), h.bb, ?_, ?_, ?_, fun z hz => ⟨ownI2 (h.dc z hz).1, ownI2 (h.dc z hz).2⟩⟩, ?_, ?_⟩
  · have o2 := o.chg c2 (fun k e z => by
      simp at z
      subst z
      obtain ⟨_, e1⟩ := o.ty k e
      exact ty_ne b1 e1 (by decide) rfl)
    simpa using o2
  · have o1 := h.oc.chg c1 n1
    exact o1.chg c2 (fun k e z => by
      simp at z
      subst z
      obtain ⟨_, e1⟩ := o1.ty k e
      exact ty_ne b1 e1 (by decide) rfl)
  · intro z hz
    rcases List.mem_append.1 hz with q | q
    · exact own2 (h.de z q)
    · simp at q
      subst q
      exact own2 hy
  · exact (c1.mono (T := mbl lb ⟨ix, tm, es, cs, v, vc⟩) (fun k hk _ => mem_mbl.2 (.inr (.inl (Option.mem_toList.1 hk))))).trans (c2.mono (fun k hk _ => mem_mbl.2 (.inl (by simpa using hk))))
  · intro k hk
    rcases mem_mbl.1 hk with rfl | q | q
    · exact .inl (mem_mbl.2 (.inl rfl))
    · rcases hv with e | e
      · exact .inl (mem_mbl.2 (.inr (.inl (by rw [← e]; exact q))))
      · right
        rw [show (⟨ix, tm, es ++ [y], cs, v', vc⟩ : Lg).ve = v' from rfl, e] at q
        cases q
        exact Nat.le_refl _
    · exact .inl (mem_mbl.2 (.inr (.inr q)))
/-- A configuration is put behind. -/
theorem LogM.putC {base lb : Nat} {ix tm : Int} {es : List En} {cs : List Pc} {v vc : Value} {w w' : World} (h : LogM base lb ⟨ix, tm, es, cs, v, vc⟩ w) (y : Pc) (hy : OwnI 0 w y.u y.a ∧ OwnI 0 w y.v y.b) {v' : Value} (o : OwnOff base 65 3 w' v' (cs.length + 1) (pcs (cs ++ [y]))) (g : w.grownBy w' vc.ownBlock) (hv : v'.ownBlock = vc.ownBlock ∨ v'.ownBlock = some w.heap.size) :
    w'.heap[lb]? = some (.cells #[.int .i64 ix, .int .i64 tm, v, vc] 68 (0, 0)) ∧ LogM base lb ⟨ix, tm, es, cs ++ [y], v, v'⟩ (w'.setCell ⟨lb, 3, none⟩ v') ∧ Mov lb w ⟨ix, tm, es, cs, v, vc⟩ (w'.setCell ⟨lb, 3, none⟩ v') ⟨ix, tm, es, cs ++ [y], v, v'⟩ := by
  have c1 := Chg.grown2 g
  have t1 : ∀ k ∈ vc.ownBlock.toList, k < w.heap.size → LTy w k := fun k hk _ => by
    rw [Option.mem_toList] at hk
    obtain ⟨cur, e⟩ := h.oc.ty k hk
    exact ⟨cur, _, e, .inr (.inr rfl)⟩
  have n0 : lb ∉ vc.ownBlock.toList := fun q => by
    rw [Option.mem_toList] at q
    obtain ⟨cur, e⟩ := h.oc.ty lb q
    exact ty_ne h.bx e (by decide) rfl
  have n1 : ∀ k, v.ownBlock = some k → k ∉ vc.ownBlock.toList := fun k e q => by
    rw [Option.mem_toList] at q
    obtain ⟨_, e1⟩ := h.oc.ty k q
    obtain ⟨_, e2⟩ := h.oe.ty k e
    exact ty_ne e1 e2 (by decide) rfl
  have b1 := c1.heapAt h.bx n0
  have c2 : Chg [lb] w' (w'.setCell ⟨lb, 3, none⟩ v') := Chg.set (S := [lb]) w' ⟨lb, 3, none⟩ v' (by simp)
  have t2 : LTy w' lb := ⟨_, _, b1, .inl rfl⟩
  have own2 : ∀ {u : Value} {d : List Nat}, Own w u d → Own (w'.setCell ⟨lb, 3, none⟩ v') u d := fun {u d} q => by
    have q1 := q.chg c1 (fun k e z => q.off k e (t1 k z (q.lt k e)))
    exact q1.chg c2 (fun k e z => by simp at z; subst z; exact q1.off k e t2)
  have ownI2 : ∀ {u : Value} {d : List Int}, OwnI 0 w u d → OwnI 0 (w'.setCell ⟨lb, 3, none⟩ v') u d := fun {u d} q => by
    have q1 := q.chg c1 (fun k e z => q.off k e (t1 k z (q.lt k e).2))
    exact q1.chg c2 (fun k e z => by simp at z; subst z; exact q1.off k e t2)
  refine ⟨b1, ⟨Go.Joins.block_setCell b1 v' (i := 3), h.bb, ?_, ?_, fun z hz => own2 (h.de z hz), ?_⟩, ?_, ?_⟩
  · have o1 := h.oe.chg c1 n1
    exact o1.chg c2 (fun k e z => by
      simp at z
      subst z
      obtain ⟨_, e1⟩ := o1.ty k e
      exact ty_ne b1 e1 (by decide) rfl)
  · have o2 := o.chg c2 (fun k e z => by
      simp at z
      subst z
      obtain ⟨_, e1⟩ := o.ty k e
      exact ty_ne b1 e1 (by decide) rfl)
    simpa using o2
  · intro z hz
    rcases List.mem_append.1 hz with q | q
    · exact ⟨ownI2 (h.dc z q).1, ownI2 (h.dc z q).2⟩
    · simp at q
      subst q
      exact ⟨ownI2 hy.1, ownI2 hy.2⟩
  · exact (c1.mono (T := mbl lb ⟨ix, tm, es, cs, v, vc⟩) (fun k hk _ => mem_mbl.2 (.inr (.inr (Option.mem_toList.1 hk))))).trans (c2.mono (fun k hk _ => mem_mbl.2 (.inl (by simpa using hk))))
  · intro k hk
    rcases mem_mbl.1 hk with rfl | q | q
    · exact .inl (mem_mbl.2 (.inl rfl))
    · exact .inl (mem_mbl.2 (.inr (.inl q)))
    · rcases hv with e | e
      · exact .inl (mem_mbl.2 (.inr (.inr (by rw [← e]; exact q))))
      · right
        rw [show (⟨ix, tm, es, cs ++ [y], v, v'⟩ : Lg).vc = v' from rfl, e] at q
        cases q
        exact Nat.le_refl _
/-- What put makes of a log. -/
structure PutG (G : Lg) (i t k : Int) (d : List Nat) (G' : Lg) : Prop where
  ix : G'.ix = G.ix
  tm : G'.tm = G.tm
  es : ∃ p c, G'.es = G.es ++ [⟨i, t, k, p, c, d⟩]
  cs : ∃ N, G'.cs = G.cs ++ N ∧ N.map Pc.pl = cfOf ⟨i, t, k, none, 0, d⟩ ∧ ∀ y ∈ N, y.a.length ≤ 17592186044000 ∧ y.b.length ≤ 17592186044000
/-- The box of put's argument. -/
abbrev EBx (eb : Nat) (i t k : Int) (pa : Option Addr) (n pc : Nat) (w : World) : Prop := w.heap[eb]? = some (.cells #[.int .i64 i, .int .i64 t, .int .i64 k, .slice pa n pc] 41 (0, 0))
theorem EBx.ent {eb : Nat} {i t k : Int} {pa : Option Addr} {n pc : Nat} {w : World} (h : EBx eb i t k pa n pc w) : EntIn w eb 0 ⟨i, t, k, pa, n, pc⟩ := by
  obtain ⟨a, b, c, d, -⟩ := box4 h
  exact ⟨a, b, c, d⟩
abbrev EB4 (eb : Nat) (i t k : Int) (pa : Option Addr) (n pc : Nat) (w : World) : Prop := w.cell? ⟨eb, 0, none⟩ = some (.int .i64 i) ∧ w.cell? ⟨eb, 1, none⟩ = some (.int .i64 t) ∧ w.cell? ⟨eb, 2, none⟩ = some (.int .i64 k) ∧ w.cell? ⟨eb, 3, none⟩ = some (.slice pa n pc)
theorem EBx.c {eb : Nat} {i t k : Int} {pa : Option Addr} {n pc : Nat} {w : World} (h : EBx eb i t k pa n pc w) : EB4 eb i t k pa n pc w := by
  obtain ⟨a, b, c, d, -⟩ := box4 h
  exact ⟨a, b, c, d⟩
theorem box2 {w : World} {b : Nat} {x y : Value} {T : TypeId} (h : w.heap[b]? = some (.cells #[x, y] T (0, 0))) : w.cell? ⟨b, 0, none⟩ = some x ∧ w.cell? ⟨b, 1, none⟩ = some y :=
  ⟨by rw [Go.Joins.cell_of_block h]; rfl, by rw [Go.Joins.cell_of_block h]; rfl⟩
set_option maxHeartbeats 8000000 in
set_option maxRecDepth 20000 in
theorem rlPut_any (base lb : Nat) (G : Lg) (i t k : Int) (v : Value) (d : List Nat) (w : World) (h : LogM base lb G w) (hl : G.es.length ≤ 1099511627776) (hcl : 0 < G.cs.length ∧ G.cs.length ≤ 1099511627777) (hv : Rw w v d) (hd : d.length ≤ 2048) (hvo : 0 < d.length → ∀ g, v.ownBlock = some g → g ∉ mbl lb G) (hk : k = 2 → ∃ a b, ldConf d = some (a, b)) :
    Calls Try.prog 32 #[.pointer (some ⟨lb, 0, none⟩), .agg #[.int .i64 i, .int .i64 t, .int .i64 k, v]] w fun e w' => e = .returned (.tuple #[]) ∧ ∃ G', PutG G i t k d G' ∧ LogM base lb G' w' ∧ Mov lb w G w' G' := by
  obtain ⟨ix, tm, es, cs, ve, vc⟩ := G
  obtain ⟨pv, cv, eve, -⟩ := h.oe.len
  dsimp only at eve
  subst eve
  obtain ⟨qv, dv, evc, -⟩ := h.oc.len
  dsimp only at evc
  subst evc
  dsimp only at hl hcl
  obtain ⟨pa, pc, rfl⟩ := hv.len
  have HL := hid (And.intro hl hcl)
  have HD := hid hd
  have HVO := hid hvo
  have HK := hid hk
  have U0 := (Old.refl w).alloc (.cells #[.int .i64 i, .int .i64 t, .int .i64 k, .slice pa d.length pc] 41)
  have AK := hid (h.old U0)
  have HV := hid (hv.old U0)
  have S0 : EBx w.heap.size i t k pa d.length pc (w.alloc (.cells #[.int .i64 i, .int .i64 t, .int .i64 k, .slice pa d.length pc] 41)) := alloc_at w _
  have HEn := hid (show w.heap.size ∉ mbl lb ⟨ix, tm, es, cs, .slice pv es.length cv, .slice qv cs.length dv⟩ from fun q => by have := (h.lt _ q).2; omega)
  have HU0 := hid U0
  have HBs := hid (show base ≤ w.heap.size from by have := h.bb; have := heap_lt h.bx; omega)
  have HVW := hid (show ∀ W, Chg (mbl lb ⟨ix, tm, es, cs, .slice pv es.length cv, .slice qv cs.length dv⟩) w W → Rw W (.slice pa d.length pc) d from fun W c => hv.chg c hvo)
  clear h hv hd hvo hk hl hcl U0
  generalize hw1 : w.alloc (.cells #[.int .i64 i, .int .i64 t, .int .i64 k, .slice pa d.length pc] 41) = w1 at *
  go_enter Try.func32, Try.ntmps32
  go_upto_region 1 with (fail)
  try rw [hw1]
  generalize heb : w.heap.size = eb at *
  clear hw1
  refine wp_region_noPanic ?_
  refine wp_region_held_drew (S := fun wz => EB4 eb i t k pa d.length pc wz) (by kernel_rfl) ?_ (fun hHeld => ?_)
  · exact EBx.c (((Old.refl _).drew).block S0)
  (try simp only [Act.put]); (try simp only [List.setIfInBounds_toArray]); (try simp only [List.set_cons_succ]); (try simp only [List.set_cons_zero])
  clear hHeld
  refine wpAnyH_take (i := 0) (oi := { dst := some 6, op := Op.move (Operand.tmp 0), type := 26, pos := "rlog.go:92", after := #[], guard := none }) (v := ?vk1) rfl (by kernel_rfl) (by kernel_rfl) (by kernel_rfl) (fun _ _ _ h => h) (Or.inl ⟨by rfl, ?hk1⟩) (EBx.c (((Old.refl _).drew).block S0)) ?rk1
  case hk1 => (intro wz hSw; (try dsimp only at hSw); go_simp; try with_reducible rfl)
  (try simp only [Act.put]); (try simp only [List.setIfInBounds_toArray]); (try simp only [List.set_cons_succ]); (try simp only [List.set_cons_zero])
  refine wpAnyH_take (i := 1) (oi := { dst := some 7, op := Op.move (Operand.tmp 0), type := 26, pos := "rlog.go:92", after := #[], guard := none }) (v := ?vk2) rfl (by kernel_rfl) (by kernel_rfl) (by kernel_rfl) (fun _ _ _ h => h) (Or.inl ⟨by rfl, ?hk2⟩) (EBx.c (((Old.refl _).drew).block S0)) ?rk2
  case hk2 => (intro wz hSw; (try dsimp only at hSw); go_simp; try with_reducible rfl)
  (try simp only [Act.put]); (try simp only [List.setIfInBounds_toArray]); (try simp only [List.set_cons_succ]); (try simp only [List.set_cons_zero])
  refine wpAnyH_take (i := 2) (oi := { dst := some 8, op := Op.nilCheck (Operand.tmp 7), type := 0, pos := "rlog.go:92", after := #[{ on := 1, ground := Ground.data }], guard := none }) (v := ?vk3) rfl (by kernel_rfl) (by kernel_rfl) (by kernel_rfl) (fun _ _ _ h => h) (Or.inl ⟨by rfl, ?hk3⟩) (EBx.c (((Old.refl _).drew).block S0)) ?rk3
  case hk3 => (intro wz hSw; (try dsimp only at hSw); go_simp; try with_reducible rfl)
  (try simp only [Act.put]); (try simp only [List.setIfInBounds_toArray]); (try simp only [List.set_cons_succ]); (try simp only [List.set_cons_zero])
  refine wpAnyH_take (i := 3) (oi := { dst := some 9, op := Op.fieldAddr 68 (Operand.tmp 8) 2, type := 0, pos := "rlog.go:92", after := #[{ on := 2, ground := Ground.data }], guard := none }) (v := ?vk4) rfl (by kernel_rfl) (by kernel_rfl) (by kernel_rfl) (fun _ _ _ h => h) (Or.inl ⟨by rfl, ?hk4⟩) (EBx.c (((Old.refl _).drew).block S0)) ?rk4
  case hk4 => (intro wz hSw; (try dsimp only at hSw); go_simp; try with_reducible rfl)
  (try simp only [Act.put]); (try simp only [List.setIfInBounds_toArray]); (try simp only [List.set_cons_succ]); (try simp only [List.set_cons_zero])
  refine wpAnyH_take (i := 5) (oi := { dst := some 11, op := Op.load 41 (Operand.tmp 3), type := 41, pos := "rlog.go:92", after := #[], guard := none }) (v := ?vk5) rfl (by kernel_rfl) (by kernel_rfl) (by kernel_rfl) (fun _ _ _ h => h) (Or.inl ⟨by rfl, ?hk5⟩) (EBx.c (((Old.refl _).drew).block S0)) ?rk5
  case hk5 => (intro wz hSw; (try dsimp only at hSw); go_simp; try with_reducible rfl)
  (try simp only [Act.put]); (try simp only [List.setIfInBounds_toArray]); (try simp only [List.set_cons_succ]); (try simp only [List.set_cons_zero])
  refine wpAnyH_ready (rs := [4, 6]) (by kernel_rfl) (by simp) ?_
  refine AllReadyH.cons (o := { dst := some 10, op := Op.load 29 (Operand.tmp 9), type := 29, pos := "rlog.go:92", after := #[{ on := 3, ground := Ground.data }], guard := none }) rfl (fun K hK => ?_) (AllReadyH.cons (o := { dst := some 12, op := Op.call { callee := Callee.value (Operand.func 35), args := #[Operand.tmp 11], argTypes := #[41] }, type := 41, pos := "rlog.go:92", after := #[{ on := 5, ground := Ground.data }], guard := none }) rfl (fun K hK => ?_) AllReadyH.nil)
  · skip
    refine stepLoadE ?_ (.tmp 9) ?_ lb 2 pv es.length cv ?_ (AK.out.old ((Old.refl _).drew)).cells.2.2.1 ?_
    · rfl
    · rfl
    · rfl
    refine hK.out _ _ (EBx.c (((Old.refl _).drew).block S0)) (fun _ => ?_)
    clear hK K
    (try simp only [Act.put]); (try simp only [List.setIfInBounds_toArray]); (try simp only [List.set_cons_succ]); (try simp only [List.set_cons_zero])
    refine wpAnyH_ready (rs := [6]) (by kernel_rfl) (by simp) ?_
    refine AllReadyH.cons (o := { dst := some 12, op := Op.call { callee := Callee.value (Operand.func 35), args := #[Operand.tmp 11], argTypes := #[41] }, type := 41, pos := "rlog.go:92", after := #[{ on := 5, ground := Ground.data }], guard := none }) rfl (fun K hK => ?_) AllReadyH.nil
    · skip
      refine stepCallF1 ?_ 35 (.tmp 11) #[41] ?_ (.agg #[.int .i64 i, .int .i64 t, .int .i64 k, .slice pa d.length pc]) ?_ ?_ (enters_of Try.func35 (by kernel_rfl) rfl _ _) ?_
      · rfl
      · rfl
      · rfl
      · rfl
      refine (cloneE_any i t k _ d _ (HV.out.old ((Old.refl w1).drew)) (by have := HD.out; omega)).mono ?_
      rintro o x6 ⟨ca6, cc6, rfl, n6, b6⟩
      refine ⟨_, rfl, ?_⟩
      have A6 := (AK.out.old ((Old.refl _).drew)).old b6
      have U6 := ((Old.refl w1).drew).trans b6
      have S6 := b6.block (((Old.refl _).drew).block S0)
      refine hK.out _ _ (EBx.c S6) (fun _ => ?_)
      clear hK K
      (try simp only [Act.put]); (try simp only [List.setIfInBounds_toArray]); (try simp only [List.set_cons_succ]); (try simp only [List.set_cons_zero])
      refine wpAnyH_ready (rs := [7]) (by kernel_rfl) (by simp) ?_
      refine AllReadyH.cons (o := { dst := some 13, op := Op.buildSlice 29 1 #[(0, Operand.tmp 12)], type := 29, pos := "rlog.go:92", after := #[{ on := 6, ground := Ground.data }], guard := none }) rfl (fun K hK => ?_) AllReadyH.nil
      · skip
        refine stepBuild1E ?_ (.tmp 12) ?_ ⟨i, t, k, ca6, d.length, cc6⟩ ?_ ?_
        · rfl
        · rfl
        · rfl
        intro m7 y7 hm7 hy7
        have R7 : EntIn y7 m7 0 ⟨i, t, k, ca6, d.length, cc6⟩ := by rw [hy7]; exact cell_oneE _ _ _ hm7.symm
        have V7 : Old _ y7 := show Old _ y7 from by rw [hy7]; exact (Old.refl _).alloc _
        have A7 := A6.old V7
        have U7 := U6.trans V7
        have S7 := V7.block S6
        have N7 := Own.old n6.1 V7
        clear hm7 hy7
        refine hK.out _ _ (EBx.c S7) (fun _ => ?_)
        clear hK K
        (try simp only [Act.put]); (try simp only [List.setIfInBounds_toArray]); (try simp only [List.set_cons_succ]); (try simp only [List.set_cons_zero])
        refine wpAnyH_ready (rs := [8]) (by kernel_rfl) (by simp) ?_
        refine AllReadyH.cons (o := { dst := some 14, op := Op.call { callee := Callee.builtin Builtin.append, args := #[Operand.tmp 10, Operand.tmp 13], argTypes := #[29, 29] }, type := 29, pos := "rlog.go:92", after := #[{ on := 4, ground := Ground.data }, { on := 7, ground := Ground.data }, { on := 6, ground := Ground.chain }], guard := none }) rfl (fun K hK => ?_) AllReadyH.nil
        · skip
          refine step_appEO ?_ (.tmp 10) (.tmp 13) ?_ base _ (es.map En.e) es.length m7 ⟨i, t, k, ca6, d.length, cc6⟩ ?_ ?_ A7.oe R7 (by have := HL.out; omega) (by have := HBs.out; have := HU0.out.size; have := U7.size; omega) ?_
          · rfl
          · rfl
          · rfl
          · rfl
          intro v8 y8 o8 g8 z8
          obtain ⟨P8, L8, M8⟩ := LogM.putE A7 ⟨i, t, k, ca6, cc6, d⟩ N7 o8 g8 z8
          have S8 := (Chg.grown2 g8).heapAt S7 (fun q => HEn.out (mem_mbl.2 (.inr (.inl (Option.mem_toList.1 q)))))
          obtain ⟨p8, c8, e8, -⟩ := o8.len
          subst e8
          clear o8 g8 z8
          refine hK.out _ _ (EBx.c S8) (fun _ => ?_)
          clear hK K
          (try simp only [Act.put]); (try simp only [List.setIfInBounds_toArray]); (try simp only [List.set_cons_succ]); (try simp only [List.set_cons_zero])
          refine wpAnyH_take (i := 9) (oi := { dst := some 15, op := Op.nilCheck (Operand.tmp 6), type := 0, pos := "rlog.go:92", after := #[{ on := 0, ground := Ground.data }, { on := 0, ground := Ground.phase }, { on := 1, ground := Ground.phase }, { on := 2, ground := Ground.phase }, { on := 3, ground := Ground.phase }, { on := 4, ground := Ground.phase }, { on := 5, ground := Ground.phase }, { on := 6, ground := Ground.phase }, { on := 7, ground := Ground.phase }, { on := 8, ground := Ground.phase }], guard := none }) (v := ?vk9) rfl (by kernel_rfl) (by kernel_rfl) (by kernel_rfl) (fun _ _ _ h => h) (Or.inl ⟨by rfl, ?hk9⟩) (EBx.c S8) ?rk9
          case hk9 => (intro wz hSw; (try dsimp only at hSw); go_simp; try with_reducible rfl)
          (try simp only [Act.put]); (try simp only [List.setIfInBounds_toArray]); (try simp only [List.set_cons_succ]); (try simp only [List.set_cons_zero])
          refine wpAnyH_take (i := 10) (oi := { dst := some 16, op := Op.fieldAddr 68 (Operand.tmp 15) 2, type := 0, pos := "rlog.go:92", after := #[{ on := 9, ground := Ground.data }, { on := 0, ground := Ground.phase }, { on := 1, ground := Ground.phase }, { on := 2, ground := Ground.phase }, { on := 3, ground := Ground.phase }, { on := 4, ground := Ground.phase }, { on := 5, ground := Ground.phase }, { on := 6, ground := Ground.phase }, { on := 7, ground := Ground.phase }, { on := 8, ground := Ground.phase }], guard := none }) (v := ?vk10) rfl (by kernel_rfl) (by kernel_rfl) (by kernel_rfl) (fun _ _ _ h => h) (Or.inl ⟨by rfl, ?hk10⟩) (EBx.c S8) ?rk10
          case hk10 => (intro wz hSw; (try dsimp only at hSw); go_simp; try with_reducible rfl)
          (try simp only [Act.put]); (try simp only [List.setIfInBounds_toArray]); (try simp only [List.set_cons_succ]); (try simp only [List.set_cons_zero])
          refine wpAnyH_ready (rs := [11]) (by kernel_rfl) (by simp) ?_
          refine AllReadyH.cons (o := { dst := none, op := Op.store 29 (Operand.tmp 16) (Operand.tmp 14), type := 0, pos := "rlog.go:92", after := #[{ on := 10, ground := Ground.data }, { on := 8, ground := Ground.data }, { on := 8, ground := Ground.chain }, { on := 0, ground := Ground.phase }, { on := 1, ground := Ground.phase }, { on := 2, ground := Ground.phase }, { on := 3, ground := Ground.phase }, { on := 4, ground := Ground.phase }, { on := 5, ground := Ground.phase }, { on := 6, ground := Ground.phase }, { on := 7, ground := Ground.phase }, { on := 8, ground := Ground.phase }], guard := none }) rfl (fun K hK => ?_) AllReadyH.nil
          · skip
            refine stepStoreE ?_ (.tmp 16) (.tmp 14) ?_ lb 2 p8 (es.length + 1) c8 _ ?_ ?_ (box4 P8).2.2.1 (box4 P8).2.2.2.2.2.2.1 ?_
            · rfl
            · rfl
            · rfl
            · rfl
            have S11 := set_other (i := 2) (v := .slice p8 (es.length + 1) c8) S8 (fun q => HEn.out (mem_mbl.2 (.inl q)))
            refine hK.out _ _ (EBx.c S11) (fun _ => ?_)
            clear hK K
            (try simp only [Act.put]); (try simp only [List.setIfInBounds_toArray]); (try simp only [List.set_cons_succ]); (try simp only [List.set_cons_zero])
            refine wpAnyH_done (by kernel_rfl) ?_ _
            refine NoPanic.normal ?_
            have LZ := hid L8
            have MZ := hid (Mov.trans (Mov.old (HU0.out.trans U7)) M8)
            have SZ := hid S11
            clear L8 M8 P8
            generalize World.setCell _ ⟨lb, 2, none⟩ (.slice p8 (es.length + 1) c8) = wz at *
            obtain ⟨x0, x1, x2, x3, -⟩ := box4 SZ.out
            by_cases hk2 : k = 2
            · subst hk2
              obtain ⟨a, b, hab⟩ := HK.out rfl
              have HAB := hid hab
              clear hab
              have HVZ := hid (show Rw wz (.slice pa d.length pc) d from HVW.out wz MZ.out.1)
              have HLd := hid ((HVZ.out.load).mono (fun e w' (q : LdPost d wz e w') => show ∃ p1 c1 p2 c2, e = .returned (.tuple #[.agg #[.slice p1 a.length c1, .slice p2 b.length c2], .int .i64 0]) ∧ OwnI 0 w' (.slice p1 a.length c1) a ∧ OwnI 0 w' (.slice p2 b.length c2) b ∧ Old wz w' from by
                rcases q with ⟨o, ⟨a', b', v1, v2, e1, rfl, r1, r2⟩ | ⟨e1, _⟩⟩
                · rw [HAB.out] at e1; cases e1; obtain ⟨_, _, rfl⟩ := r1.len; obtain ⟨_, _, rfl⟩ := r2.len; exact ⟨_, _, _, _, rfl, r1.mono (Nat.zero_le _), r2.mono (Nat.zero_le _), o⟩
                · rw [HAB.out] at e1; cases e1))
              go_upto_region 4 with (go_at_call 47; refine HLd.out.mono ?_; rintro e wl ⟨p1, c1, p2, c2, rfl, r1, r2, ol⟩; have R1 := hid r1; have R2 := hid r2; have OL := hid ol; clear r1 r2 ol)
              have UC := hid ((Old.refl wl).alloc (.cells #[.slice p1 a.length c1, .slice p2 b.length c2] 24))
              have BC := hid (alloc_at wl (.cells #[.slice p1 a.length c1, .slice p2 b.length c2] 24))
              have HCn := hid (show wl.heap.size ≠ lb ∧ ∀ g, (Value.slice qv cs.length dv).ownBlock = some g → wl.heap.size ≠ g from ⟨fun e => by have := heap_lt (OL.out.block LZ.out.bx); omega, fun g e q => by have := (LZ.out.oc.lt g e).2; have := OL.out.size; omega⟩)
              have A4 := hid ((LZ.out.old OL.out).old UC.out)
              have S4 := hid (UC.out.block (OL.out.block SZ.out))
              have R14 := hid (R1.out.up UC.out)
              have R24 := hid (R2.out.up UC.out)
              have M4 := hid (MZ.out.trans (Mov.old (OL.out.trans UC.out)))
              have HBz := hid (show base ≤ wl.heap.size from by have := LZ.out.bb; have := heap_lt (OL.out.block LZ.out.bx); omega)
              have HCZ := hid (show wl.heap.size ≤ (wl.alloc (.cells #[.slice p1 a.length c1, .slice p2 b.length c2] 24)).heap.size from UC.out.size)
              clear x0 x1 x2 x3 LZ MZ SZ R1 R2 HLd HVZ
              generalize hcb : wl.heap.size = cb at *
              generalize wl.alloc (.cells #[.slice p1 a.length c1, .slice p2 b.length c2] 24) = w4 at *
              clear hcb OL UC
              refine wp_region_noPanic ?_
              refine wp_region_held_drew (S := fun wz => EB4 eb i t 2 pa d.length pc wz ∧ wz.cell? ⟨cb, 0, none⟩ = some (.slice p1 a.length c1) ∧ wz.cell? ⟨cb, 1, none⟩ = some (.slice p2 b.length c2)) (by kernel_rfl) ?_ (fun hHeld => ?_)
              · exact ⟨EBx.c (((Old.refl _).drew).block S4.out), box2 (((Old.refl _).drew).block BC.out)⟩
              (try simp only [Act.put]); (try simp only [List.setIfInBounds_toArray]); (try simp only [List.set_cons_succ]); (try simp only [List.set_cons_zero])
              clear hHeld
              refine wpAnyH_take (i := 0) (oi := { dst := some 26, op := Op.move (Operand.tmp 0), type := 26, pos := "rlog.go:95", after := #[], guard := none }) (v := ?vk12) rfl (by kernel_rfl) (by kernel_rfl) (by kernel_rfl) (fun _ _ _ h => h) (Or.inl ⟨by rfl, ?hk12⟩) ⟨EBx.c (((Old.refl _).drew).block S4.out), box2 (((Old.refl _).drew).block BC.out)⟩ ?rk12
              case hk12 => (intro wz hSw; (try dsimp only at hSw); go_simp; try with_reducible rfl)
              (try simp only [Act.put]); (try simp only [List.setIfInBounds_toArray]); (try simp only [List.set_cons_succ]); (try simp only [List.set_cons_zero])
              refine wpAnyH_take (i := 1) (oi := { dst := some 27, op := Op.move (Operand.tmp 0), type := 26, pos := "rlog.go:95", after := #[], guard := none }) (v := ?vk13) rfl (by kernel_rfl) (by kernel_rfl) (by kernel_rfl) (fun _ _ _ h => h) (Or.inl ⟨by rfl, ?hk13⟩) ⟨EBx.c (((Old.refl _).drew).block S4.out), box2 (((Old.refl _).drew).block BC.out)⟩ ?rk13
              case hk13 => (intro wz hSw; (try dsimp only at hSw); go_simp; try with_reducible rfl)
              (try simp only [Act.put]); (try simp only [List.setIfInBounds_toArray]); (try simp only [List.set_cons_succ]); (try simp only [List.set_cons_zero])
              refine wpAnyH_take (i := 2) (oi := { dst := some 28, op := Op.nilCheck (Operand.tmp 27), type := 0, pos := "rlog.go:95", after := #[{ on := 1, ground := Ground.data }], guard := none }) (v := ?vk14) rfl (by kernel_rfl) (by kernel_rfl) (by kernel_rfl) (fun _ _ _ h => h) (Or.inl ⟨by rfl, ?hk14⟩) ⟨EBx.c (((Old.refl _).drew).block S4.out), box2 (((Old.refl _).drew).block BC.out)⟩ ?rk14
              case hk14 => (intro wz hSw; (try dsimp only at hSw); go_simp; try with_reducible rfl)
              (try simp only [Act.put]); (try simp only [List.setIfInBounds_toArray]); (try simp only [List.set_cons_succ]); (try simp only [List.set_cons_zero])
              refine wpAnyH_take (i := 3) (oi := { dst := some 29, op := Op.fieldAddr 68 (Operand.tmp 28) 3, type := 0, pos := "rlog.go:95", after := #[{ on := 2, ground := Ground.data }], guard := none }) (v := ?vk15) rfl (by kernel_rfl) (by kernel_rfl) (by kernel_rfl) (fun _ _ _ h => h) (Or.inl ⟨by rfl, ?hk15⟩) ⟨EBx.c (((Old.refl _).drew).block S4.out), box2 (((Old.refl _).drew).block BC.out)⟩ ?rk15
              case hk15 => (intro wz hSw; (try dsimp only at hSw); go_simp; try with_reducible rfl)
              (try simp only [Act.put]); (try simp only [List.setIfInBounds_toArray]); (try simp only [List.set_cons_succ]); (try simp only [List.set_cons_zero])
              refine wpAnyH_take (i := 5) (oi := { dst := some 31, op := Op.fieldAddr 41 (Operand.tmp 3) 0, type := 0, pos := "rlog.go:95", after := #[], guard := none }) (v := ?vk16) rfl (by kernel_rfl) (by kernel_rfl) (by kernel_rfl) (fun _ _ _ h => h) (Or.inl ⟨by rfl, ?hk16⟩) ⟨EBx.c (((Old.refl _).drew).block S4.out), box2 (((Old.refl _).drew).block BC.out)⟩ ?rk16
              case hk16 => (intro wz hSw; (try dsimp only at hSw); go_simp; try with_reducible rfl)
              (try simp only [Act.put]); (try simp only [List.setIfInBounds_toArray]); (try simp only [List.set_cons_succ]); (try simp only [List.set_cons_zero])
              refine wpAnyH_take (i := 6) (oi := { dst := some 32, op := Op.load 2 (Operand.tmp 31), type := 2, pos := "rlog.go:95", after := #[{ on := 5, ground := Ground.data }], guard := none }) (v := ?vk17) rfl (by kernel_rfl) (by kernel_rfl) (by kernel_rfl) (fun _ _ _ h => h) (Or.inl ⟨by rfl, ?hk17⟩) ⟨EBx.c (((Old.refl _).drew).block S4.out), box2 (((Old.refl _).drew).block BC.out)⟩ ?rk17
              case hk17 => (intro wz hSw; (try dsimp only at hSw); go_simp; try with_reducible rfl)
              (try simp only [Act.put]); (try simp only [List.setIfInBounds_toArray]); (try simp only [List.set_cons_succ]); (try simp only [List.set_cons_zero])
              refine wpAnyH_take (i := 7) (oi := { dst := some 33, op := Op.load 24 (Operand.tmp 4), type := 24, pos := "rlog.go:95", after := #[], guard := none }) (v := ?vk18) rfl (by kernel_rfl) (by kernel_rfl) (by kernel_rfl) (fun _ _ _ h => h) (Or.inl ⟨by rfl, ?hk18⟩) ⟨EBx.c (((Old.refl _).drew).block S4.out), box2 (((Old.refl _).drew).block BC.out)⟩ ?rk18
              case hk18 => (intro wz hSw; (try dsimp only at hSw); go_simp; try with_reducible rfl)
              (try simp only [Act.put]); (try simp only [List.setIfInBounds_toArray]); (try simp only [List.set_cons_succ]); (try simp only [List.set_cons_zero])
              refine wpAnyH_take (i := 8) (oi := { dst := some 34, op := Op.build 65 #[(0, Operand.tmp 32), (1, Operand.tmp 33)], type := 65, pos := "rlog.go:95", after := #[{ on := 6, ground := Ground.data }, { on := 7, ground := Ground.data }], guard := none }) (v := ?vk19) rfl (by kernel_rfl) (by kernel_rfl) (by kernel_rfl) (fun _ _ _ h => h) (Or.inl ⟨by rfl, ?hk19⟩) ⟨EBx.c (((Old.refl _).drew).block S4.out), box2 (((Old.refl _).drew).block BC.out)⟩ ?rk19
              case hk19 => (intro wz hSw; (try dsimp only at hSw); go_simp; try with_reducible rfl)
              (try simp only [Act.put]); (try simp only [List.setIfInBounds_toArray]); (try simp only [List.set_cons_succ]); (try simp only [List.set_cons_zero])
              refine wpAnyH_ready (rs := [4, 9]) (by kernel_rfl) (by simp) ?_
              refine AllReadyH.cons (o := { dst := some 30, op := Op.load 66 (Operand.tmp 29), type := 66, pos := "rlog.go:95", after := #[{ on := 3, ground := Ground.data }], guard := none }) rfl (fun K hK => ?_) (AllReadyH.cons (o := { dst := some 35, op := Op.buildSlice 66 1 #[(0, Operand.tmp 34)], type := 66, pos := "rlog.go:95", after := #[{ on := 8, ground := Ground.data }], guard := none }) rfl (fun K hK => ?_) AllReadyH.nil)
              · skip
                refine stepLoadPs ?_ (.tmp 29) ?_ lb 3 qv cs.length dv ?_ (A4.out.old ((Old.refl _).drew)).cells.2.2.2.1 ?_
                · rfl
                · rfl
                · rfl
                refine hK.out _ _ ⟨EBx.c (((Old.refl _).drew).block S4.out), box2 (((Old.refl _).drew).block BC.out)⟩ (fun _ => ?_)
                clear hK K
                (try simp only [Act.put]); (try simp only [List.setIfInBounds_toArray]); (try simp only [List.set_cons_succ]); (try simp only [List.set_cons_zero])
                refine wpAnyH_ready (rs := [9]) (by kernel_rfl) (by simp) ?_
                refine AllReadyH.cons (o := { dst := some 35, op := Op.buildSlice 66 1 #[(0, Operand.tmp 34)], type := 66, pos := "rlog.go:95", after := #[{ on := 8, ground := Ground.data }], guard := none }) rfl (fun K hK => ?_) AllReadyH.nil
                · skip
                  refine stepBuild1P ?_ (.tmp 34) ?_ i p1 p2 a.length c1 b.length c2 ?_ ?_
                  · rfl
                  · rfl
                  · rfl
                  intro m20 y20 hm20 hy20
                  have R20 : y20.heap[m20]? = some (.cells #[.int .i64 i, .slice p1 a.length c1, .slice p2 b.length c2] 65 (0, 0)) := by rw [hy20, hm20]; exact alloc_at _ _
                  have V20 : Old _ y20 := show Old _ y20 from by rw [hy20]; exact (Old.refl _).alloc _
                  have A20 := (A4.out.old ((Old.refl _).drew)).old V20
                  have U20 := ((Old.refl w4).drew).trans V20
                  have S20 := V20.block (((Old.refl _).drew).block S4.out)
                  have B20 := V20.block (((Old.refl _).drew).block BC.out)
                  have N20 := (R14.out.up ((Old.refl _).drew)).up V20
                  have T20 := (R24.out.up ((Old.refl _).drew)).up V20
                  clear hm20 hy20
                  refine hK.out _ _ ⟨EBx.c (S20), box2 (B20)⟩ (fun _ => ?_)
                  clear hK K
                  (try simp only [Act.put]); (try simp only [List.setIfInBounds_toArray]); (try simp only [List.set_cons_succ]); (try simp only [List.set_cons_zero])
                  refine wpAnyH_ready (rs := [10]) (by kernel_rfl) (by simp) ?_
                  refine AllReadyH.cons (o := { dst := some 36, op := Op.call { callee := Callee.builtin Builtin.append, args := #[Operand.tmp 30, Operand.tmp 35], argTypes := #[66, 66] }, type := 66, pos := "rlog.go:95", after := #[{ on := 4, ground := Ground.data }, { on := 9, ground := Ground.data }], guard := none }) rfl (fun K hK => ?_) AllReadyH.nil
                  · skip
                    refine step_appPO ?_ (.tmp 30) (.tmp 35) ?_ base _ cs cs.length m20 ⟨i, .slice p1 a.length c1, .slice p2 b.length c2, a, b⟩ ?_ ?_ A20.oc R20 rfl rfl (by have := HL.out; omega) (by have := HBz.out; have := HCZ.out; have := U20.size; omega) ?_
                    · rfl
                    · rfl
                    · rfl
                    · rfl
                    intro v21 y21 o21 g21 z21
                    obtain ⟨P21, L21, M21⟩ := LogM.putC A20 ⟨i, .slice p1 a.length c1, .slice p2 b.length c2, a, b⟩ ⟨N20, T20⟩ o21 g21 z21
                    have S21 := (Chg.grown2 g21).heapAt (S20) (fun q => HEn.out (mem_mbl.2 (.inr (.inr (Option.mem_toList.1 q)))))
                    have B21 := (Chg.grown2 g21).heapAt (B20) (fun q => HCn.out.2 cb (Option.mem_toList.1 q) rfl)
                    obtain ⟨p21, c21, e21, -⟩ := o21.len
                    subst e21
                    clear o21 g21 z21
                    refine hK.out _ _ ⟨EBx.c (S21), box2 (B21)⟩ (fun _ => ?_)
                    clear hK K
                    (try simp only [Act.put]); (try simp only [List.setIfInBounds_toArray]); (try simp only [List.set_cons_succ]); (try simp only [List.set_cons_zero])
                    refine wpAnyH_take (i := 11) (oi := { dst := some 37, op := Op.nilCheck (Operand.tmp 26), type := 0, pos := "rlog.go:95", after := #[{ on := 0, ground := Ground.data }, { on := 0, ground := Ground.phase }, { on := 1, ground := Ground.phase }, { on := 2, ground := Ground.phase }, { on := 3, ground := Ground.phase }, { on := 4, ground := Ground.phase }, { on := 5, ground := Ground.phase }, { on := 6, ground := Ground.phase }, { on := 7, ground := Ground.phase }, { on := 8, ground := Ground.phase }, { on := 9, ground := Ground.phase }, { on := 10, ground := Ground.phase }], guard := none }) (v := ?vk22) rfl (by kernel_rfl) (by kernel_rfl) (by kernel_rfl) (fun _ _ _ h => h) (Or.inl ⟨by rfl, ?hk22⟩) ⟨EBx.c (S21), box2 (B21)⟩ ?rk22
                    case hk22 => (intro wz hSw; (try dsimp only at hSw); go_simp; try with_reducible rfl)
                    (try simp only [Act.put]); (try simp only [List.setIfInBounds_toArray]); (try simp only [List.set_cons_succ]); (try simp only [List.set_cons_zero])
                    refine wpAnyH_take (i := 12) (oi := { dst := some 38, op := Op.fieldAddr 68 (Operand.tmp 37) 3, type := 0, pos := "rlog.go:95", after := #[{ on := 11, ground := Ground.data }, { on := 0, ground := Ground.phase }, { on := 1, ground := Ground.phase }, { on := 2, ground := Ground.phase }, { on := 3, ground := Ground.phase }, { on := 4, ground := Ground.phase }, { on := 5, ground := Ground.phase }, { on := 6, ground := Ground.phase }, { on := 7, ground := Ground.phase }, { on := 8, ground := Ground.phase }, { on := 9, ground := Ground.phase }, { on := 10, ground := Ground.phase }], guard := none }) (v := ?vk23) rfl (by kernel_rfl) (by kernel_rfl) (by kernel_rfl) (fun _ _ _ h => h) (Or.inl ⟨by rfl, ?hk23⟩) ⟨EBx.c (S21), box2 (B21)⟩ ?rk23
                    case hk23 => (intro wz hSw; (try dsimp only at hSw); go_simp; try with_reducible rfl)
                    (try simp only [Act.put]); (try simp only [List.setIfInBounds_toArray]); (try simp only [List.set_cons_succ]); (try simp only [List.set_cons_zero])
                    refine wpAnyH_ready (rs := [13]) (by kernel_rfl) (by simp) ?_
                    refine AllReadyH.cons (o := { dst := none, op := Op.store 66 (Operand.tmp 38) (Operand.tmp 36), type := 0, pos := "rlog.go:95", after := #[{ on := 12, ground := Ground.data }, { on := 10, ground := Ground.data }, { on := 10, ground := Ground.chain }, { on := 0, ground := Ground.phase }, { on := 1, ground := Ground.phase }, { on := 2, ground := Ground.phase }, { on := 3, ground := Ground.phase }, { on := 4, ground := Ground.phase }, { on := 5, ground := Ground.phase }, { on := 6, ground := Ground.phase }, { on := 7, ground := Ground.phase }, { on := 8, ground := Ground.phase }, { on := 9, ground := Ground.phase }, { on := 10, ground := Ground.phase }], guard := none }) rfl (fun K hK => ?_) AllReadyH.nil
                    · skip
                      refine stepStorePs ?_ (.tmp 38) (.tmp 36) ?_ lb 3 p21 (cs.length + 1) c21 _ ?_ ?_ (box4 P21).2.2.2.1 (box4 P21).2.2.2.2.2.2.2 ?_
                      · rfl
                      · rfl
                      · rfl
                      · rfl
                      have S24 := set_other (i := 3) (v := .slice p21 (cs.length + 1) c21) (S21) (fun q => HEn.out (mem_mbl.2 (.inl q)))
                      have B24 := set_other (i := 3) (v := .slice p21 (cs.length + 1) c21) (B21) HCn.out.1
                      refine hK.out _ _ ⟨EBx.c (S24), box2 (B24)⟩ (fun _ => ?_)
                      clear hK K
                      (try simp only [Act.put]); (try simp only [List.setIfInBounds_toArray]); (try simp only [List.set_cons_succ]); (try simp only [List.set_cons_zero])
                      refine wpAnyH_done (by kernel_rfl) ?_ _
                      refine NoPanic.normal ?_
                      have LY := hid L21
                      have MY := hid (M4.out.trans (Mov.trans (Mov.old U20) M21))
                      clear L21 M21 P21
                      go_wp2
                      (try simp only [Exit.inBlock, Exit.then])
                      exact bodyPost_end (v := .tuple #[]) (by simp [results, Try.results32, go_sem]) rfl ⟨rfl, ⟨ix, tm, es ++ [⟨i, t, 2, ca6, cc6, d⟩], cs ++ [⟨i, .slice p1 a.length c1, .slice p2 b.length c2, a, b⟩], .slice p8 (es.length + 1) c8, .slice p21 (cs.length + 1) c21⟩, ⟨rfl, rfl, ⟨ca6, cc6, rfl⟩, ⟨[⟨i, .slice p1 a.length c1, .slice p2 b.length c2, a, b⟩], rfl, (by unfold cfOf; rw [if_pos rfl]; simp only [HAB.out]; rfl), (fun y hy => by simp at hy; subst hy; have := ldConf_small HAB.out; exact ⟨by dsimp only; omega, by dsimp only; omega⟩)⟩⟩, LY.out, MY.out⟩
              · skip
                refine stepBuild1P ?_ (.tmp 34) ?_ i p1 p2 a.length c1 b.length c2 ?_ ?_
                · rfl
                · rfl
                · rfl
                intro m25 y25 hm25 hy25
                have R25 : y25.heap[m25]? = some (.cells #[.int .i64 i, .slice p1 a.length c1, .slice p2 b.length c2] 65 (0, 0)) := by rw [hy25, hm25]; exact alloc_at _ _
                have V25 : Old _ y25 := show Old _ y25 from by rw [hy25]; exact (Old.refl _).alloc _
                have A25 := (A4.out.old ((Old.refl _).drew)).old V25
                have U25 := ((Old.refl w4).drew).trans V25
                have S25 := V25.block (((Old.refl _).drew).block S4.out)
                have B25 := V25.block (((Old.refl _).drew).block BC.out)
                have N25 := (R14.out.up ((Old.refl _).drew)).up V25
                have T25 := (R24.out.up ((Old.refl _).drew)).up V25
                clear hm25 hy25
                refine hK.out _ _ ⟨EBx.c (S25), box2 (B25)⟩ (fun _ => ?_)
                clear hK K
                (try simp only [Act.put]); (try simp only [List.setIfInBounds_toArray]); (try simp only [List.set_cons_succ]); (try simp only [List.set_cons_zero])
                refine wpAnyH_ready (rs := [4]) (by kernel_rfl) (by simp) ?_
                refine AllReadyH.cons (o := { dst := some 30, op := Op.load 66 (Operand.tmp 29), type := 66, pos := "rlog.go:95", after := #[{ on := 3, ground := Ground.data }], guard := none }) rfl (fun K hK => ?_) AllReadyH.nil
                · skip
                  refine stepLoadPs ?_ (.tmp 29) ?_ lb 3 qv cs.length dv ?_ A25.cells.2.2.2.1 ?_
                  · rfl
                  · rfl
                  · rfl
                  refine hK.out _ _ ⟨EBx.c (S25), box2 (B25)⟩ (fun _ => ?_)
                  clear hK K
                  (try simp only [Act.put]); (try simp only [List.setIfInBounds_toArray]); (try simp only [List.set_cons_succ]); (try simp only [List.set_cons_zero])
                  refine wpAnyH_ready (rs := [10]) (by kernel_rfl) (by simp) ?_
                  refine AllReadyH.cons (o := { dst := some 36, op := Op.call { callee := Callee.builtin Builtin.append, args := #[Operand.tmp 30, Operand.tmp 35], argTypes := #[66, 66] }, type := 66, pos := "rlog.go:95", after := #[{ on := 4, ground := Ground.data }, { on := 9, ground := Ground.data }], guard := none }) rfl (fun K hK => ?_) AllReadyH.nil
                  · skip
                    refine step_appPO ?_ (.tmp 30) (.tmp 35) ?_ base _ cs cs.length m25 ⟨i, .slice p1 a.length c1, .slice p2 b.length c2, a, b⟩ ?_ ?_ A25.oc R25 rfl rfl (by have := HL.out; omega) (by have := HBz.out; have := HCZ.out; have := U25.size; omega) ?_
                    · rfl
                    · rfl
                    · rfl
                    · rfl
                    intro v26 y26 o26 g26 z26
                    obtain ⟨P26, L26, M26⟩ := LogM.putC A25 ⟨i, .slice p1 a.length c1, .slice p2 b.length c2, a, b⟩ ⟨N25, T25⟩ o26 g26 z26
                    have S26 := (Chg.grown2 g26).heapAt (S25) (fun q => HEn.out (mem_mbl.2 (.inr (.inr (Option.mem_toList.1 q)))))
                    have B26 := (Chg.grown2 g26).heapAt (B25) (fun q => HCn.out.2 cb (Option.mem_toList.1 q) rfl)
                    obtain ⟨p26, c26, e26, -⟩ := o26.len
                    subst e26
                    clear o26 g26 z26
                    refine hK.out _ _ ⟨EBx.c (S26), box2 (B26)⟩ (fun _ => ?_)
                    clear hK K
                    (try simp only [Act.put]); (try simp only [List.setIfInBounds_toArray]); (try simp only [List.set_cons_succ]); (try simp only [List.set_cons_zero])
                    refine wpAnyH_take (i := 11) (oi := { dst := some 37, op := Op.nilCheck (Operand.tmp 26), type := 0, pos := "rlog.go:95", after := #[{ on := 0, ground := Ground.data }, { on := 0, ground := Ground.phase }, { on := 1, ground := Ground.phase }, { on := 2, ground := Ground.phase }, { on := 3, ground := Ground.phase }, { on := 4, ground := Ground.phase }, { on := 5, ground := Ground.phase }, { on := 6, ground := Ground.phase }, { on := 7, ground := Ground.phase }, { on := 8, ground := Ground.phase }, { on := 9, ground := Ground.phase }, { on := 10, ground := Ground.phase }], guard := none }) (v := ?vk27) rfl (by kernel_rfl) (by kernel_rfl) (by kernel_rfl) (fun _ _ _ h => h) (Or.inl ⟨by rfl, ?hk27⟩) ⟨EBx.c (S26), box2 (B26)⟩ ?rk27
                    case hk27 => (intro wz hSw; (try dsimp only at hSw); go_simp; try with_reducible rfl)
                    (try simp only [Act.put]); (try simp only [List.setIfInBounds_toArray]); (try simp only [List.set_cons_succ]); (try simp only [List.set_cons_zero])
                    refine wpAnyH_take (i := 12) (oi := { dst := some 38, op := Op.fieldAddr 68 (Operand.tmp 37) 3, type := 0, pos := "rlog.go:95", after := #[{ on := 11, ground := Ground.data }, { on := 0, ground := Ground.phase }, { on := 1, ground := Ground.phase }, { on := 2, ground := Ground.phase }, { on := 3, ground := Ground.phase }, { on := 4, ground := Ground.phase }, { on := 5, ground := Ground.phase }, { on := 6, ground := Ground.phase }, { on := 7, ground := Ground.phase }, { on := 8, ground := Ground.phase }, { on := 9, ground := Ground.phase }, { on := 10, ground := Ground.phase }], guard := none }) (v := ?vk28) rfl (by kernel_rfl) (by kernel_rfl) (by kernel_rfl) (fun _ _ _ h => h) (Or.inl ⟨by rfl, ?hk28⟩) ⟨EBx.c (S26), box2 (B26)⟩ ?rk28
                    case hk28 => (intro wz hSw; (try dsimp only at hSw); go_simp; try with_reducible rfl)
                    (try simp only [Act.put]); (try simp only [List.setIfInBounds_toArray]); (try simp only [List.set_cons_succ]); (try simp only [List.set_cons_zero])
                    refine wpAnyH_ready (rs := [13]) (by kernel_rfl) (by simp) ?_
                    refine AllReadyH.cons (o := { dst := none, op := Op.store 66 (Operand.tmp 38) (Operand.tmp 36), type := 0, pos := "rlog.go:95", after := #[{ on := 12, ground := Ground.data }, { on := 10, ground := Ground.data }, { on := 10, ground := Ground.chain }, { on := 0, ground := Ground.phase }, { on := 1, ground := Ground.phase }, { on := 2, ground := Ground.phase }, { on := 3, ground := Ground.phase }, { on := 4, ground := Ground.phase }, { on := 5, ground := Ground.phase }, { on := 6, ground := Ground.phase }, { on := 7, ground := Ground.phase }, { on := 8, ground := Ground.phase }, { on := 9, ground := Ground.phase }, { on := 10, ground := Ground.phase }], guard := none }) rfl (fun K hK => ?_) AllReadyH.nil
                    · skip
                      refine stepStorePs ?_ (.tmp 38) (.tmp 36) ?_ lb 3 p26 (cs.length + 1) c26 _ ?_ ?_ (box4 P26).2.2.2.1 (box4 P26).2.2.2.2.2.2.2 ?_
                      · rfl
                      · rfl
                      · rfl
                      · rfl
                      have S29 := set_other (i := 3) (v := .slice p26 (cs.length + 1) c26) (S26) (fun q => HEn.out (mem_mbl.2 (.inl q)))
                      have B29 := set_other (i := 3) (v := .slice p26 (cs.length + 1) c26) (B26) HCn.out.1
                      refine hK.out _ _ ⟨EBx.c (S29), box2 (B29)⟩ (fun _ => ?_)
                      clear hK K
                      (try simp only [Act.put]); (try simp only [List.setIfInBounds_toArray]); (try simp only [List.set_cons_succ]); (try simp only [List.set_cons_zero])
                      refine wpAnyH_done (by kernel_rfl) ?_ _
                      refine NoPanic.normal ?_
                      have LY := hid L26
                      have MY := hid (M4.out.trans (Mov.trans (Mov.old U25) M26))
                      clear L26 M26 P26
                      go_wp2
                      (try simp only [Exit.inBlock, Exit.then])
                      exact bodyPost_end (v := .tuple #[]) (by simp [results, Try.results32, go_sem]) rfl ⟨rfl, ⟨ix, tm, es ++ [⟨i, t, 2, ca6, cc6, d⟩], cs ++ [⟨i, .slice p1 a.length c1, .slice p2 b.length c2, a, b⟩], .slice p8 (es.length + 1) c8, .slice p26 (cs.length + 1) c26⟩, ⟨rfl, rfl, ⟨ca6, cc6, rfl⟩, ⟨[⟨i, .slice p1 a.length c1, .slice p2 b.length c2, a, b⟩], rfl, (by unfold cfOf; rw [if_pos rfl]; simp only [HAB.out]; rfl), (fun y hy => by simp at hy; subst hy; have := ldConf_small HAB.out; exact ⟨by dsimp only; omega, by dsimp only; omega⟩)⟩⟩, LY.out, MY.out⟩
            · have e2 : (k == 2) = false := by simp [hk2]
              have HK2 := hid hk2
              clear hk2
              go_wp2
              (try simp only [Exit.inBlock, Exit.then])
              exact bodyPost_end (v := .tuple #[]) (by simp [results, Try.results32, go_sem]) rfl ⟨rfl, ⟨ix, tm, es ++ [⟨i, t, k, ca6, cc6, d⟩], cs, .slice p8 (es.length + 1) c8, .slice qv cs.length dv⟩, ⟨rfl, rfl, ⟨ca6, cc6, rfl⟩, ⟨[], (by simp), (by unfold cfOf; rw [if_neg HK2.out]; rfl), (fun y hy => by cases hy)⟩⟩, LZ.out, by first | exact MZ.out | (rw [← heb] at *; exact MZ.out)⟩
  · skip
    refine stepCallF1 ?_ 35 (.tmp 11) #[41] ?_ (.agg #[.int .i64 i, .int .i64 t, .int .i64 k, .slice pa d.length pc]) ?_ ?_ (enters_of Try.func35 (by kernel_rfl) rfl _ _) ?_
    · rfl
    · rfl
    · rfl
    · rfl
    refine (cloneE_any i t k _ d _ (HV.out.old ((Old.refl w1).drew)) (by have := HD.out; omega)).mono ?_
    rintro o x30 ⟨ca30, cc30, rfl, n30, b30⟩
    refine ⟨_, rfl, ?_⟩
    have A30 := (AK.out.old ((Old.refl _).drew)).old b30
    have U30 := ((Old.refl w1).drew).trans b30
    have S30 := b30.block (((Old.refl _).drew).block S0)
    refine hK.out _ _ (EBx.c S30) (fun _ => ?_)
    clear hK K
    (try simp only [Act.put]); (try simp only [List.setIfInBounds_toArray]); (try simp only [List.set_cons_succ]); (try simp only [List.set_cons_zero])
    refine wpAnyH_ready (rs := [4, 7]) (by kernel_rfl) (by simp) ?_
    refine AllReadyH.cons (o := { dst := some 10, op := Op.load 29 (Operand.tmp 9), type := 29, pos := "rlog.go:92", after := #[{ on := 3, ground := Ground.data }], guard := none }) rfl (fun K hK => ?_) (AllReadyH.cons (o := { dst := some 13, op := Op.buildSlice 29 1 #[(0, Operand.tmp 12)], type := 29, pos := "rlog.go:92", after := #[{ on := 6, ground := Ground.data }], guard := none }) rfl (fun K hK => ?_) AllReadyH.nil)
    · skip
      refine stepLoadE ?_ (.tmp 9) ?_ lb 2 pv es.length cv ?_ A30.cells.2.2.1 ?_
      · rfl
      · rfl
      · rfl
      refine hK.out _ _ (EBx.c S30) (fun _ => ?_)
      clear hK K
      (try simp only [Act.put]); (try simp only [List.setIfInBounds_toArray]); (try simp only [List.set_cons_succ]); (try simp only [List.set_cons_zero])
      refine wpAnyH_ready (rs := [7]) (by kernel_rfl) (by simp) ?_
      refine AllReadyH.cons (o := { dst := some 13, op := Op.buildSlice 29 1 #[(0, Operand.tmp 12)], type := 29, pos := "rlog.go:92", after := #[{ on := 6, ground := Ground.data }], guard := none }) rfl (fun K hK => ?_) AllReadyH.nil
      · skip
        refine stepBuild1E ?_ (.tmp 12) ?_ ⟨i, t, k, ca30, d.length, cc30⟩ ?_ ?_
        · rfl
        · rfl
        · rfl
        intro m31 y31 hm31 hy31
        have R31 : EntIn y31 m31 0 ⟨i, t, k, ca30, d.length, cc30⟩ := by rw [hy31]; exact cell_oneE _ _ _ hm31.symm
        have V31 : Old _ y31 := show Old _ y31 from by rw [hy31]; exact (Old.refl _).alloc _
        have A31 := A30.old V31
        have U31 := U30.trans V31
        have S31 := V31.block S30
        have N31 := Own.old n30.1 V31
        clear hm31 hy31
        refine hK.out _ _ (EBx.c S31) (fun _ => ?_)
        clear hK K
        (try simp only [Act.put]); (try simp only [List.setIfInBounds_toArray]); (try simp only [List.set_cons_succ]); (try simp only [List.set_cons_zero])
        refine wpAnyH_ready (rs := [8]) (by kernel_rfl) (by simp) ?_
        refine AllReadyH.cons (o := { dst := some 14, op := Op.call { callee := Callee.builtin Builtin.append, args := #[Operand.tmp 10, Operand.tmp 13], argTypes := #[29, 29] }, type := 29, pos := "rlog.go:92", after := #[{ on := 4, ground := Ground.data }, { on := 7, ground := Ground.data }, { on := 6, ground := Ground.chain }], guard := none }) rfl (fun K hK => ?_) AllReadyH.nil
        · skip
          refine step_appEO ?_ (.tmp 10) (.tmp 13) ?_ base _ (es.map En.e) es.length m31 ⟨i, t, k, ca30, d.length, cc30⟩ ?_ ?_ A31.oe R31 (by have := HL.out; omega) (by have := HBs.out; have := HU0.out.size; have := U31.size; omega) ?_
          · rfl
          · rfl
          · rfl
          · rfl
          intro v32 y32 o32 g32 z32
          obtain ⟨P32, L32, M32⟩ := LogM.putE A31 ⟨i, t, k, ca30, cc30, d⟩ N31 o32 g32 z32
          have S32 := (Chg.grown2 g32).heapAt S31 (fun q => HEn.out (mem_mbl.2 (.inr (.inl (Option.mem_toList.1 q)))))
          obtain ⟨p32, c32, e32, -⟩ := o32.len
          subst e32
          clear o32 g32 z32
          refine hK.out _ _ (EBx.c S32) (fun _ => ?_)
          clear hK K
          (try simp only [Act.put]); (try simp only [List.setIfInBounds_toArray]); (try simp only [List.set_cons_succ]); (try simp only [List.set_cons_zero])
          refine wpAnyH_take (i := 9) (oi := { dst := some 15, op := Op.nilCheck (Operand.tmp 6), type := 0, pos := "rlog.go:92", after := #[{ on := 0, ground := Ground.data }, { on := 0, ground := Ground.phase }, { on := 1, ground := Ground.phase }, { on := 2, ground := Ground.phase }, { on := 3, ground := Ground.phase }, { on := 4, ground := Ground.phase }, { on := 5, ground := Ground.phase }, { on := 6, ground := Ground.phase }, { on := 7, ground := Ground.phase }, { on := 8, ground := Ground.phase }], guard := none }) (v := ?vk33) rfl (by kernel_rfl) (by kernel_rfl) (by kernel_rfl) (fun _ _ _ h => h) (Or.inl ⟨by rfl, ?hk33⟩) (EBx.c S32) ?rk33
          case hk33 => (intro wz hSw; (try dsimp only at hSw); go_simp; try with_reducible rfl)
          (try simp only [Act.put]); (try simp only [List.setIfInBounds_toArray]); (try simp only [List.set_cons_succ]); (try simp only [List.set_cons_zero])
          refine wpAnyH_take (i := 10) (oi := { dst := some 16, op := Op.fieldAddr 68 (Operand.tmp 15) 2, type := 0, pos := "rlog.go:92", after := #[{ on := 9, ground := Ground.data }, { on := 0, ground := Ground.phase }, { on := 1, ground := Ground.phase }, { on := 2, ground := Ground.phase }, { on := 3, ground := Ground.phase }, { on := 4, ground := Ground.phase }, { on := 5, ground := Ground.phase }, { on := 6, ground := Ground.phase }, { on := 7, ground := Ground.phase }, { on := 8, ground := Ground.phase }], guard := none }) (v := ?vk34) rfl (by kernel_rfl) (by kernel_rfl) (by kernel_rfl) (fun _ _ _ h => h) (Or.inl ⟨by rfl, ?hk34⟩) (EBx.c S32) ?rk34
          case hk34 => (intro wz hSw; (try dsimp only at hSw); go_simp; try with_reducible rfl)
          (try simp only [Act.put]); (try simp only [List.setIfInBounds_toArray]); (try simp only [List.set_cons_succ]); (try simp only [List.set_cons_zero])
          refine wpAnyH_ready (rs := [11]) (by kernel_rfl) (by simp) ?_
          refine AllReadyH.cons (o := { dst := none, op := Op.store 29 (Operand.tmp 16) (Operand.tmp 14), type := 0, pos := "rlog.go:92", after := #[{ on := 10, ground := Ground.data }, { on := 8, ground := Ground.data }, { on := 8, ground := Ground.chain }, { on := 0, ground := Ground.phase }, { on := 1, ground := Ground.phase }, { on := 2, ground := Ground.phase }, { on := 3, ground := Ground.phase }, { on := 4, ground := Ground.phase }, { on := 5, ground := Ground.phase }, { on := 6, ground := Ground.phase }, { on := 7, ground := Ground.phase }, { on := 8, ground := Ground.phase }], guard := none }) rfl (fun K hK => ?_) AllReadyH.nil
          · skip
            refine stepStoreE ?_ (.tmp 16) (.tmp 14) ?_ lb 2 p32 (es.length + 1) c32 _ ?_ ?_ (box4 P32).2.2.1 (box4 P32).2.2.2.2.2.2.1 ?_
            · rfl
            · rfl
            · rfl
            · rfl
            have S35 := set_other (i := 2) (v := .slice p32 (es.length + 1) c32) S32 (fun q => HEn.out (mem_mbl.2 (.inl q)))
            refine hK.out _ _ (EBx.c S35) (fun _ => ?_)
            clear hK K
            (try simp only [Act.put]); (try simp only [List.setIfInBounds_toArray]); (try simp only [List.set_cons_succ]); (try simp only [List.set_cons_zero])
            refine wpAnyH_done (by kernel_rfl) ?_ _
            refine NoPanic.normal ?_
            have LZ := hid L32
            have MZ := hid (Mov.trans (Mov.old (HU0.out.trans U31)) M32)
            have SZ := hid S35
            clear L32 M32 P32
            generalize World.setCell _ ⟨lb, 2, none⟩ (.slice p32 (es.length + 1) c32) = wz at *
            obtain ⟨x0, x1, x2, x3, -⟩ := box4 SZ.out
            by_cases hk2 : k = 2
            · subst hk2
              obtain ⟨a, b, hab⟩ := HK.out rfl
              have HAB := hid hab
              clear hab
              have HVZ := hid (show Rw wz (.slice pa d.length pc) d from HVW.out wz MZ.out.1)
              have HLd := hid ((HVZ.out.load).mono (fun e w' (q : LdPost d wz e w') => show ∃ p1 c1 p2 c2, e = .returned (.tuple #[.agg #[.slice p1 a.length c1, .slice p2 b.length c2], .int .i64 0]) ∧ OwnI 0 w' (.slice p1 a.length c1) a ∧ OwnI 0 w' (.slice p2 b.length c2) b ∧ Old wz w' from by
                rcases q with ⟨o, ⟨a', b', v1, v2, e1, rfl, r1, r2⟩ | ⟨e1, _⟩⟩
                · rw [HAB.out] at e1; cases e1; obtain ⟨_, _, rfl⟩ := r1.len; obtain ⟨_, _, rfl⟩ := r2.len; exact ⟨_, _, _, _, rfl, r1.mono (Nat.zero_le _), r2.mono (Nat.zero_le _), o⟩
                · rw [HAB.out] at e1; cases e1))
              go_upto_region 4 with (go_at_call 47; refine HLd.out.mono ?_; rintro e wl ⟨p1, c1, p2, c2, rfl, r1, r2, ol⟩; have R1 := hid r1; have R2 := hid r2; have OL := hid ol; clear r1 r2 ol)
              have UC := hid ((Old.refl wl).alloc (.cells #[.slice p1 a.length c1, .slice p2 b.length c2] 24))
              have BC := hid (alloc_at wl (.cells #[.slice p1 a.length c1, .slice p2 b.length c2] 24))
              have HCn := hid (show wl.heap.size ≠ lb ∧ ∀ g, (Value.slice qv cs.length dv).ownBlock = some g → wl.heap.size ≠ g from ⟨fun e => by have := heap_lt (OL.out.block LZ.out.bx); omega, fun g e q => by have := (LZ.out.oc.lt g e).2; have := OL.out.size; omega⟩)
              have A4 := hid ((LZ.out.old OL.out).old UC.out)
              have S4 := hid (UC.out.block (OL.out.block SZ.out))
              have R14 := hid (R1.out.up UC.out)
              have R24 := hid (R2.out.up UC.out)
              have M4 := hid (MZ.out.trans (Mov.old (OL.out.trans UC.out)))
              have HBz := hid (show base ≤ wl.heap.size from by have := LZ.out.bb; have := heap_lt (OL.out.block LZ.out.bx); omega)
              have HCZ := hid (show wl.heap.size ≤ (wl.alloc (.cells #[.slice p1 a.length c1, .slice p2 b.length c2] 24)).heap.size from UC.out.size)
              clear x0 x1 x2 x3 LZ MZ SZ R1 R2 HLd HVZ
              generalize hcb : wl.heap.size = cb at *
              generalize wl.alloc (.cells #[.slice p1 a.length c1, .slice p2 b.length c2] 24) = w4 at *
              clear hcb OL UC
              refine wp_region_noPanic ?_
              refine wp_region_held_drew (S := fun wz => EB4 eb i t 2 pa d.length pc wz ∧ wz.cell? ⟨cb, 0, none⟩ = some (.slice p1 a.length c1) ∧ wz.cell? ⟨cb, 1, none⟩ = some (.slice p2 b.length c2)) (by kernel_rfl) ?_ (fun hHeld => ?_)
              · exact ⟨EBx.c (((Old.refl _).drew).block S4.out), box2 (((Old.refl _).drew).block BC.out)⟩
              (try simp only [Act.put]); (try simp only [List.setIfInBounds_toArray]); (try simp only [List.set_cons_succ]); (try simp only [List.set_cons_zero])
              clear hHeld
              refine wpAnyH_take (i := 0) (oi := { dst := some 26, op := Op.move (Operand.tmp 0), type := 26, pos := "rlog.go:95", after := #[], guard := none }) (v := ?vk36) rfl (by kernel_rfl) (by kernel_rfl) (by kernel_rfl) (fun _ _ _ h => h) (Or.inl ⟨by rfl, ?hk36⟩) ⟨EBx.c (((Old.refl _).drew).block S4.out), box2 (((Old.refl _).drew).block BC.out)⟩ ?rk36
              case hk36 => (intro wz hSw; (try dsimp only at hSw); go_simp; try with_reducible rfl)
              (try simp only [Act.put]); (try simp only [List.setIfInBounds_toArray]); (try simp only [List.set_cons_succ]); (try simp only [List.set_cons_zero])
              refine wpAnyH_take (i := 1) (oi := { dst := some 27, op := Op.move (Operand.tmp 0), type := 26, pos := "rlog.go:95", after := #[], guard := none }) (v := ?vk37) rfl (by kernel_rfl) (by kernel_rfl) (by kernel_rfl) (fun _ _ _ h => h) (Or.inl ⟨by rfl, ?hk37⟩) ⟨EBx.c (((Old.refl _).drew).block S4.out), box2 (((Old.refl _).drew).block BC.out)⟩ ?rk37
              case hk37 => (intro wz hSw; (try dsimp only at hSw); go_simp; try with_reducible rfl)
              (try simp only [Act.put]); (try simp only [List.setIfInBounds_toArray]); (try simp only [List.set_cons_succ]); (try simp only [List.set_cons_zero])
              refine wpAnyH_take (i := 2) (oi := { dst := some 28, op := Op.nilCheck (Operand.tmp 27), type := 0, pos := "rlog.go:95", after := #[{ on := 1, ground := Ground.data }], guard := none }) (v := ?vk38) rfl (by kernel_rfl) (by kernel_rfl) (by kernel_rfl) (fun _ _ _ h => h) (Or.inl ⟨by rfl, ?hk38⟩) ⟨EBx.c (((Old.refl _).drew).block S4.out), box2 (((Old.refl _).drew).block BC.out)⟩ ?rk38
              case hk38 => (intro wz hSw; (try dsimp only at hSw); go_simp; try with_reducible rfl)
              (try simp only [Act.put]); (try simp only [List.setIfInBounds_toArray]); (try simp only [List.set_cons_succ]); (try simp only [List.set_cons_zero])
              refine wpAnyH_take (i := 3) (oi := { dst := some 29, op := Op.fieldAddr 68 (Operand.tmp 28) 3, type := 0, pos := "rlog.go:95", after := #[{ on := 2, ground := Ground.data }], guard := none }) (v := ?vk39) rfl (by kernel_rfl) (by kernel_rfl) (by kernel_rfl) (fun _ _ _ h => h) (Or.inl ⟨by rfl, ?hk39⟩) ⟨EBx.c (((Old.refl _).drew).block S4.out), box2 (((Old.refl _).drew).block BC.out)⟩ ?rk39
              case hk39 => (intro wz hSw; (try dsimp only at hSw); go_simp; try with_reducible rfl)
              (try simp only [Act.put]); (try simp only [List.setIfInBounds_toArray]); (try simp only [List.set_cons_succ]); (try simp only [List.set_cons_zero])
              refine wpAnyH_take (i := 5) (oi := { dst := some 31, op := Op.fieldAddr 41 (Operand.tmp 3) 0, type := 0, pos := "rlog.go:95", after := #[], guard := none }) (v := ?vk40) rfl (by kernel_rfl) (by kernel_rfl) (by kernel_rfl) (fun _ _ _ h => h) (Or.inl ⟨by rfl, ?hk40⟩) ⟨EBx.c (((Old.refl _).drew).block S4.out), box2 (((Old.refl _).drew).block BC.out)⟩ ?rk40
              case hk40 => (intro wz hSw; (try dsimp only at hSw); go_simp; try with_reducible rfl)
              (try simp only [Act.put]); (try simp only [List.setIfInBounds_toArray]); (try simp only [List.set_cons_succ]); (try simp only [List.set_cons_zero])
              refine wpAnyH_take (i := 6) (oi := { dst := some 32, op := Op.load 2 (Operand.tmp 31), type := 2, pos := "rlog.go:95", after := #[{ on := 5, ground := Ground.data }], guard := none }) (v := ?vk41) rfl (by kernel_rfl) (by kernel_rfl) (by kernel_rfl) (fun _ _ _ h => h) (Or.inl ⟨by rfl, ?hk41⟩) ⟨EBx.c (((Old.refl _).drew).block S4.out), box2 (((Old.refl _).drew).block BC.out)⟩ ?rk41
              case hk41 => (intro wz hSw; (try dsimp only at hSw); go_simp; try with_reducible rfl)
              (try simp only [Act.put]); (try simp only [List.setIfInBounds_toArray]); (try simp only [List.set_cons_succ]); (try simp only [List.set_cons_zero])
              refine wpAnyH_take (i := 7) (oi := { dst := some 33, op := Op.load 24 (Operand.tmp 4), type := 24, pos := "rlog.go:95", after := #[], guard := none }) (v := ?vk42) rfl (by kernel_rfl) (by kernel_rfl) (by kernel_rfl) (fun _ _ _ h => h) (Or.inl ⟨by rfl, ?hk42⟩) ⟨EBx.c (((Old.refl _).drew).block S4.out), box2 (((Old.refl _).drew).block BC.out)⟩ ?rk42
              case hk42 => (intro wz hSw; (try dsimp only at hSw); go_simp; try with_reducible rfl)
              (try simp only [Act.put]); (try simp only [List.setIfInBounds_toArray]); (try simp only [List.set_cons_succ]); (try simp only [List.set_cons_zero])
              refine wpAnyH_take (i := 8) (oi := { dst := some 34, op := Op.build 65 #[(0, Operand.tmp 32), (1, Operand.tmp 33)], type := 65, pos := "rlog.go:95", after := #[{ on := 6, ground := Ground.data }, { on := 7, ground := Ground.data }], guard := none }) (v := ?vk43) rfl (by kernel_rfl) (by kernel_rfl) (by kernel_rfl) (fun _ _ _ h => h) (Or.inl ⟨by rfl, ?hk43⟩) ⟨EBx.c (((Old.refl _).drew).block S4.out), box2 (((Old.refl _).drew).block BC.out)⟩ ?rk43
              case hk43 => (intro wz hSw; (try dsimp only at hSw); go_simp; try with_reducible rfl)
              (try simp only [Act.put]); (try simp only [List.setIfInBounds_toArray]); (try simp only [List.set_cons_succ]); (try simp only [List.set_cons_zero])
              refine wpAnyH_ready (rs := [4, 9]) (by kernel_rfl) (by simp) ?_
              refine AllReadyH.cons (o := { dst := some 30, op := Op.load 66 (Operand.tmp 29), type := 66, pos := "rlog.go:95", after := #[{ on := 3, ground := Ground.data }], guard := none }) rfl (fun K hK => ?_) (AllReadyH.cons (o := { dst := some 35, op := Op.buildSlice 66 1 #[(0, Operand.tmp 34)], type := 66, pos := "rlog.go:95", after := #[{ on := 8, ground := Ground.data }], guard := none }) rfl (fun K hK => ?_) AllReadyH.nil)
              · skip
                refine stepLoadPs ?_ (.tmp 29) ?_ lb 3 qv cs.length dv ?_ (A4.out.old ((Old.refl _).drew)).cells.2.2.2.1 ?_
                · rfl
                · rfl
                · rfl
                refine hK.out _ _ ⟨EBx.c (((Old.refl _).drew).block S4.out), box2 (((Old.refl _).drew).block BC.out)⟩ (fun _ => ?_)
                clear hK K
                (try simp only [Act.put]); (try simp only [List.setIfInBounds_toArray]); (try simp only [List.set_cons_succ]); (try simp only [List.set_cons_zero])
                refine wpAnyH_ready (rs := [9]) (by kernel_rfl) (by simp) ?_
                refine AllReadyH.cons (o := { dst := some 35, op := Op.buildSlice 66 1 #[(0, Operand.tmp 34)], type := 66, pos := "rlog.go:95", after := #[{ on := 8, ground := Ground.data }], guard := none }) rfl (fun K hK => ?_) AllReadyH.nil
                · skip
                  refine stepBuild1P ?_ (.tmp 34) ?_ i p1 p2 a.length c1 b.length c2 ?_ ?_
                  · rfl
                  · rfl
                  · rfl
                  intro m44 y44 hm44 hy44
                  have R44 : y44.heap[m44]? = some (.cells #[.int .i64 i, .slice p1 a.length c1, .slice p2 b.length c2] 65 (0, 0)) := by rw [hy44, hm44]; exact alloc_at _ _
                  have V44 : Old _ y44 := show Old _ y44 from by rw [hy44]; exact (Old.refl _).alloc _
                  have A44 := (A4.out.old ((Old.refl _).drew)).old V44
                  have U44 := ((Old.refl w4).drew).trans V44
                  have S44 := V44.block (((Old.refl _).drew).block S4.out)
                  have B44 := V44.block (((Old.refl _).drew).block BC.out)
                  have N44 := (R14.out.up ((Old.refl _).drew)).up V44
                  have T44 := (R24.out.up ((Old.refl _).drew)).up V44
                  clear hm44 hy44
                  refine hK.out _ _ ⟨EBx.c (S44), box2 (B44)⟩ (fun _ => ?_)
                  clear hK K
                  (try simp only [Act.put]); (try simp only [List.setIfInBounds_toArray]); (try simp only [List.set_cons_succ]); (try simp only [List.set_cons_zero])
                  refine wpAnyH_ready (rs := [10]) (by kernel_rfl) (by simp) ?_
                  refine AllReadyH.cons (o := { dst := some 36, op := Op.call { callee := Callee.builtin Builtin.append, args := #[Operand.tmp 30, Operand.tmp 35], argTypes := #[66, 66] }, type := 66, pos := "rlog.go:95", after := #[{ on := 4, ground := Ground.data }, { on := 9, ground := Ground.data }], guard := none }) rfl (fun K hK => ?_) AllReadyH.nil
                  · skip
                    refine step_appPO ?_ (.tmp 30) (.tmp 35) ?_ base _ cs cs.length m44 ⟨i, .slice p1 a.length c1, .slice p2 b.length c2, a, b⟩ ?_ ?_ A44.oc R44 rfl rfl (by have := HL.out; omega) (by have := HBz.out; have := HCZ.out; have := U44.size; omega) ?_
                    · rfl
                    · rfl
                    · rfl
                    · rfl
                    intro v45 y45 o45 g45 z45
                    obtain ⟨P45, L45, M45⟩ := LogM.putC A44 ⟨i, .slice p1 a.length c1, .slice p2 b.length c2, a, b⟩ ⟨N44, T44⟩ o45 g45 z45
                    have S45 := (Chg.grown2 g45).heapAt (S44) (fun q => HEn.out (mem_mbl.2 (.inr (.inr (Option.mem_toList.1 q)))))
                    have B45 := (Chg.grown2 g45).heapAt (B44) (fun q => HCn.out.2 cb (Option.mem_toList.1 q) rfl)
                    obtain ⟨p45, c45, e45, -⟩ := o45.len
                    subst e45
                    clear o45 g45 z45
                    refine hK.out _ _ ⟨EBx.c (S45), box2 (B45)⟩ (fun _ => ?_)
                    clear hK K
                    (try simp only [Act.put]); (try simp only [List.setIfInBounds_toArray]); (try simp only [List.set_cons_succ]); (try simp only [List.set_cons_zero])
                    refine wpAnyH_take (i := 11) (oi := { dst := some 37, op := Op.nilCheck (Operand.tmp 26), type := 0, pos := "rlog.go:95", after := #[{ on := 0, ground := Ground.data }, { on := 0, ground := Ground.phase }, { on := 1, ground := Ground.phase }, { on := 2, ground := Ground.phase }, { on := 3, ground := Ground.phase }, { on := 4, ground := Ground.phase }, { on := 5, ground := Ground.phase }, { on := 6, ground := Ground.phase }, { on := 7, ground := Ground.phase }, { on := 8, ground := Ground.phase }, { on := 9, ground := Ground.phase }, { on := 10, ground := Ground.phase }], guard := none }) (v := ?vk46) rfl (by kernel_rfl) (by kernel_rfl) (by kernel_rfl) (fun _ _ _ h => h) (Or.inl ⟨by rfl, ?hk46⟩) ⟨EBx.c (S45), box2 (B45)⟩ ?rk46
                    case hk46 => (intro wz hSw; (try dsimp only at hSw); go_simp; try with_reducible rfl)
                    (try simp only [Act.put]); (try simp only [List.setIfInBounds_toArray]); (try simp only [List.set_cons_succ]); (try simp only [List.set_cons_zero])
                    refine wpAnyH_take (i := 12) (oi := { dst := some 38, op := Op.fieldAddr 68 (Operand.tmp 37) 3, type := 0, pos := "rlog.go:95", after := #[{ on := 11, ground := Ground.data }, { on := 0, ground := Ground.phase }, { on := 1, ground := Ground.phase }, { on := 2, ground := Ground.phase }, { on := 3, ground := Ground.phase }, { on := 4, ground := Ground.phase }, { on := 5, ground := Ground.phase }, { on := 6, ground := Ground.phase }, { on := 7, ground := Ground.phase }, { on := 8, ground := Ground.phase }, { on := 9, ground := Ground.phase }, { on := 10, ground := Ground.phase }], guard := none }) (v := ?vk47) rfl (by kernel_rfl) (by kernel_rfl) (by kernel_rfl) (fun _ _ _ h => h) (Or.inl ⟨by rfl, ?hk47⟩) ⟨EBx.c (S45), box2 (B45)⟩ ?rk47
                    case hk47 => (intro wz hSw; (try dsimp only at hSw); go_simp; try with_reducible rfl)
                    (try simp only [Act.put]); (try simp only [List.setIfInBounds_toArray]); (try simp only [List.set_cons_succ]); (try simp only [List.set_cons_zero])
                    refine wpAnyH_ready (rs := [13]) (by kernel_rfl) (by simp) ?_
                    refine AllReadyH.cons (o := { dst := none, op := Op.store 66 (Operand.tmp 38) (Operand.tmp 36), type := 0, pos := "rlog.go:95", after := #[{ on := 12, ground := Ground.data }, { on := 10, ground := Ground.data }, { on := 10, ground := Ground.chain }, { on := 0, ground := Ground.phase }, { on := 1, ground := Ground.phase }, { on := 2, ground := Ground.phase }, { on := 3, ground := Ground.phase }, { on := 4, ground := Ground.phase }, { on := 5, ground := Ground.phase }, { on := 6, ground := Ground.phase }, { on := 7, ground := Ground.phase }, { on := 8, ground := Ground.phase }, { on := 9, ground := Ground.phase }, { on := 10, ground := Ground.phase }], guard := none }) rfl (fun K hK => ?_) AllReadyH.nil
                    · skip
                      refine stepStorePs ?_ (.tmp 38) (.tmp 36) ?_ lb 3 p45 (cs.length + 1) c45 _ ?_ ?_ (box4 P45).2.2.2.1 (box4 P45).2.2.2.2.2.2.2 ?_
                      · rfl
                      · rfl
                      · rfl
                      · rfl
                      have S48 := set_other (i := 3) (v := .slice p45 (cs.length + 1) c45) (S45) (fun q => HEn.out (mem_mbl.2 (.inl q)))
                      have B48 := set_other (i := 3) (v := .slice p45 (cs.length + 1) c45) (B45) HCn.out.1
                      refine hK.out _ _ ⟨EBx.c (S48), box2 (B48)⟩ (fun _ => ?_)
                      clear hK K
                      (try simp only [Act.put]); (try simp only [List.setIfInBounds_toArray]); (try simp only [List.set_cons_succ]); (try simp only [List.set_cons_zero])
                      refine wpAnyH_done (by kernel_rfl) ?_ _
                      refine NoPanic.normal ?_
                      have LY := hid L45
                      have MY := hid (M4.out.trans (Mov.trans (Mov.old U44) M45))
                      clear L45 M45 P45
                      go_wp2
                      (try simp only [Exit.inBlock, Exit.then])
                      exact bodyPost_end (v := .tuple #[]) (by simp [results, Try.results32, go_sem]) rfl ⟨rfl, ⟨ix, tm, es ++ [⟨i, t, 2, ca30, cc30, d⟩], cs ++ [⟨i, .slice p1 a.length c1, .slice p2 b.length c2, a, b⟩], .slice p32 (es.length + 1) c32, .slice p45 (cs.length + 1) c45⟩, ⟨rfl, rfl, ⟨ca30, cc30, rfl⟩, ⟨[⟨i, .slice p1 a.length c1, .slice p2 b.length c2, a, b⟩], rfl, (by unfold cfOf; rw [if_pos rfl]; simp only [HAB.out]; rfl), (fun y hy => by simp at hy; subst hy; have := ldConf_small HAB.out; exact ⟨by dsimp only; omega, by dsimp only; omega⟩)⟩⟩, LY.out, MY.out⟩
              · skip
                refine stepBuild1P ?_ (.tmp 34) ?_ i p1 p2 a.length c1 b.length c2 ?_ ?_
                · rfl
                · rfl
                · rfl
                intro m49 y49 hm49 hy49
                have R49 : y49.heap[m49]? = some (.cells #[.int .i64 i, .slice p1 a.length c1, .slice p2 b.length c2] 65 (0, 0)) := by rw [hy49, hm49]; exact alloc_at _ _
                have V49 : Old _ y49 := show Old _ y49 from by rw [hy49]; exact (Old.refl _).alloc _
                have A49 := (A4.out.old ((Old.refl _).drew)).old V49
                have U49 := ((Old.refl w4).drew).trans V49
                have S49 := V49.block (((Old.refl _).drew).block S4.out)
                have B49 := V49.block (((Old.refl _).drew).block BC.out)
                have N49 := (R14.out.up ((Old.refl _).drew)).up V49
                have T49 := (R24.out.up ((Old.refl _).drew)).up V49
                clear hm49 hy49
                refine hK.out _ _ ⟨EBx.c (S49), box2 (B49)⟩ (fun _ => ?_)
                clear hK K
                (try simp only [Act.put]); (try simp only [List.setIfInBounds_toArray]); (try simp only [List.set_cons_succ]); (try simp only [List.set_cons_zero])
                refine wpAnyH_ready (rs := [4]) (by kernel_rfl) (by simp) ?_
                refine AllReadyH.cons (o := { dst := some 30, op := Op.load 66 (Operand.tmp 29), type := 66, pos := "rlog.go:95", after := #[{ on := 3, ground := Ground.data }], guard := none }) rfl (fun K hK => ?_) AllReadyH.nil
                · skip
                  refine stepLoadPs ?_ (.tmp 29) ?_ lb 3 qv cs.length dv ?_ A49.cells.2.2.2.1 ?_
                  · rfl
                  · rfl
                  · rfl
                  refine hK.out _ _ ⟨EBx.c (S49), box2 (B49)⟩ (fun _ => ?_)
                  clear hK K
                  (try simp only [Act.put]); (try simp only [List.setIfInBounds_toArray]); (try simp only [List.set_cons_succ]); (try simp only [List.set_cons_zero])
                  refine wpAnyH_ready (rs := [10]) (by kernel_rfl) (by simp) ?_
                  refine AllReadyH.cons (o := { dst := some 36, op := Op.call { callee := Callee.builtin Builtin.append, args := #[Operand.tmp 30, Operand.tmp 35], argTypes := #[66, 66] }, type := 66, pos := "rlog.go:95", after := #[{ on := 4, ground := Ground.data }, { on := 9, ground := Ground.data }], guard := none }) rfl (fun K hK => ?_) AllReadyH.nil
                  · skip
                    refine step_appPO ?_ (.tmp 30) (.tmp 35) ?_ base _ cs cs.length m49 ⟨i, .slice p1 a.length c1, .slice p2 b.length c2, a, b⟩ ?_ ?_ A49.oc R49 rfl rfl (by have := HL.out; omega) (by have := HBz.out; have := HCZ.out; have := U49.size; omega) ?_
                    · rfl
                    · rfl
                    · rfl
                    · rfl
                    intro v50 y50 o50 g50 z50
                    obtain ⟨P50, L50, M50⟩ := LogM.putC A49 ⟨i, .slice p1 a.length c1, .slice p2 b.length c2, a, b⟩ ⟨N49, T49⟩ o50 g50 z50
                    have S50 := (Chg.grown2 g50).heapAt (S49) (fun q => HEn.out (mem_mbl.2 (.inr (.inr (Option.mem_toList.1 q)))))
                    have B50 := (Chg.grown2 g50).heapAt (B49) (fun q => HCn.out.2 cb (Option.mem_toList.1 q) rfl)
                    obtain ⟨p50, c50, e50, -⟩ := o50.len
                    subst e50
                    clear o50 g50 z50
                    refine hK.out _ _ ⟨EBx.c (S50), box2 (B50)⟩ (fun _ => ?_)
                    clear hK K
                    (try simp only [Act.put]); (try simp only [List.setIfInBounds_toArray]); (try simp only [List.set_cons_succ]); (try simp only [List.set_cons_zero])
                    refine wpAnyH_take (i := 11) (oi := { dst := some 37, op := Op.nilCheck (Operand.tmp 26), type := 0, pos := "rlog.go:95", after := #[{ on := 0, ground := Ground.data }, { on := 0, ground := Ground.phase }, { on := 1, ground := Ground.phase }, { on := 2, ground := Ground.phase }, { on := 3, ground := Ground.phase }, { on := 4, ground := Ground.phase }, { on := 5, ground := Ground.phase }, { on := 6, ground := Ground.phase }, { on := 7, ground := Ground.phase }, { on := 8, ground := Ground.phase }, { on := 9, ground := Ground.phase }, { on := 10, ground := Ground.phase }], guard := none }) (v := ?vk51) rfl (by kernel_rfl) (by kernel_rfl) (by kernel_rfl) (fun _ _ _ h => h) (Or.inl ⟨by rfl, ?hk51⟩) ⟨EBx.c (S50), box2 (B50)⟩ ?rk51
                    case hk51 => (intro wz hSw; (try dsimp only at hSw); go_simp; try with_reducible rfl)
                    (try simp only [Act.put]); (try simp only [List.setIfInBounds_toArray]); (try simp only [List.set_cons_succ]); (try simp only [List.set_cons_zero])
                    refine wpAnyH_take (i := 12) (oi := { dst := some 38, op := Op.fieldAddr 68 (Operand.tmp 37) 3, type := 0, pos := "rlog.go:95", after := #[{ on := 11, ground := Ground.data }, { on := 0, ground := Ground.phase }, { on := 1, ground := Ground.phase }, { on := 2, ground := Ground.phase }, { on := 3, ground := Ground.phase }, { on := 4, ground := Ground.phase }, { on := 5, ground := Ground.phase }, { on := 6, ground := Ground.phase }, { on := 7, ground := Ground.phase }, { on := 8, ground := Ground.phase }, { on := 9, ground := Ground.phase }, { on := 10, ground := Ground.phase }], guard := none }) (v := ?vk52) rfl (by kernel_rfl) (by kernel_rfl) (by kernel_rfl) (fun _ _ _ h => h) (Or.inl ⟨by rfl, ?hk52⟩) ⟨EBx.c (S50), box2 (B50)⟩ ?rk52
                    case hk52 => (intro wz hSw; (try dsimp only at hSw); go_simp; try with_reducible rfl)
                    (try simp only [Act.put]); (try simp only [List.setIfInBounds_toArray]); (try simp only [List.set_cons_succ]); (try simp only [List.set_cons_zero])
                    refine wpAnyH_ready (rs := [13]) (by kernel_rfl) (by simp) ?_
                    refine AllReadyH.cons (o := { dst := none, op := Op.store 66 (Operand.tmp 38) (Operand.tmp 36), type := 0, pos := "rlog.go:95", after := #[{ on := 12, ground := Ground.data }, { on := 10, ground := Ground.data }, { on := 10, ground := Ground.chain }, { on := 0, ground := Ground.phase }, { on := 1, ground := Ground.phase }, { on := 2, ground := Ground.phase }, { on := 3, ground := Ground.phase }, { on := 4, ground := Ground.phase }, { on := 5, ground := Ground.phase }, { on := 6, ground := Ground.phase }, { on := 7, ground := Ground.phase }, { on := 8, ground := Ground.phase }, { on := 9, ground := Ground.phase }, { on := 10, ground := Ground.phase }], guard := none }) rfl (fun K hK => ?_) AllReadyH.nil
                    · skip
                      refine stepStorePs ?_ (.tmp 38) (.tmp 36) ?_ lb 3 p50 (cs.length + 1) c50 _ ?_ ?_ (box4 P50).2.2.2.1 (box4 P50).2.2.2.2.2.2.2 ?_
                      · rfl
                      · rfl
                      · rfl
                      · rfl
                      have S53 := set_other (i := 3) (v := .slice p50 (cs.length + 1) c50) (S50) (fun q => HEn.out (mem_mbl.2 (.inl q)))
                      have B53 := set_other (i := 3) (v := .slice p50 (cs.length + 1) c50) (B50) HCn.out.1
                      refine hK.out _ _ ⟨EBx.c (S53), box2 (B53)⟩ (fun _ => ?_)
                      clear hK K
                      (try simp only [Act.put]); (try simp only [List.setIfInBounds_toArray]); (try simp only [List.set_cons_succ]); (try simp only [List.set_cons_zero])
                      refine wpAnyH_done (by kernel_rfl) ?_ _
                      refine NoPanic.normal ?_
                      have LY := hid L50
                      have MY := hid (M4.out.trans (Mov.trans (Mov.old U49) M50))
                      clear L50 M50 P50
                      go_wp2
                      (try simp only [Exit.inBlock, Exit.then])
                      exact bodyPost_end (v := .tuple #[]) (by simp [results, Try.results32, go_sem]) rfl ⟨rfl, ⟨ix, tm, es ++ [⟨i, t, 2, ca30, cc30, d⟩], cs ++ [⟨i, .slice p1 a.length c1, .slice p2 b.length c2, a, b⟩], .slice p32 (es.length + 1) c32, .slice p50 (cs.length + 1) c50⟩, ⟨rfl, rfl, ⟨ca30, cc30, rfl⟩, ⟨[⟨i, .slice p1 a.length c1, .slice p2 b.length c2, a, b⟩], rfl, (by unfold cfOf; rw [if_pos rfl]; simp only [HAB.out]; rfl), (fun y hy => by simp at hy; subst hy; have := ldConf_small HAB.out; exact ⟨by dsimp only; omega, by dsimp only; omega⟩)⟩⟩, LY.out, MY.out⟩
            · have e2 : (k == 2) = false := by simp [hk2]
              have HK2 := hid hk2
              clear hk2
              go_wp2
              (try simp only [Exit.inBlock, Exit.then])
              exact bodyPost_end (v := .tuple #[]) (by simp [results, Try.results32, go_sem]) rfl ⟨rfl, ⟨ix, tm, es ++ [⟨i, t, k, ca30, cc30, d⟩], cs, .slice p32 (es.length + 1) c32, .slice qv cs.length dv⟩, ⟨rfl, rfl, ⟨ca30, cc30, rfl⟩, ⟨[], (by simp), (by unfold cfOf; rw [if_neg HK2.out]; rfl), (fun y hy => by cases hy)⟩⟩, LZ.out, by first | exact MZ.out | (rw [← heb] at *; exact MZ.out)⟩
    · skip
      refine stepBuild1E ?_ (.tmp 12) ?_ ⟨i, t, k, ca30, d.length, cc30⟩ ?_ ?_
      · rfl
      · rfl
      · rfl
      intro m54 y54 hm54 hy54
      have R54 : EntIn y54 m54 0 ⟨i, t, k, ca30, d.length, cc30⟩ := by rw [hy54]; exact cell_oneE _ _ _ hm54.symm
      have V54 : Old _ y54 := show Old _ y54 from by rw [hy54]; exact (Old.refl _).alloc _
      have A54 := A30.old V54
      have U54 := U30.trans V54
      have S54 := V54.block S30
      have N54 := Own.old n30.1 V54
      clear hm54 hy54
      refine hK.out _ _ (EBx.c S54) (fun _ => ?_)
      clear hK K
      (try simp only [Act.put]); (try simp only [List.setIfInBounds_toArray]); (try simp only [List.set_cons_succ]); (try simp only [List.set_cons_zero])
      refine wpAnyH_ready (rs := [4]) (by kernel_rfl) (by simp) ?_
      refine AllReadyH.cons (o := { dst := some 10, op := Op.load 29 (Operand.tmp 9), type := 29, pos := "rlog.go:92", after := #[{ on := 3, ground := Ground.data }], guard := none }) rfl (fun K hK => ?_) AllReadyH.nil
      · skip
        refine stepLoadE ?_ (.tmp 9) ?_ lb 2 pv es.length cv ?_ A54.cells.2.2.1 ?_
        · rfl
        · rfl
        · rfl
        refine hK.out _ _ (EBx.c S54) (fun _ => ?_)
        clear hK K
        (try simp only [Act.put]); (try simp only [List.setIfInBounds_toArray]); (try simp only [List.set_cons_succ]); (try simp only [List.set_cons_zero])
        refine wpAnyH_ready (rs := [8]) (by kernel_rfl) (by simp) ?_
        refine AllReadyH.cons (o := { dst := some 14, op := Op.call { callee := Callee.builtin Builtin.append, args := #[Operand.tmp 10, Operand.tmp 13], argTypes := #[29, 29] }, type := 29, pos := "rlog.go:92", after := #[{ on := 4, ground := Ground.data }, { on := 7, ground := Ground.data }, { on := 6, ground := Ground.chain }], guard := none }) rfl (fun K hK => ?_) AllReadyH.nil
        · skip
          refine step_appEO ?_ (.tmp 10) (.tmp 13) ?_ base _ (es.map En.e) es.length m54 ⟨i, t, k, ca30, d.length, cc30⟩ ?_ ?_ A54.oe R54 (by have := HL.out; omega) (by have := HBs.out; have := HU0.out.size; have := U54.size; omega) ?_
          · rfl
          · rfl
          · rfl
          · rfl
          intro v55 y55 o55 g55 z55
          obtain ⟨P55, L55, M55⟩ := LogM.putE A54 ⟨i, t, k, ca30, cc30, d⟩ N54 o55 g55 z55
          have S55 := (Chg.grown2 g55).heapAt S54 (fun q => HEn.out (mem_mbl.2 (.inr (.inl (Option.mem_toList.1 q)))))
          obtain ⟨p55, c55, e55, -⟩ := o55.len
          subst e55
          clear o55 g55 z55
          refine hK.out _ _ (EBx.c S55) (fun _ => ?_)
          clear hK K
          (try simp only [Act.put]); (try simp only [List.setIfInBounds_toArray]); (try simp only [List.set_cons_succ]); (try simp only [List.set_cons_zero])
          refine wpAnyH_take (i := 9) (oi := { dst := some 15, op := Op.nilCheck (Operand.tmp 6), type := 0, pos := "rlog.go:92", after := #[{ on := 0, ground := Ground.data }, { on := 0, ground := Ground.phase }, { on := 1, ground := Ground.phase }, { on := 2, ground := Ground.phase }, { on := 3, ground := Ground.phase }, { on := 4, ground := Ground.phase }, { on := 5, ground := Ground.phase }, { on := 6, ground := Ground.phase }, { on := 7, ground := Ground.phase }, { on := 8, ground := Ground.phase }], guard := none }) (v := ?vk56) rfl (by kernel_rfl) (by kernel_rfl) (by kernel_rfl) (fun _ _ _ h => h) (Or.inl ⟨by rfl, ?hk56⟩) (EBx.c S55) ?rk56
          case hk56 => (intro wz hSw; (try dsimp only at hSw); go_simp; try with_reducible rfl)
          (try simp only [Act.put]); (try simp only [List.setIfInBounds_toArray]); (try simp only [List.set_cons_succ]); (try simp only [List.set_cons_zero])
          refine wpAnyH_take (i := 10) (oi := { dst := some 16, op := Op.fieldAddr 68 (Operand.tmp 15) 2, type := 0, pos := "rlog.go:92", after := #[{ on := 9, ground := Ground.data }, { on := 0, ground := Ground.phase }, { on := 1, ground := Ground.phase }, { on := 2, ground := Ground.phase }, { on := 3, ground := Ground.phase }, { on := 4, ground := Ground.phase }, { on := 5, ground := Ground.phase }, { on := 6, ground := Ground.phase }, { on := 7, ground := Ground.phase }, { on := 8, ground := Ground.phase }], guard := none }) (v := ?vk57) rfl (by kernel_rfl) (by kernel_rfl) (by kernel_rfl) (fun _ _ _ h => h) (Or.inl ⟨by rfl, ?hk57⟩) (EBx.c S55) ?rk57
          case hk57 => (intro wz hSw; (try dsimp only at hSw); go_simp; try with_reducible rfl)
          (try simp only [Act.put]); (try simp only [List.setIfInBounds_toArray]); (try simp only [List.set_cons_succ]); (try simp only [List.set_cons_zero])
          refine wpAnyH_ready (rs := [11]) (by kernel_rfl) (by simp) ?_
          refine AllReadyH.cons (o := { dst := none, op := Op.store 29 (Operand.tmp 16) (Operand.tmp 14), type := 0, pos := "rlog.go:92", after := #[{ on := 10, ground := Ground.data }, { on := 8, ground := Ground.data }, { on := 8, ground := Ground.chain }, { on := 0, ground := Ground.phase }, { on := 1, ground := Ground.phase }, { on := 2, ground := Ground.phase }, { on := 3, ground := Ground.phase }, { on := 4, ground := Ground.phase }, { on := 5, ground := Ground.phase }, { on := 6, ground := Ground.phase }, { on := 7, ground := Ground.phase }, { on := 8, ground := Ground.phase }], guard := none }) rfl (fun K hK => ?_) AllReadyH.nil
          · skip
            refine stepStoreE ?_ (.tmp 16) (.tmp 14) ?_ lb 2 p55 (es.length + 1) c55 _ ?_ ?_ (box4 P55).2.2.1 (box4 P55).2.2.2.2.2.2.1 ?_
            · rfl
            · rfl
            · rfl
            · rfl
            have S58 := set_other (i := 2) (v := .slice p55 (es.length + 1) c55) S55 (fun q => HEn.out (mem_mbl.2 (.inl q)))
            refine hK.out _ _ (EBx.c S58) (fun _ => ?_)
            clear hK K
            (try simp only [Act.put]); (try simp only [List.setIfInBounds_toArray]); (try simp only [List.set_cons_succ]); (try simp only [List.set_cons_zero])
            refine wpAnyH_done (by kernel_rfl) ?_ _
            refine NoPanic.normal ?_
            have LZ := hid L55
            have MZ := hid (Mov.trans (Mov.old (HU0.out.trans U54)) M55)
            have SZ := hid S58
            clear L55 M55 P55
            generalize World.setCell _ ⟨lb, 2, none⟩ (.slice p55 (es.length + 1) c55) = wz at *
            obtain ⟨x0, x1, x2, x3, -⟩ := box4 SZ.out
            by_cases hk2 : k = 2
            · subst hk2
              obtain ⟨a, b, hab⟩ := HK.out rfl
              have HAB := hid hab
              clear hab
              have HVZ := hid (show Rw wz (.slice pa d.length pc) d from HVW.out wz MZ.out.1)
              have HLd := hid ((HVZ.out.load).mono (fun e w' (q : LdPost d wz e w') => show ∃ p1 c1 p2 c2, e = .returned (.tuple #[.agg #[.slice p1 a.length c1, .slice p2 b.length c2], .int .i64 0]) ∧ OwnI 0 w' (.slice p1 a.length c1) a ∧ OwnI 0 w' (.slice p2 b.length c2) b ∧ Old wz w' from by
                rcases q with ⟨o, ⟨a', b', v1, v2, e1, rfl, r1, r2⟩ | ⟨e1, _⟩⟩
                · rw [HAB.out] at e1; cases e1; obtain ⟨_, _, rfl⟩ := r1.len; obtain ⟨_, _, rfl⟩ := r2.len; exact ⟨_, _, _, _, rfl, r1.mono (Nat.zero_le _), r2.mono (Nat.zero_le _), o⟩
                · rw [HAB.out] at e1; cases e1))
              go_upto_region 4 with (go_at_call 47; refine HLd.out.mono ?_; rintro e wl ⟨p1, c1, p2, c2, rfl, r1, r2, ol⟩; have R1 := hid r1; have R2 := hid r2; have OL := hid ol; clear r1 r2 ol)
              have UC := hid ((Old.refl wl).alloc (.cells #[.slice p1 a.length c1, .slice p2 b.length c2] 24))
              have BC := hid (alloc_at wl (.cells #[.slice p1 a.length c1, .slice p2 b.length c2] 24))
              have HCn := hid (show wl.heap.size ≠ lb ∧ ∀ g, (Value.slice qv cs.length dv).ownBlock = some g → wl.heap.size ≠ g from ⟨fun e => by have := heap_lt (OL.out.block LZ.out.bx); omega, fun g e q => by have := (LZ.out.oc.lt g e).2; have := OL.out.size; omega⟩)
              have A4 := hid ((LZ.out.old OL.out).old UC.out)
              have S4 := hid (UC.out.block (OL.out.block SZ.out))
              have R14 := hid (R1.out.up UC.out)
              have R24 := hid (R2.out.up UC.out)
              have M4 := hid (MZ.out.trans (Mov.old (OL.out.trans UC.out)))
              have HBz := hid (show base ≤ wl.heap.size from by have := LZ.out.bb; have := heap_lt (OL.out.block LZ.out.bx); omega)
              have HCZ := hid (show wl.heap.size ≤ (wl.alloc (.cells #[.slice p1 a.length c1, .slice p2 b.length c2] 24)).heap.size from UC.out.size)
              clear x0 x1 x2 x3 LZ MZ SZ R1 R2 HLd HVZ
              generalize hcb : wl.heap.size = cb at *
              generalize wl.alloc (.cells #[.slice p1 a.length c1, .slice p2 b.length c2] 24) = w4 at *
              clear hcb OL UC
              refine wp_region_noPanic ?_
              refine wp_region_held_drew (S := fun wz => EB4 eb i t 2 pa d.length pc wz ∧ wz.cell? ⟨cb, 0, none⟩ = some (.slice p1 a.length c1) ∧ wz.cell? ⟨cb, 1, none⟩ = some (.slice p2 b.length c2)) (by kernel_rfl) ?_ (fun hHeld => ?_)
              · exact ⟨EBx.c (((Old.refl _).drew).block S4.out), box2 (((Old.refl _).drew).block BC.out)⟩
              (try simp only [Act.put]); (try simp only [List.setIfInBounds_toArray]); (try simp only [List.set_cons_succ]); (try simp only [List.set_cons_zero])
              clear hHeld
              refine wpAnyH_take (i := 0) (oi := { dst := some 26, op := Op.move (Operand.tmp 0), type := 26, pos := "rlog.go:95", after := #[], guard := none }) (v := ?vk59) rfl (by kernel_rfl) (by kernel_rfl) (by kernel_rfl) (fun _ _ _ h => h) (Or.inl ⟨by rfl, ?hk59⟩) ⟨EBx.c (((Old.refl _).drew).block S4.out), box2 (((Old.refl _).drew).block BC.out)⟩ ?rk59
              case hk59 => (intro wz hSw; (try dsimp only at hSw); go_simp; try with_reducible rfl)
              (try simp only [Act.put]); (try simp only [List.setIfInBounds_toArray]); (try simp only [List.set_cons_succ]); (try simp only [List.set_cons_zero])
              refine wpAnyH_take (i := 1) (oi := { dst := some 27, op := Op.move (Operand.tmp 0), type := 26, pos := "rlog.go:95", after := #[], guard := none }) (v := ?vk60) rfl (by kernel_rfl) (by kernel_rfl) (by kernel_rfl) (fun _ _ _ h => h) (Or.inl ⟨by rfl, ?hk60⟩) ⟨EBx.c (((Old.refl _).drew).block S4.out), box2 (((Old.refl _).drew).block BC.out)⟩ ?rk60
              case hk60 => (intro wz hSw; (try dsimp only at hSw); go_simp; try with_reducible rfl)
              (try simp only [Act.put]); (try simp only [List.setIfInBounds_toArray]); (try simp only [List.set_cons_succ]); (try simp only [List.set_cons_zero])
              refine wpAnyH_take (i := 2) (oi := { dst := some 28, op := Op.nilCheck (Operand.tmp 27), type := 0, pos := "rlog.go:95", after := #[{ on := 1, ground := Ground.data }], guard := none }) (v := ?vk61) rfl (by kernel_rfl) (by kernel_rfl) (by kernel_rfl) (fun _ _ _ h => h) (Or.inl ⟨by rfl, ?hk61⟩) ⟨EBx.c (((Old.refl _).drew).block S4.out), box2 (((Old.refl _).drew).block BC.out)⟩ ?rk61
              case hk61 => (intro wz hSw; (try dsimp only at hSw); go_simp; try with_reducible rfl)
              (try simp only [Act.put]); (try simp only [List.setIfInBounds_toArray]); (try simp only [List.set_cons_succ]); (try simp only [List.set_cons_zero])
              refine wpAnyH_take (i := 3) (oi := { dst := some 29, op := Op.fieldAddr 68 (Operand.tmp 28) 3, type := 0, pos := "rlog.go:95", after := #[{ on := 2, ground := Ground.data }], guard := none }) (v := ?vk62) rfl (by kernel_rfl) (by kernel_rfl) (by kernel_rfl) (fun _ _ _ h => h) (Or.inl ⟨by rfl, ?hk62⟩) ⟨EBx.c (((Old.refl _).drew).block S4.out), box2 (((Old.refl _).drew).block BC.out)⟩ ?rk62
              case hk62 => (intro wz hSw; (try dsimp only at hSw); go_simp; try with_reducible rfl)
              (try simp only [Act.put]); (try simp only [List.setIfInBounds_toArray]); (try simp only [List.set_cons_succ]); (try simp only [List.set_cons_zero])
              refine wpAnyH_take (i := 5) (oi := { dst := some 31, op := Op.fieldAddr 41 (Operand.tmp 3) 0, type := 0, pos := "rlog.go:95", after := #[], guard := none }) (v := ?vk63) rfl (by kernel_rfl) (by kernel_rfl) (by kernel_rfl) (fun _ _ _ h => h) (Or.inl ⟨by rfl, ?hk63⟩) ⟨EBx.c (((Old.refl _).drew).block S4.out), box2 (((Old.refl _).drew).block BC.out)⟩ ?rk63
              case hk63 => (intro wz hSw; (try dsimp only at hSw); go_simp; try with_reducible rfl)
              (try simp only [Act.put]); (try simp only [List.setIfInBounds_toArray]); (try simp only [List.set_cons_succ]); (try simp only [List.set_cons_zero])
              refine wpAnyH_take (i := 6) (oi := { dst := some 32, op := Op.load 2 (Operand.tmp 31), type := 2, pos := "rlog.go:95", after := #[{ on := 5, ground := Ground.data }], guard := none }) (v := ?vk64) rfl (by kernel_rfl) (by kernel_rfl) (by kernel_rfl) (fun _ _ _ h => h) (Or.inl ⟨by rfl, ?hk64⟩) ⟨EBx.c (((Old.refl _).drew).block S4.out), box2 (((Old.refl _).drew).block BC.out)⟩ ?rk64
              case hk64 => (intro wz hSw; (try dsimp only at hSw); go_simp; try with_reducible rfl)
              (try simp only [Act.put]); (try simp only [List.setIfInBounds_toArray]); (try simp only [List.set_cons_succ]); (try simp only [List.set_cons_zero])
              refine wpAnyH_take (i := 7) (oi := { dst := some 33, op := Op.load 24 (Operand.tmp 4), type := 24, pos := "rlog.go:95", after := #[], guard := none }) (v := ?vk65) rfl (by kernel_rfl) (by kernel_rfl) (by kernel_rfl) (fun _ _ _ h => h) (Or.inl ⟨by rfl, ?hk65⟩) ⟨EBx.c (((Old.refl _).drew).block S4.out), box2 (((Old.refl _).drew).block BC.out)⟩ ?rk65
              case hk65 => (intro wz hSw; (try dsimp only at hSw); go_simp; try with_reducible rfl)
              (try simp only [Act.put]); (try simp only [List.setIfInBounds_toArray]); (try simp only [List.set_cons_succ]); (try simp only [List.set_cons_zero])
              refine wpAnyH_take (i := 8) (oi := { dst := some 34, op := Op.build 65 #[(0, Operand.tmp 32), (1, Operand.tmp 33)], type := 65, pos := "rlog.go:95", after := #[{ on := 6, ground := Ground.data }, { on := 7, ground := Ground.data }], guard := none }) (v := ?vk66) rfl (by kernel_rfl) (by kernel_rfl) (by kernel_rfl) (fun _ _ _ h => h) (Or.inl ⟨by rfl, ?hk66⟩) ⟨EBx.c (((Old.refl _).drew).block S4.out), box2 (((Old.refl _).drew).block BC.out)⟩ ?rk66
              case hk66 => (intro wz hSw; (try dsimp only at hSw); go_simp; try with_reducible rfl)
              (try simp only [Act.put]); (try simp only [List.setIfInBounds_toArray]); (try simp only [List.set_cons_succ]); (try simp only [List.set_cons_zero])
              refine wpAnyH_ready (rs := [4, 9]) (by kernel_rfl) (by simp) ?_
              refine AllReadyH.cons (o := { dst := some 30, op := Op.load 66 (Operand.tmp 29), type := 66, pos := "rlog.go:95", after := #[{ on := 3, ground := Ground.data }], guard := none }) rfl (fun K hK => ?_) (AllReadyH.cons (o := { dst := some 35, op := Op.buildSlice 66 1 #[(0, Operand.tmp 34)], type := 66, pos := "rlog.go:95", after := #[{ on := 8, ground := Ground.data }], guard := none }) rfl (fun K hK => ?_) AllReadyH.nil)
              · skip
                refine stepLoadPs ?_ (.tmp 29) ?_ lb 3 qv cs.length dv ?_ (A4.out.old ((Old.refl _).drew)).cells.2.2.2.1 ?_
                · rfl
                · rfl
                · rfl
                refine hK.out _ _ ⟨EBx.c (((Old.refl _).drew).block S4.out), box2 (((Old.refl _).drew).block BC.out)⟩ (fun _ => ?_)
                clear hK K
                (try simp only [Act.put]); (try simp only [List.setIfInBounds_toArray]); (try simp only [List.set_cons_succ]); (try simp only [List.set_cons_zero])
                refine wpAnyH_ready (rs := [9]) (by kernel_rfl) (by simp) ?_
                refine AllReadyH.cons (o := { dst := some 35, op := Op.buildSlice 66 1 #[(0, Operand.tmp 34)], type := 66, pos := "rlog.go:95", after := #[{ on := 8, ground := Ground.data }], guard := none }) rfl (fun K hK => ?_) AllReadyH.nil
                · skip
                  refine stepBuild1P ?_ (.tmp 34) ?_ i p1 p2 a.length c1 b.length c2 ?_ ?_
                  · rfl
                  · rfl
                  · rfl
                  intro m67 y67 hm67 hy67
                  have R67 : y67.heap[m67]? = some (.cells #[.int .i64 i, .slice p1 a.length c1, .slice p2 b.length c2] 65 (0, 0)) := by rw [hy67, hm67]; exact alloc_at _ _
                  have V67 : Old _ y67 := show Old _ y67 from by rw [hy67]; exact (Old.refl _).alloc _
                  have A67 := (A4.out.old ((Old.refl _).drew)).old V67
                  have U67 := ((Old.refl w4).drew).trans V67
                  have S67 := V67.block (((Old.refl _).drew).block S4.out)
                  have B67 := V67.block (((Old.refl _).drew).block BC.out)
                  have N67 := (R14.out.up ((Old.refl _).drew)).up V67
                  have T67 := (R24.out.up ((Old.refl _).drew)).up V67
                  clear hm67 hy67
                  refine hK.out _ _ ⟨EBx.c (S67), box2 (B67)⟩ (fun _ => ?_)
                  clear hK K
                  (try simp only [Act.put]); (try simp only [List.setIfInBounds_toArray]); (try simp only [List.set_cons_succ]); (try simp only [List.set_cons_zero])
                  refine wpAnyH_ready (rs := [10]) (by kernel_rfl) (by simp) ?_
                  refine AllReadyH.cons (o := { dst := some 36, op := Op.call { callee := Callee.builtin Builtin.append, args := #[Operand.tmp 30, Operand.tmp 35], argTypes := #[66, 66] }, type := 66, pos := "rlog.go:95", after := #[{ on := 4, ground := Ground.data }, { on := 9, ground := Ground.data }], guard := none }) rfl (fun K hK => ?_) AllReadyH.nil
                  · skip
                    refine step_appPO ?_ (.tmp 30) (.tmp 35) ?_ base _ cs cs.length m67 ⟨i, .slice p1 a.length c1, .slice p2 b.length c2, a, b⟩ ?_ ?_ A67.oc R67 rfl rfl (by have := HL.out; omega) (by have := HBz.out; have := HCZ.out; have := U67.size; omega) ?_
                    · rfl
                    · rfl
                    · rfl
                    · rfl
                    intro v68 y68 o68 g68 z68
                    obtain ⟨P68, L68, M68⟩ := LogM.putC A67 ⟨i, .slice p1 a.length c1, .slice p2 b.length c2, a, b⟩ ⟨N67, T67⟩ o68 g68 z68
                    have S68 := (Chg.grown2 g68).heapAt (S67) (fun q => HEn.out (mem_mbl.2 (.inr (.inr (Option.mem_toList.1 q)))))
                    have B68 := (Chg.grown2 g68).heapAt (B67) (fun q => HCn.out.2 cb (Option.mem_toList.1 q) rfl)
                    obtain ⟨p68, c68, e68, -⟩ := o68.len
                    subst e68
                    clear o68 g68 z68
                    refine hK.out _ _ ⟨EBx.c (S68), box2 (B68)⟩ (fun _ => ?_)
                    clear hK K
                    (try simp only [Act.put]); (try simp only [List.setIfInBounds_toArray]); (try simp only [List.set_cons_succ]); (try simp only [List.set_cons_zero])
                    refine wpAnyH_take (i := 11) (oi := { dst := some 37, op := Op.nilCheck (Operand.tmp 26), type := 0, pos := "rlog.go:95", after := #[{ on := 0, ground := Ground.data }, { on := 0, ground := Ground.phase }, { on := 1, ground := Ground.phase }, { on := 2, ground := Ground.phase }, { on := 3, ground := Ground.phase }, { on := 4, ground := Ground.phase }, { on := 5, ground := Ground.phase }, { on := 6, ground := Ground.phase }, { on := 7, ground := Ground.phase }, { on := 8, ground := Ground.phase }, { on := 9, ground := Ground.phase }, { on := 10, ground := Ground.phase }], guard := none }) (v := ?vk69) rfl (by kernel_rfl) (by kernel_rfl) (by kernel_rfl) (fun _ _ _ h => h) (Or.inl ⟨by rfl, ?hk69⟩) ⟨EBx.c (S68), box2 (B68)⟩ ?rk69
                    case hk69 => (intro wz hSw; (try dsimp only at hSw); go_simp; try with_reducible rfl)
                    (try simp only [Act.put]); (try simp only [List.setIfInBounds_toArray]); (try simp only [List.set_cons_succ]); (try simp only [List.set_cons_zero])
                    refine wpAnyH_take (i := 12) (oi := { dst := some 38, op := Op.fieldAddr 68 (Operand.tmp 37) 3, type := 0, pos := "rlog.go:95", after := #[{ on := 11, ground := Ground.data }, { on := 0, ground := Ground.phase }, { on := 1, ground := Ground.phase }, { on := 2, ground := Ground.phase }, { on := 3, ground := Ground.phase }, { on := 4, ground := Ground.phase }, { on := 5, ground := Ground.phase }, { on := 6, ground := Ground.phase }, { on := 7, ground := Ground.phase }, { on := 8, ground := Ground.phase }, { on := 9, ground := Ground.phase }, { on := 10, ground := Ground.phase }], guard := none }) (v := ?vk70) rfl (by kernel_rfl) (by kernel_rfl) (by kernel_rfl) (fun _ _ _ h => h) (Or.inl ⟨by rfl, ?hk70⟩) ⟨EBx.c (S68), box2 (B68)⟩ ?rk70
                    case hk70 => (intro wz hSw; (try dsimp only at hSw); go_simp; try with_reducible rfl)
                    (try simp only [Act.put]); (try simp only [List.setIfInBounds_toArray]); (try simp only [List.set_cons_succ]); (try simp only [List.set_cons_zero])
                    refine wpAnyH_ready (rs := [13]) (by kernel_rfl) (by simp) ?_
                    refine AllReadyH.cons (o := { dst := none, op := Op.store 66 (Operand.tmp 38) (Operand.tmp 36), type := 0, pos := "rlog.go:95", after := #[{ on := 12, ground := Ground.data }, { on := 10, ground := Ground.data }, { on := 10, ground := Ground.chain }, { on := 0, ground := Ground.phase }, { on := 1, ground := Ground.phase }, { on := 2, ground := Ground.phase }, { on := 3, ground := Ground.phase }, { on := 4, ground := Ground.phase }, { on := 5, ground := Ground.phase }, { on := 6, ground := Ground.phase }, { on := 7, ground := Ground.phase }, { on := 8, ground := Ground.phase }, { on := 9, ground := Ground.phase }, { on := 10, ground := Ground.phase }], guard := none }) rfl (fun K hK => ?_) AllReadyH.nil
                    · skip
                      refine stepStorePs ?_ (.tmp 38) (.tmp 36) ?_ lb 3 p68 (cs.length + 1) c68 _ ?_ ?_ (box4 P68).2.2.2.1 (box4 P68).2.2.2.2.2.2.2 ?_
                      · rfl
                      · rfl
                      · rfl
                      · rfl
                      have S71 := set_other (i := 3) (v := .slice p68 (cs.length + 1) c68) (S68) (fun q => HEn.out (mem_mbl.2 (.inl q)))
                      have B71 := set_other (i := 3) (v := .slice p68 (cs.length + 1) c68) (B68) HCn.out.1
                      refine hK.out _ _ ⟨EBx.c (S71), box2 (B71)⟩ (fun _ => ?_)
                      clear hK K
                      (try simp only [Act.put]); (try simp only [List.setIfInBounds_toArray]); (try simp only [List.set_cons_succ]); (try simp only [List.set_cons_zero])
                      refine wpAnyH_done (by kernel_rfl) ?_ _
                      refine NoPanic.normal ?_
                      have LY := hid L68
                      have MY := hid (M4.out.trans (Mov.trans (Mov.old U67) M68))
                      clear L68 M68 P68
                      go_wp2
                      (try simp only [Exit.inBlock, Exit.then])
                      exact bodyPost_end (v := .tuple #[]) (by simp [results, Try.results32, go_sem]) rfl ⟨rfl, ⟨ix, tm, es ++ [⟨i, t, 2, ca30, cc30, d⟩], cs ++ [⟨i, .slice p1 a.length c1, .slice p2 b.length c2, a, b⟩], .slice p55 (es.length + 1) c55, .slice p68 (cs.length + 1) c68⟩, ⟨rfl, rfl, ⟨ca30, cc30, rfl⟩, ⟨[⟨i, .slice p1 a.length c1, .slice p2 b.length c2, a, b⟩], rfl, (by unfold cfOf; rw [if_pos rfl]; simp only [HAB.out]; rfl), (fun y hy => by simp at hy; subst hy; have := ldConf_small HAB.out; exact ⟨by dsimp only; omega, by dsimp only; omega⟩)⟩⟩, LY.out, MY.out⟩
              · skip
                refine stepBuild1P ?_ (.tmp 34) ?_ i p1 p2 a.length c1 b.length c2 ?_ ?_
                · rfl
                · rfl
                · rfl
                intro m72 y72 hm72 hy72
                have R72 : y72.heap[m72]? = some (.cells #[.int .i64 i, .slice p1 a.length c1, .slice p2 b.length c2] 65 (0, 0)) := by rw [hy72, hm72]; exact alloc_at _ _
                have V72 : Old _ y72 := show Old _ y72 from by rw [hy72]; exact (Old.refl _).alloc _
                have A72 := (A4.out.old ((Old.refl _).drew)).old V72
                have U72 := ((Old.refl w4).drew).trans V72
                have S72 := V72.block (((Old.refl _).drew).block S4.out)
                have B72 := V72.block (((Old.refl _).drew).block BC.out)
                have N72 := (R14.out.up ((Old.refl _).drew)).up V72
                have T72 := (R24.out.up ((Old.refl _).drew)).up V72
                clear hm72 hy72
                refine hK.out _ _ ⟨EBx.c (S72), box2 (B72)⟩ (fun _ => ?_)
                clear hK K
                (try simp only [Act.put]); (try simp only [List.setIfInBounds_toArray]); (try simp only [List.set_cons_succ]); (try simp only [List.set_cons_zero])
                refine wpAnyH_ready (rs := [4]) (by kernel_rfl) (by simp) ?_
                refine AllReadyH.cons (o := { dst := some 30, op := Op.load 66 (Operand.tmp 29), type := 66, pos := "rlog.go:95", after := #[{ on := 3, ground := Ground.data }], guard := none }) rfl (fun K hK => ?_) AllReadyH.nil
                · skip
                  refine stepLoadPs ?_ (.tmp 29) ?_ lb 3 qv cs.length dv ?_ A72.cells.2.2.2.1 ?_
                  · rfl
                  · rfl
                  · rfl
                  refine hK.out _ _ ⟨EBx.c (S72), box2 (B72)⟩ (fun _ => ?_)
                  clear hK K
                  (try simp only [Act.put]); (try simp only [List.setIfInBounds_toArray]); (try simp only [List.set_cons_succ]); (try simp only [List.set_cons_zero])
                  refine wpAnyH_ready (rs := [10]) (by kernel_rfl) (by simp) ?_
                  refine AllReadyH.cons (o := { dst := some 36, op := Op.call { callee := Callee.builtin Builtin.append, args := #[Operand.tmp 30, Operand.tmp 35], argTypes := #[66, 66] }, type := 66, pos := "rlog.go:95", after := #[{ on := 4, ground := Ground.data }, { on := 9, ground := Ground.data }], guard := none }) rfl (fun K hK => ?_) AllReadyH.nil
                  · skip
                    refine step_appPO ?_ (.tmp 30) (.tmp 35) ?_ base _ cs cs.length m72 ⟨i, .slice p1 a.length c1, .slice p2 b.length c2, a, b⟩ ?_ ?_ A72.oc R72 rfl rfl (by have := HL.out; omega) (by have := HBz.out; have := HCZ.out; have := U72.size; omega) ?_
                    · rfl
                    · rfl
                    · rfl
                    · rfl
                    intro v73 y73 o73 g73 z73
                    obtain ⟨P73, L73, M73⟩ := LogM.putC A72 ⟨i, .slice p1 a.length c1, .slice p2 b.length c2, a, b⟩ ⟨N72, T72⟩ o73 g73 z73
                    have S73 := (Chg.grown2 g73).heapAt (S72) (fun q => HEn.out (mem_mbl.2 (.inr (.inr (Option.mem_toList.1 q)))))
                    have B73 := (Chg.grown2 g73).heapAt (B72) (fun q => HCn.out.2 cb (Option.mem_toList.1 q) rfl)
                    obtain ⟨p73, c73, e73, -⟩ := o73.len
                    subst e73
                    clear o73 g73 z73
                    refine hK.out _ _ ⟨EBx.c (S73), box2 (B73)⟩ (fun _ => ?_)
                    clear hK K
                    (try simp only [Act.put]); (try simp only [List.setIfInBounds_toArray]); (try simp only [List.set_cons_succ]); (try simp only [List.set_cons_zero])
                    refine wpAnyH_take (i := 11) (oi := { dst := some 37, op := Op.nilCheck (Operand.tmp 26), type := 0, pos := "rlog.go:95", after := #[{ on := 0, ground := Ground.data }, { on := 0, ground := Ground.phase }, { on := 1, ground := Ground.phase }, { on := 2, ground := Ground.phase }, { on := 3, ground := Ground.phase }, { on := 4, ground := Ground.phase }, { on := 5, ground := Ground.phase }, { on := 6, ground := Ground.phase }, { on := 7, ground := Ground.phase }, { on := 8, ground := Ground.phase }, { on := 9, ground := Ground.phase }, { on := 10, ground := Ground.phase }], guard := none }) (v := ?vk74) rfl (by kernel_rfl) (by kernel_rfl) (by kernel_rfl) (fun _ _ _ h => h) (Or.inl ⟨by rfl, ?hk74⟩) ⟨EBx.c (S73), box2 (B73)⟩ ?rk74
                    case hk74 => (intro wz hSw; (try dsimp only at hSw); go_simp; try with_reducible rfl)
                    (try simp only [Act.put]); (try simp only [List.setIfInBounds_toArray]); (try simp only [List.set_cons_succ]); (try simp only [List.set_cons_zero])
                    refine wpAnyH_take (i := 12) (oi := { dst := some 38, op := Op.fieldAddr 68 (Operand.tmp 37) 3, type := 0, pos := "rlog.go:95", after := #[{ on := 11, ground := Ground.data }, { on := 0, ground := Ground.phase }, { on := 1, ground := Ground.phase }, { on := 2, ground := Ground.phase }, { on := 3, ground := Ground.phase }, { on := 4, ground := Ground.phase }, { on := 5, ground := Ground.phase }, { on := 6, ground := Ground.phase }, { on := 7, ground := Ground.phase }, { on := 8, ground := Ground.phase }, { on := 9, ground := Ground.phase }, { on := 10, ground := Ground.phase }], guard := none }) (v := ?vk75) rfl (by kernel_rfl) (by kernel_rfl) (by kernel_rfl) (fun _ _ _ h => h) (Or.inl ⟨by rfl, ?hk75⟩) ⟨EBx.c (S73), box2 (B73)⟩ ?rk75
                    case hk75 => (intro wz hSw; (try dsimp only at hSw); go_simp; try with_reducible rfl)
                    (try simp only [Act.put]); (try simp only [List.setIfInBounds_toArray]); (try simp only [List.set_cons_succ]); (try simp only [List.set_cons_zero])
                    refine wpAnyH_ready (rs := [13]) (by kernel_rfl) (by simp) ?_
                    refine AllReadyH.cons (o := { dst := none, op := Op.store 66 (Operand.tmp 38) (Operand.tmp 36), type := 0, pos := "rlog.go:95", after := #[{ on := 12, ground := Ground.data }, { on := 10, ground := Ground.data }, { on := 10, ground := Ground.chain }, { on := 0, ground := Ground.phase }, { on := 1, ground := Ground.phase }, { on := 2, ground := Ground.phase }, { on := 3, ground := Ground.phase }, { on := 4, ground := Ground.phase }, { on := 5, ground := Ground.phase }, { on := 6, ground := Ground.phase }, { on := 7, ground := Ground.phase }, { on := 8, ground := Ground.phase }, { on := 9, ground := Ground.phase }, { on := 10, ground := Ground.phase }], guard := none }) rfl (fun K hK => ?_) AllReadyH.nil
                    · skip
                      refine stepStorePs ?_ (.tmp 38) (.tmp 36) ?_ lb 3 p73 (cs.length + 1) c73 _ ?_ ?_ (box4 P73).2.2.2.1 (box4 P73).2.2.2.2.2.2.2 ?_
                      · rfl
                      · rfl
                      · rfl
                      · rfl
                      have S76 := set_other (i := 3) (v := .slice p73 (cs.length + 1) c73) (S73) (fun q => HEn.out (mem_mbl.2 (.inl q)))
                      have B76 := set_other (i := 3) (v := .slice p73 (cs.length + 1) c73) (B73) HCn.out.1
                      refine hK.out _ _ ⟨EBx.c (S76), box2 (B76)⟩ (fun _ => ?_)
                      clear hK K
                      (try simp only [Act.put]); (try simp only [List.setIfInBounds_toArray]); (try simp only [List.set_cons_succ]); (try simp only [List.set_cons_zero])
                      refine wpAnyH_done (by kernel_rfl) ?_ _
                      refine NoPanic.normal ?_
                      have LY := hid L73
                      have MY := hid (M4.out.trans (Mov.trans (Mov.old U72) M73))
                      clear L73 M73 P73
                      go_wp2
                      (try simp only [Exit.inBlock, Exit.then])
                      exact bodyPost_end (v := .tuple #[]) (by simp [results, Try.results32, go_sem]) rfl ⟨rfl, ⟨ix, tm, es ++ [⟨i, t, 2, ca30, cc30, d⟩], cs ++ [⟨i, .slice p1 a.length c1, .slice p2 b.length c2, a, b⟩], .slice p55 (es.length + 1) c55, .slice p73 (cs.length + 1) c73⟩, ⟨rfl, rfl, ⟨ca30, cc30, rfl⟩, ⟨[⟨i, .slice p1 a.length c1, .slice p2 b.length c2, a, b⟩], rfl, (by unfold cfOf; rw [if_pos rfl]; simp only [HAB.out]; rfl), (fun y hy => by simp at hy; subst hy; have := ldConf_small HAB.out; exact ⟨by dsimp only; omega, by dsimp only; omega⟩)⟩⟩, LY.out, MY.out⟩
            · have e2 : (k == 2) = false := by simp [hk2]
              have HK2 := hid hk2
              clear hk2
              go_wp2
              (try simp only [Exit.inBlock, Exit.then])
              exact bodyPost_end (v := .tuple #[]) (by simp [results, Try.results32, go_sem]) rfl ⟨rfl, ⟨ix, tm, es ++ [⟨i, t, k, ca30, cc30, d⟩], cs, .slice p55 (es.length + 1) c55, .slice qv cs.length dv⟩, ⟨rfl, rfl, ⟨ca30, cc30, rfl⟩, ⟨[], (by simp), (by unfold cfOf; rw [if_neg HK2.out]; rfl), (fun y hy => by cases hy)⟩⟩, LZ.out, by first | exact MZ.out | (rw [← heb] at *; exact MZ.out)⟩
end Go.Proofs.Ytgpfmohaogppiaa
