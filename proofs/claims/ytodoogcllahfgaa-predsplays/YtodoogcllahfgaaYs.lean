/- Steps of a region that draws, for tables: calls, loads, stores, an item's row; no condition. -/
import Derived.Test.YtodoogcllahfgaaYf
import Derived.Deep.MidRow
namespace Go.Proofs.Ytodoogcllahfgaa
open Go.RowKit Go.Lib
set_option linter.unusedVariables false
set_option linter.unusedSimpArgs false
set_option maxRecDepth 20000
theorem stepCall1 {P : Program} {ops : Array Oper} {o : Oper} {a : Act} {w : World} {K : Act → World → Prop} {Q : Exit → Act → World → Prop} {E : Prop} (hg : o.guard = none) (F : FuncId) (x : Operand) (ts : Array TypeId)
    (hop : o.op = Op.call { callee := Callee.value (Operand.func F), args := #[x], argTypes := ts }) (u : Value) (hx : a.eval x = u) (hF : a.eval (Operand.func F) = .func (.func F) #[] #[])
    (henter : (callFunc F #[u]).run P w = .ok (.enter F #[u]) w)
    (hc : Calls P F #[u] w fun e w' => ∃ r, e = .returned r ∧ K (a.put o.dst r) w') :
    if Region.wanted o (yielded ops a.tmps) = true then Oper.wp P o a w K Q else E := by
  have hw : Region.wanted o (yielded ops a.tmps) = true := by simp [Region.wanted, hg]
  rw [if_pos hw]
  unfold Oper.wp
  simp [execOp, hop, resolve, invoke, hx, hF, Deferred.ofValue]
  rw [henter]
  refine hc.mono ?_
  rintro e w' ⟨r, rfl, hk⟩
  exact hk
theorem stepCall2 {P : Program} {ops : Array Oper} {o : Oper} {a : Act} {w : World} {K : Act → World → Prop} {Q : Exit → Act → World → Prop} {E : Prop} (hg : o.guard = none) (F : FuncId) (x y : Operand) (ts : Array TypeId)
    (hop : o.op = Op.call { callee := Callee.value (Operand.func F), args := #[x, y], argTypes := ts }) (u v : Value) (hx : a.eval x = u) (hy : a.eval y = v) (hF : a.eval (Operand.func F) = .func (.func F) #[] #[])
    (henter : (callFunc F #[u, v]).run P w = .ok (.enter F #[u, v]) w)
    (hc : Calls P F #[u, v] w fun e w' => ∃ r, e = .returned r ∧ K (a.put o.dst r) w') :
    if Region.wanted o (yielded ops a.tmps) = true then Oper.wp P o a w K Q else E := by
  have hw : Region.wanted o (yielded ops a.tmps) = true := by simp [Region.wanted, hg]
  rw [if_pos hw]
  unfold Oper.wp
  simp [execOp, hop, resolve, invoke, hx, hy, hF, Deferred.ofValue]
  rw [henter]
  refine hc.mono ?_
  rintro e w' ⟨r, rfl, hk⟩
  exact hk
theorem stepCall3 {P : Program} {ops : Array Oper} {o : Oper} {a : Act} {w : World} {K : Act → World → Prop} {Q : Exit → Act → World → Prop} {E : Prop} (hg : o.guard = none) (F : FuncId) (x y z : Operand) (ts : Array TypeId)
    (hop : o.op = Op.call { callee := Callee.value (Operand.func F), args := #[x, y, z], argTypes := ts }) (u v t : Value) (hx : a.eval x = u) (hy : a.eval y = v) (hz : a.eval z = t) (hF : a.eval (Operand.func F) = .func (.func F) #[] #[])
    (henter : (callFunc F #[u, v, t]).run P w = .ok (.enter F #[u, v, t]) w)
    (hc : Calls P F #[u, v, t] w fun e w' => ∃ r, e = .returned r ∧ K (a.put o.dst r) w') :
    if Region.wanted o (yielded ops a.tmps) = true then Oper.wp P o a w K Q else E := by
  have hw : Region.wanted o (yielded ops a.tmps) = true := by simp [Region.wanted, hg]
  rw [if_pos hw]
  unfold Oper.wp
  simp [execOp, hop, resolve, invoke, hx, hy, hz, hF, Deferred.ofValue]
  rw [henter]
  refine hc.mono ?_
  rintro e w' ⟨r, rfl, hk⟩
  exact hk
set_option maxHeartbeats 400000 in
set_option maxRecDepth 20000 in
theorem stepLoadS {ops : Array Oper} {o : Oper} {a : Act} {w : World} {K : Act → World → Prop} {Q : Exit → Act → World → Prop} {E : Prop} (hg : o.guard = none) (x : Operand) (hop : o.op = Op.load 44 x) (b off : Nat) (p : Option Addr) (n c : Nat)
    (hx : a.eval x = .pointer (some ⟨b, off, none⟩)) (hc : w.cell? ⟨b, off, none⟩ = some (.slice p n c)) (hK : K (a.put o.dst (.slice p n c)) w) :
    if Region.wanted o (yielded ops a.tmps) = true then Oper.wp Try.prog o a w K Q else E := by
  have hw : Region.wanted o (yielded ops a.tmps) = true := by simp [Region.wanted, hg]
  rw [if_pos hw]
  obtain ⟨d, q, t, ps, af, gd⟩ := o
  subst hop
  unfold Oper.wp execOp
  simp only [hx]
  go_simp
  exact hK
set_option maxHeartbeats 400000 in
set_option maxRecDepth 20000 in
theorem stepLoadN {ops : Array Oper} {o : Oper} {a : Act} {w : World} {K : Act → World → Prop} {Q : Exit → Act → World → Prop} {E : Prop} (hg : o.guard = none) (x : Operand) (hop : o.op = Op.load 2 x) (b off : Nat) (v : Int)
    (hx : a.eval x = .pointer (some ⟨b, off, none⟩)) (hc : w.cell? ⟨b, off, none⟩ = some (.int .i64 v)) (hK : K (a.put o.dst (.int .i64 v)) w) :
    if Region.wanted o (yielded ops a.tmps) = true then Oper.wp Try.prog o a w K Q else E := by
  have hw : Region.wanted o (yielded ops a.tmps) = true := by simp [Region.wanted, hg]
  rw [if_pos hw]
  obtain ⟨d, q, t, ps, af, gd⟩ := o
  subst hop
  unfold Oper.wp execOp
  simp only [hx]
  go_simp
  exact hK
set_option maxHeartbeats 400000 in
set_option maxRecDepth 20000 in
theorem stepStoreN {ops : Array Oper} {o : Oper} {a : Act} {w : World} {K : Act → World → Prop} {Q : Exit → Act → World → Prop} {E : Prop} (hg : o.guard = none) (x y : Operand) (hop : o.op = Op.store 2 x y) (m off : Nat) (v : Int)
    (hx : a.eval x = .pointer (some ⟨m, off, none⟩)) (hy : a.eval y = .int .i64 v) {z : Value} (hz : w.cell? ⟨m, off, none⟩ = some z) (hf : w.frozen? ⟨m, off, none⟩ = false)
    (hK : K (a.put o.dst undef) (w.setCell ⟨m, off, none⟩ (.int .i64 v))) :
    if Region.wanted o (yielded ops a.tmps) = true then Oper.wp Try.prog o a w K Q else E := by
  have hw : Region.wanted o (yielded ops a.tmps) = true := by simp [Region.wanted, hg]
  rw [if_pos hw]
  obtain ⟨d, q, t, ps, af, gd⟩ := o
  subst hop
  unfold Oper.wp execOp
  simp only [hx, hy]
  go_simp
  exact hK
set_option maxHeartbeats 400000 in
set_option maxRecDepth 20000 in
theorem stepStoreS {ops : Array Oper} {o : Oper} {a : Act} {w : World} {K : Act → World → Prop} {Q : Exit → Act → World → Prop} {E : Prop} (hg : o.guard = none) (x y : Operand) (hop : o.op = Op.store 44 x y) (m off : Nat) (p : Option Addr) (n c : Nat)
    (hx : a.eval x = .pointer (some ⟨m, off, none⟩)) (hy : a.eval y = .slice p n c) {z : Value} (hz : w.cell? ⟨m, off, none⟩ = some z) (hf : w.frozen? ⟨m, off, none⟩ = false)
    (hK : K (a.put o.dst undef) (w.setCell ⟨m, off, none⟩ (.slice p n c))) :
    if Region.wanted o (yielded ops a.tmps) = true then Oper.wp Try.prog o a w K Q else E := by
  have hw : Region.wanted o (yielded ops a.tmps) = true := by simp [Region.wanted, hg]
  rw [if_pos hw]
  obtain ⟨d, q, t, ps, af, gd⟩ := o
  subst hop
  unfold Oper.wp execOp
  simp only [hx, hy]
  go_simp
  exact hK
set_option maxHeartbeats 400000 in
set_option maxRecDepth 20000 in
theorem stepBuildI {ops : Array Oper} {o : Oper} {a : Act} {w : World} {K : Act → World → Prop} {Q : Exit → Act → World → Prop} {E : Prop} (hg : o.guard = none) (y : Operand) (hop : o.op = Op.buildSlice 44 1 #[(0, y)]) (x : It)
    (hx : a.eval y = .agg #[.float .f64 x.a, .float .f64 x.b, .bool x.p, .bool x.q, .int .i64 x.n])
    (hK : ∀ m w', m = w.heap.size → w' = w.alloc (.cells (itc x).toArray 49) → K (a.put o.dst (.slice (some ⟨m, 0, none⟩) 1 1)) w') :
    if Region.wanted o (yielded ops a.tmps) = true then Oper.wp Try.prog o a w K Q else E := by
  have hw : Region.wanted o (yielded ops a.tmps) = true := by simp [Region.wanted, hg]
  rw [if_pos hw]
  obtain ⟨d, p, t, ps, af, gd⟩ := o
  subst hop
  unfold Oper.wp execOp
  simp only [List.map_toArray, List.map_cons, List.map_nil, hx]
  go_simp
  exact hK _ _ rfl rfl
theorem wantCall1 {P : Program} {ops : Array Oper} {o : Oper} {a : Act} {w : World} {K : Act → World → Prop} {Q : Exit → Act → World → Prop} {E : Prop} (hw : Region.wanted o (yielded ops a.tmps) = true) (F : FuncId) (x : Operand) (ts : Array TypeId)
    (hop : o.op = Op.call { callee := Callee.value (Operand.func F), args := #[x], argTypes := ts }) (v : Value) (hx : a.eval x = v) (hF : a.eval (Operand.func F) = .func (.func F) #[] #[])
    (henter : (callFunc F #[v]).run P w = .ok (.enter F #[v]) w)
    (hc : Calls P F #[v] w fun e w' => ∃ r, e = .returned r ∧ K (a.put o.dst r) w') :
    if Region.wanted o (yielded ops a.tmps) = true then Oper.wp P o a w K Q else E := by
  rw [if_pos hw]
  unfold Oper.wp
  simp [execOp, hop, resolve, invoke, hx, hF, Deferred.ofValue]
  rw [henter]
  refine hc.mono ?_
  rintro e w' ⟨r, rfl, hk⟩
  exact hk
theorem wantCall2 {P : Program} {ops : Array Oper} {o : Oper} {a : Act} {w : World} {K : Act → World → Prop} {Q : Exit → Act → World → Prop} {E : Prop} (hw : Region.wanted o (yielded ops a.tmps) = true) (F : FuncId) (x y : Operand) (ts : Array TypeId)
    (hop : o.op = Op.call { callee := Callee.value (Operand.func F), args := #[x, y], argTypes := ts }) (u v : Value) (hx : a.eval x = u) (hy : a.eval y = v) (hF : a.eval (Operand.func F) = .func (.func F) #[] #[])
    (henter : (callFunc F #[u, v]).run P w = .ok (.enter F #[u, v]) w)
    (hc : Calls P F #[u, v] w fun e w' => ∃ r, e = .returned r ∧ K (a.put o.dst r) w') :
    if Region.wanted o (yielded ops a.tmps) = true then Oper.wp P o a w K Q else E := by
  rw [if_pos hw]
  unfold Oper.wp
  simp [execOp, hop, resolve, invoke, hx, hy, hF, Deferred.ofValue]
  rw [henter]
  refine hc.mono ?_
  rintro e w' ⟨r, rfl, hk⟩
  exact hk
theorem ent_ins (args : Array Value) (w : World) : (callFunc 22 args).run Try.prog w = .ok (.enter 22 args) w := by kernel_rfl
/-- One item's number is stored. -/
theorem itcs_set (m : Int) : ∀ (L : List It) (p : Nat), p < L.length → itcs (L.set p (withN (atI L p) m)) = (itcs L).set (p * 5 + (5 - 1)) (.int .i64 m)
  | [], p, h => by simp at h
  | y :: t, 0, _ => by
    rw [List.set_cons_zero, itcs_cons, itcs_cons, atI_zero, Nat.zero_mul, Nat.zero_add, List.set_append_left _ _ (by rw [itc_len]; decide)]
    rfl
  | y :: t, p + 1, h => by
    rw [List.set_cons_succ, itcs_cons, itcs_cons, atI_succ, itcs_set m t p (by simpa using h), List.set_append_right _ _ (by rw [itc_len]; omega), itc_len]
    congr 2
    omega
theorem Own.setN {base : Nat} {w : World} {g n cap p : Nat} {L : List It} (h : Own base w (.slice (some ⟨g, 0, none⟩) n cap) L) (hp : p < L.length) (m : Int) : Own base (w.setCell ⟨g, p * 5 + (5 - 1), none⟩ (.int .i64 m)) (.slice (some ⟨g, 0, none⟩) n cap) (L.set p (withN (atI L p) m)) := by
  rcases h.2 with ⟨e, _⟩ | ⟨g', cap', cur, e, hb, hg, hnc, hcm, hcs, htk⟩
  · cases e
  · simp only [Value.slice.injEq, Option.some.injEq, Addr.mk.injEq] at e
    obtain ⟨⟨rfl, _, _⟩, rfl, rfl⟩ := e
    rw [setCell_eq_setRow w g _ cur _ _ _ hg]
    have hl : (L.set p (withN (atI L p) m)).length = L.length := List.length_set ..
    have hr : RowIs (w.setRow g (cur.setIfInBounds (p * 5 + (5 - 1)) (.int .i64 m))) g L.length cap (cur.setIfInBounds (p * 5 + (5 - 1)) (.int .i64 m)) (L.set p (withN (atI L p) m)) := by
      refine ⟨setRow_heap w g cur _ _ _ hg, hl.symm, hnc, hcm, by simp [hcs], ?_⟩
      rw [itcs_set m L p hp, ← htk, Array.toList_setIfInBounds, List.take_set]
    exact hr.own hb
end Go.Proofs.Ytodoogcllahfgaa
