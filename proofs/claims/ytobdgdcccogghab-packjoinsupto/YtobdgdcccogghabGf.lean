/- What the function that Get hands to Read does for one number; conditions: the rows and the variables lie in memory and the number is there. -/
import Derived.Test.YtobdgdcccogghabGe
import Derived.Deep.AppendLies
import Derived.Deep.RegionLaw
namespace Go.Proofs.Ytobdgdcccogghab
open Go.RowKit
set_option linter.unusedVariables false
/-- A call of a Go function that returns, as one step of a region that draws. -/
theorem step_call {P : Program} {ops : Array Oper} {o : Oper} {a : Act} {w : World} {K : Act → World → Prop} {Q : Exit → Act → World → Prop} {E : Prop} (hg : o.guard = none) (F : FuncId) (s x : Operand) (ts : Array TypeId)
    (hop : o.op = Op.call { callee := Callee.value (Operand.func F), args := #[s, x], argTypes := ts }) (u v : Value) (hs : a.eval s = u) (hx : a.eval x = v) (hF : a.eval (Operand.func F) = .func (.func F) #[] #[])
    (henter : (callFunc F #[u, v]).run P w = .ok (.enter F #[u, v]) w)
    (hc : Calls P F #[u, v] w fun e w' => ∃ r, e = .returned r ∧ K (a.put o.dst r) w') :
    if Region.wanted o (yielded ops a.tmps) = true then Oper.wp P o a w K Q else E := by
  have hw : Region.wanted o (yielded ops a.tmps) = true := by simp [Region.wanted, hg]
  rw [if_pos hw]
  unfold Oper.wp
  simp [execOp, hop, resolve, invoke, hs, hx, hF, Deferred.ofValue]
  rw [henter]
  refine hc.mono ?_
  rintro e w' ⟨r, rfl, hk⟩
  exact hk
theorem infoVal : (Try.prog.info? 32).map (fun i => (i.zero, i.size, i.bytes)) = some (some (.agg #[.int .i64 0, .int .i64 0, .float .f64 0, .slice none 0 0, .bool false]), 5, 56) := by kernel_rfl
theorem RS.up {w w' : World} {R n : Nat} {x : Nat → Nat} (h : RS w R n x) (u : Up w w') : RS w' R n x := by
  obtain ⟨v, hr, hv, hne⟩ := h
  exact ⟨v, (u.block R (lt_of_block hr)).trans hr, hv.up u, hne⟩
theorem RS.cells {w : World} {R n b : Nat} {x : Nat → Nat} {p : Array Value} {t : TypeId} {fr : Nat × Nat} (h : RS w R n x) (hb : w.heap[b]? = some (.cells p t fr)) (hp : ∀ (j : Nat) (z : Int), p[j]? ≠ some (Value.int .u8 z)) (hR : R ≠ b) (j : Nat) (u : Value) : RS (w.setCell ⟨b, j, none⟩ u) R n x := by
  obtain ⟨v, hr, hv, hne⟩ := h
  refine ⟨v, (Below.heap_setCell w ⟨b, j, none⟩ u R hR).trans hr, hv.grown (row := some b) ⟨rfl, rfl, rfl, by simp, fun k _ hk => Below.heap_setCell w ⟨b, j, none⟩ u k (fun e => hk (by rw [e]))⟩ ?_, hne⟩
  rcases hv with ⟨e, _⟩ | ⟨hn, _, b', off, cap, rfl, hc, _⟩
  · exact .inl e
  · right
    intro e
    simp [Value.ownBlock] at e
    subst e
    have h1 := (hc 0 (by omega)).2
    simp [World.cell?, hb] at h1
    exact hp _ _ h1
theorem one_slice (v : Value) (hv : ∀ z : Int, v ≠ Value.int .u8 z) : ∀ (j : Nat) (z : Int), (#[v] : Array Value)[j]? ≠ some (Value.int .u8 z) := by
  intro j z
  match j with
  | 0 => simp; exact hv z
  | j + 1 => simp
theorem RS.drew {w : World} {R n : Nat} {x : Nat → Nat} (h : RS w R n x) : RS w.drew R n x := by
  obtain ⟨v, hr, hv, hne⟩ := h
  exact ⟨v, hr, hv.up ((Up.refl w).drew), hne⟩
theorem enter_val (args : Array Value) (w : World) : (callFunc 16 args).run Try.prog w = .ok (.enter 16 args) w := by kernel_rfl
theorem enter_get1 (args : Array Value) (w : World) : (callFunc 15 args).run Try.prog w = .ok (.enter 15 args) w := by kernel_rfl
set_option maxHeartbeats 2000000 in
theorem get1_num (R bk bv kb n : Nat) (tk tv : TypeId) (x : Nat → Nat) (w : World) (h : RS w R n x) (hk : lnK x n ≠ 0)
    (hkv : w.heap[bk]? = some (.cells #[.slice (some ⟨kb, 0, none⟩) 1 1] tk (0, 0))) (hkc : w.cell? ⟨kb, 0, none⟩ = some (.int .i64 1)) (hvv : w.heap[bv]? = some (.cells #[.slice none 0 0] tv (0, 0))) (h1 : bv ≠ R) (h2 : bk ≠ R) (h3 : kb ≠ R) :
    Calls Try.prog 15 #[.pointer (some ⟨R, 0, none⟩), .pointer (some ⟨bk, 0, none⟩), .pointer (some ⟨bv, 0, none⟩)] w fun e w' => e = .returned (.tuple #[]) ∧ RS w' R (n - lnK x n) (sh (lnK x n) x) ∧ (∃ g cap, w'.heap[bv]? = some (.cells #[.slice (some ⟨g, 0, none⟩) 1 cap] tv (0, 0)) ∧ w.heap.size ≤ g ∧ (∃ ty, w'.ownsRow w.heap.size ty 5 (.slice (some ⟨g, 0, none⟩) 1 cap) 1 [.int .i64 1, .int .i64 (lnV x n), .float .f64 0, .slice none 0 0, .bool false])) ∧ Chg [R, bv] w w' := by
  obtain ⟨i0, hi, hz0, hz1, hz2⟩ := info_parts infoVal
  have HV := hid (fun (W : World) (hW : RS W R n x) => val_num R n x W hW hk)
  have HR := hid h
  have ck : w.cell? ⟨bk, 0, none⟩ = some (.slice (some ⟨kb, 0, none⟩) 1 1) := cell_of_one hkv
  have cv : w.cell? ⟨bv, 0, none⟩ = some (.slice none 0 0) := cell_of_one hvv
  have fv : w.frozen? ⟨bv, 0, none⟩ = false := free_of_one hvv
  have HVV := hid hvv
  clear h hk hkv hvv
  generalize lnV x n = V at *
  generalize lnK x n = K at *
  go_enter Try.func15, Try.ntmps15
  go_wp2
  refine wp_loop_rounds 2 ?_
  rw [rounds_succ]
  go_wp2
  have hbv := lt_of_block HVV.out
  go_region_law (first | (refine step_call rfl 16 (.tmp 13) (.tmp 14) _ rfl (.pointer (some ⟨R, 0, none⟩)) (.int .i64 1) (by rfl) (by rfl) (by rfl) (enter_val _ _) ?_; refine (HV.out _ (RS.drew HR.out)).mono ?_; rintro e w1 ⟨rfl, r1, c1⟩; refine ⟨_, rfl, ?_⟩; have hv1 : w1.heap[bv]? = some (.cells #[.slice none 0 0] tv (0, 0)) := (c1.block bv hbv (by simp; omega)).trans HVV.out; have cv1 : w1.cell? ⟨bv, 0, none⟩ = some (.slice none 0 0) := cell_of_one hv1; have cv1a : (w1.alloc (.cells #[.int .i64 1, .int .i64 V, .float .f64 0, .slice none 0 0, .bool false] 32)).cell? ⟨bv, 0, none⟩ = some (.slice none 0 0) := ((Up.refl w1).alloc _).keep cv1; have HV1 := hid hv1; have HR1 := hid r1; have HC1 := hid c1; clear r1 c1 hv1) | (refine step_append_lies _ rfl (.tmp 12) (.tmp 16) 22 rfl w.heap.size 32 i0 _ 5 56 Try.underlying22 hi hz0 hz1 hz2 rfl (by decide) (.slice none 0 0) 0 [] (by rfl) (World.ownsRow_nil _ _ _ _) ⟨w1.heap.size, 0, none⟩ 1 1 [.int .i64 1, .int .i64 V, .float .f64 0, .slice none 0 0, .bool false] (by rfl) rfl (World.news_of_block (cs := #[.int .i64 1, .int .i64 V, .float .f64 0, .slice none 0 0, .bool false]) (t := 32) (fr := (0, 0)) (heap_alloc_new w1 _)) (by simp [Value.oneCell']) (by omega) (by unfold maxLen; omega) (by omega) (by have := HC1.out.size; simp at *; omega) (w1.heap.size + 1) (by simp) ?_; intro g cap w3 hown hgr hat hlt; have hv3 : w3.heap[bv]? = some (.cells #[.slice none 0 0] tv (0, 0)) := (hgr.block bv (by have := lt_of_block HV1.out; simp; omega) (by simp [Value.ownBlock])).trans ((Below.heap_alloc _ _ _ (lt_of_block HV1.out)).trans HV1.out); have cv3 : w3.cell? ⟨bv, 0, none⟩ = some (.slice none 0 0) := cell_of_one hv3; have fv3 : w3.frozen? ⟨bv, 0, none⟩ = false := free_of_one hv3; have HV3 := hid hv3; have HO3 := hid hown; have HG3 := hid hgr; clear hv3 hown hgr))
  all_goals go_wp2
  all_goals rw [rounds_succ]
  all_goals go_wp2
  all_goals go_end0
  all_goals
    have uA : Up w1 w3 := Below.trans ((Up.refl w1).alloc _) (Below.grown (Below.refl _ _) HG3.out (by simp) (fun k hk => by simp [Value.ownBlock] at hk))
    have hg : g = w1.heap.size + 1 := by rcases hat with h | h; simp [Value.ownBlock] at h; exact h
    have hs1 : w.heap.size ≤ w1.heap.size := HC1.out.size
    have hb1 : bv < w1.heap.size := lt_of_block HV1.out
    refine ⟨rfl, (HR1.out.up uA).cells HV3.out (one_slice _ (fun z => by simp)) (by omega) 0 _, ⟨g, cap, one_setCell HV3.out, by omega, 32, ownsRow_setCell_other HO3.out (by simp [Value.ownBlock]; omega) _⟩, ?_⟩
    have cc : Chg [R, bv] w w3 := Chg.up ((Up.refl w).drew) ((HC1.out.mono (by simp)).trans ⟨uA.os, uA.tape, uA.output, uA.size, fun k hk _ => uA.block k hk⟩)
    exact cc.trans (Chg.set _ _ _ (by simp))
end Go.Proofs.Ytobdgdcccogghab
