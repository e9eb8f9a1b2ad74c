/- A file's own functions: beyond, write, cut, sync; conditions: the file lies in memory. -/
import Derived.Test.YtfphopleniidfaaGreatDoorDe
namespace Go.Proofs.YtfphopleniidfaaGreatDoor
open Go.RowKit Go.Lib
set_option linter.unusedVariables false
set_option linter.unusedSimpArgs false
set_option maxRecDepth 20000
theorem stepLoadB {ops : Array Oper} {o : Oper} {a : Act} {w : World} {K : Act → World → Prop} {Q : Exit → Act → World → Prop} {E : Prop} (hg : o.guard = none) (x : Operand) (hop : o.op = Op.load 49 x) (b off : Nat) (p : Option Addr) (n c : Nat)
    (hx : a.eval x = .pointer (some ⟨b, off, none⟩)) (hc : w.cell? ⟨b, off, none⟩ = some (.slice p n c)) (hK : K (a.put o.dst (.slice p n c)) w) :
    if Region.wanted o (yielded ops a.tmps) = true then Oper.wp Tryz.prog o a w K Q else E := by
  have hw : Region.wanted o (yielded ops a.tmps) = true := by simp [Region.wanted, hg]
  rw [if_pos hw]
  obtain ⟨d, p, t, ps, af, gd⟩ := o
  subst hop
  unfold Oper.wp execOp
  simp only [hx]
  go_simp
  exact hK
theorem stepStoreB {ops : Array Oper} {o : Oper} {a : Act} {w : World} {K : Act → World → Prop} {Q : Exit → Act → World → Prop} {E : Prop} (hg : o.guard = none) (x y : Operand) (hop : o.op = Op.store 49 x y) (m off : Nat) (p : Option Addr) (n c : Nat)
    (hx : a.eval x = .pointer (some ⟨m, off, none⟩)) (hy : a.eval y = .slice p n c) (ht : (w.cell? ⟨m, off, none⟩).isSome = true ∧ w.frozen? ⟨m, off, none⟩ = false)
    (hK : K (a.put o.dst undef) (w.setCell ⟨m, off, none⟩ (.slice p n c))) :
    if Region.wanted o (yielded ops a.tmps) = true then Oper.wp Tryz.prog o a w K Q else E := by
  have hw : Region.wanted o (yielded ops a.tmps) = true := by simp [Region.wanted, hg]
  rw [if_pos hw]
  obtain ⟨h1, h2⟩ := ht
  obtain ⟨z, hz⟩ := Option.isSome_iff_exists.1 h1
  obtain ⟨d, p, t, ps, af, gd⟩ := o
  subst hop
  unfold Oper.wp execOp
  simp only [hx, hy]
  go_simp
  exact hK
theorem Own.take {w : World} {a : Option Addr} {n c : Nat} {L : List Nat} (h : Own w (.slice a n c) L) (m : Nat) (hm : m ≤ L.length) (hn : L.length = n) : Own w (.slice a m c) (L.take m) := by
  have hb := h.byt
  have hl : (L.take m).length = m := by rw [List.length_take]; omega
  rcases h.cases with ⟨e, rfl⟩ | ⟨g, cap, cur, e, hg, h1, h2, h3, h4⟩
  · cases e
    obtain rfl : m = 0 := by simpa using hm
    exact Own.nil _
  · injection e with e1 e2 e3
    subst e1 e3
    have := own_of (L := L.take m) (cap := c) hg (by omega) h2 h3 (by rw [hl, bv, List.map_take, ← bv, ← h4, List.take_take, Nat.min_eq_left (by omega)]) (fun x hx => hb x (List.mem_of_mem_take hx))
    rw [hl] at this
    exact this
theorem own_len {a : Option Addr} {n m c : Nat} {r : Option Nat} (h : (Value.slice a n c).ownBlock = r) : (Value.slice a m c).ownBlock = r := by cases a <;> exact h
/-- A file whose now, or safe, is another row. -/
theorem FlAt.setNow {w w1 : World} {f : Fl} {v' : Value} {L' : List Nat} (h : FlAt w f) (g : Grow w f.vn w1 v') (o : Own w1 v' L') (hl : L'.length ≤ 65536) (hn : ∀ b, v'.ownBlock = some b → b ∈ f.vn.ownBlock.toList ∨ w.heap.size ≤ b) : FlAt (w1.setCell ⟨f.fb, 0, none⟩ v') { f with vn := v', now := L' } ∧ FMv w f (w1.setCell ⟨f.fb, 0, none⟩ v') { f with vn := v', now := L' } := by
  have hap := h.ap
  have haq := h.aq
  have hfb := heap_lt h.blk
  have b1 : w1.heap[f.fb]? = some (.cells #[f.vn, f.vs] 103 (0, 0)) := g.1.heapAt h.blk (fun e => by rw [Option.mem_toList] at e; exact (hap _ e).1 rfl)
  have s1 : Own w1 f.vs f.safe := h.safe.chg g.1 (fun q e e2 => by rw [Option.mem_toList] at e2; exact (hap q e2).2 e)
  have far : ∀ b, v'.ownBlock = some b → b ≠ f.fb ∧ f.vs.ownBlock ≠ some b := fun b e => by
    rcases g.2 b e with z | z
    · exact hap b z
    · refine ⟨by omega, fun q => ?_⟩
      have := h.safe.lt b q
      omega
  have cs : Chg [f.fb] w1 (w1.setCell ⟨f.fb, 0, none⟩ v') := Chg.set w1 ⟨f.fb, 0, none⟩ v' (by simp)
  refine ⟨⟨by rw [Go.Joins.block_setCell b1]; rfl, o.chg cs (fun q e => by simpa using (far q e).1), s1.chg cs (fun q e => by simpa using haq q e), hl, h.ls, far, haq⟩, ⟨⟨g.1.os, g.1.tape, g.1.output, by simpa using g.1.size, fun k hk hn => ?_⟩, fun b hb => ?_, rfl⟩⟩
  · rw [cs.block k (by have := g.1.size; omega) (fun e => hn (Fl.mem.2 (.inl (by simpa using e)))), g.1.block k hk (fun e => hn (Fl.mem.2 (.inr (.inl (by rw [Option.mem_toList] at e; exact e)))))]
  · rcases Fl.mem.1 hb with e | e | e
    · exact .inl (Fl.mem.2 (.inl e))
    · rcases g.2 b e with z | z
      · exact .inl (Fl.mem.2 (.inr (.inl z)))
      · exact .inr (by simpa using z)
    · exact .inl (Fl.mem.2 (.inr (.inr e)))
theorem FlAt.setSafe {w w1 : World} {f : Fl} {v' : Value} {L' : List Nat} (h : FlAt w f) (g : Grow w f.vs w1 v') (o : Own w1 v' L') (hl : L'.length ≤ 65536) : FlAt (w1.setCell ⟨f.fb, 1, none⟩ v') { f with vs := v', safe := L' } ∧ FMv w f (w1.setCell ⟨f.fb, 1, none⟩ v') { f with vs := v', safe := L' } := by
  have hap := h.ap
  have haq := h.aq
  have hfb := heap_lt h.blk
  have b1 : w1.heap[f.fb]? = some (.cells #[f.vn, f.vs] 103 (0, 0)) := g.1.heapAt h.blk (fun e => by rw [Option.mem_toList] at e; exact haq _ e rfl)
  have s1 : Own w1 f.vn f.now := h.now.chg g.1 (fun q e e2 => by rw [Option.mem_toList] at e2; exact (hap q e).2 e2)
  have far : ∀ b, v'.ownBlock = some b → b ≠ f.fb ∧ f.vn.ownBlock ≠ some b := fun b e => by
    rcases g.2 b e with z | z
    · exact ⟨haq b z, fun q => (hap b q).2 z⟩
    · refine ⟨by omega, fun q => ?_⟩
      have := h.now.lt b q
      omega
  have cs : Chg [f.fb] w1 (w1.setCell ⟨f.fb, 1, none⟩ v') := Chg.set w1 ⟨f.fb, 1, none⟩ v' (by simp)
  refine ⟨⟨by rw [Go.Joins.block_setCell b1]; rfl, s1.chg cs (fun q e => by simpa using (hap q e).1), o.chg cs (fun q e => by simpa using (far q e).1), h.ln, hl, fun b e => ⟨(hap b e).1, fun q => (far b q).2 e⟩, fun b e => (far b e).1⟩, ⟨⟨g.1.os, g.1.tape, g.1.output, by simpa using g.1.size, fun k hk hn => ?_⟩, fun b hb => ?_, rfl⟩⟩
  · rw [cs.block k (by have := g.1.size; omega) (fun e => hn (Fl.mem.2 (.inl (by simpa using e)))), g.1.block k hk (fun e => hn (Fl.mem.2 (.inr (.inr (by rw [Option.mem_toList] at e; exact e)))))]
  · rcases Fl.mem.1 hb with e | e | e
    · exact .inl (Fl.mem.2 (.inl e))
    · exact .inl (Fl.mem.2 (.inr (.inl e)))
    · rcases g.2 b e with z | z
      · exact .inl (Fl.mem.2 (.inr (.inr z)))
      · exact .inr (by simpa using z)
def beyB (L : List Nat) (k : Int) : Bool := decide (k < 0) || decide ((L.length : Int) < k)
set_option maxHeartbeats 400000 in
set_option maxRecDepth 20000 in
theorem beyond_any (f : Fl) (k : Int) (w : World) (h : FlAt w f) : Calls Tryz.prog 86 #[.pointer (some ⟨f.fb, 0, none⟩), .int .i64 k] w fun e w' => e = .returned (.bool (beyB f.now k)) ∧ w' = w := by
  obtain ⟨c0, c1, f0, f1⟩ := h.cells
  obtain ⟨a, c, e⟩ := h.now.len
  rw [e] at c0
  clear h e
  unfold beyB
  generalize f.now.length = n at *
  generalize f.fb = fb at *
  by_cases k0 : k < 0
  · go_enter Tryz.func86, Tryz.ntmps86
    go_wp2
    go_ret
    exact ⟨ret_b (by first | (simp [k0]; done) | (simp; omega)), rfl⟩
  · by_cases k1 : k > (n : Int)
    · go_enter Tryz.func86, Tryz.ntmps86
      go_wp2
      go_ret
      exact ⟨ret_b (by first | (simp [k0, k1]; done) | (simp; omega)), rfl⟩
    · go_enter Tryz.func86, Tryz.ntmps86
      go_wp2
      go_ret
      exact ⟨ret_b (by first | (simp [k0, k1]; done) | (simp; omega)), rfl⟩
set_option maxHeartbeats 1000000 in
set_option maxRecDepth 20000 in
theorem write_any (f : Fl) (k : Nat) (u : Value) (M : List Nat) (w : World) (h : FlAt w f) (hr : Rw w u M) (hn : M ≠ [] → ∀ g, u.ownBlock = some g → g ∉ f.blocks) (hk : k + M.length ≤ 65536) :
    Calls Tryz.prog 87 #[.pointer (some ⟨f.fb, 0, none⟩), .int .i64 (k : Nat), u] w fun e w' => ∃ f', e = .returned (.tuple #[]) ∧ FlAt w' f' ∧ f'.now = overL f.now k M ∧ f'.safe = f.safe ∧ FMv w f w' f' := by
  obtain ⟨c0, c1, f0, f1⟩ := h.cells
  have hln := h.ln
  have HO := hid (overwrite_any f.vn u f.now M k w h.now hr (fun h0 g e e2 => hn h0 g e2 (Fl.mem.2 (.inr (.inl e)))) (by omega) (by omega) (by omega))
  have HF := hid h
  have HA := hid (show ∀ (W : World) (v' : Value), Own W v' (overL f.now k M) → Grow w f.vn W v' → FlAt (W.setCell ⟨f.fb, 0, none⟩ v') { f with vn := v', now := overL f.now k M } ∧ FMv w f (W.setCell ⟨f.fb, 0, none⟩ v') { f with vn := v', now := overL f.now k M } from fun W v' o g => HF.out.setNow g o (by rw [overL_len]; omega) (fun b e => by rcases g.2 b e with z | z; (left; rw [Option.mem_toList]; exact z); (right; exact z.1)))
  have HB := hid (show ∀ (W : World) (v' : Value), Grow w f.vn W v' → (W.cell? ⟨f.fb, 0, none⟩ = some f.vn ∧ W.frozen? ⟨f.fb, 0, none⟩ = false) from fun W v' g => by
    have b1 := g.1.heapAt HF.out.blk (fun e => by rw [Option.mem_toList] at e; exact (HF.out.ap _ e).1 rfl)
    exact ⟨by rw [Go.Joins.cell_of_block b1]; rfl, Go.Joins.unfrozen_of_block b1 0⟩)
  obtain ⟨va, vc, e⟩ := h.now.len
  obtain ⟨ua, uc, rfl⟩ := hr.len
  rw [e] at c0 HO HA HB
  clear h hr hn e HF
  generalize overL f.now k M = L' at *
  generalize f.now.length = n at *
  generalize M.length = m at *
  go_enter Tryz.func87, Tryz.ntmps87
  go_wp2_with (go_at_call 68; refine HO.out.mono ?_; rintro e w1 ⟨v', rfl, o1, g1⟩; have FIN := hid (HA.out w1 v' o1 g1); have c0' := (HB.out w1 v' g1).1; have f0' := (HB.out w1 v' g1).2; obtain ⟨va', vc', ev⟩ := o1.len; rw [ev] at FIN; rw [ev]; clear o1 g1 ev)
  exact bodyPost_end (v := .tuple #[]) (by simp [results, Tryz.results87, go_sem]) rfl ⟨_, rfl, FIN.out.1, rfl, rfl, FIN.out.2⟩
set_option maxHeartbeats 1000000 in
set_option maxRecDepth 20000 in
theorem sync_any (f : Fl) (w : World) (h : FlAt w f) :
    Calls Tryz.prog 90 #[.pointer (some ⟨f.fb, 0, none⟩)] w fun e w' => ∃ f', e = .returned (.tuple #[]) ∧ FlAt w' f' ∧ f'.now = f.now ∧ f'.safe = f.now ∧ FMv w f w' f' := by
  obtain ⟨c0, c1, f0, f1⟩ := h.cells
  have hln := h.ln
  have HO := hid (clone_ok f.vn f.now w h.now.row (by omega))
  have HF := hid h
  have HA := hid (show ∀ (W : World) (v' : Value), Own W v' f.now → Old w W → (∀ g, v'.ownBlock = some g → w.heap.size ≤ g ∧ g < W.heap.size) → FlAt (W.setCell ⟨f.fb, 1, none⟩ v') { f with vs := v', safe := f.now } ∧ FMv w f (W.setCell ⟨f.fb, 1, none⟩ v') { f with vs := v', safe := f.now } from fun W v' o u g => HF.out.setSafe ⟨Chg.ofOld u, fun b e => .inr (g b e)⟩ o hln)
  obtain ⟨va, vc, e⟩ := h.now.len
  rw [e] at c0 HO
  clear h e HF
  generalize f.now.length = n at *
  go_enter Tryz.func90, Tryz.ntmps90
  go_wp2_with (go_at_call 69; refine HO.out.mono ?_; rintro e w1 ⟨v', rfl, o1, u1, g1⟩; have FIN := hid (HA.out w1 v' o1 u1 g1); have c1' := u1.keep c1; have f1' := u1.keepF c1 f1; obtain ⟨va', vc', ev⟩ := o1.len; rw [ev] at FIN; rw [ev]; clear o1 g1 ev u1)
  exact bodyPost_end (v := .tuple #[]) (by simp [results, Tryz.results90, go_sem]) rfl ⟨_, rfl, FIN.out.1, rfl, rfl, FIN.out.2⟩

end Go.Proofs.YtfphopleniidfaaGreatDoor
