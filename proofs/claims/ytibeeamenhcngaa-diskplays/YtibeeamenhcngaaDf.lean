/- A file's own functions: beyond, write, cut, sync; conditions: the file lies in memory. -/
import Derived.Test.YtibeeamenhcngaaDe
namespace Go.Proofs.Ytibeeamenhcngaa
open Go.RowKit Go.Lib
set_option linter.unusedVariables false
set_option linter.unusedSimpArgs false
set_option maxRecDepth 20000
theorem stepLoadB {ops : Array Oper} {o : Oper} {a : Act} {w : World} {K : Act → World → Prop} {Q : Exit → Act → World → Prop} {E : Prop} (hg : o.guard = none) (x : Operand) (hop : o.op = Op.load 23 x) (b off : Nat) (p : Option Addr) (n c : Nat)
    (hx : a.eval x = .pointer (some ⟨b, off, none⟩)) (hc : w.cell? ⟨b, off, none⟩ = some (.slice p n c)) (hK : K (a.put o.dst (.slice p n c)) w) :
    if Region.wanted o (yielded ops a.tmps) = true then Oper.wp Try.prog o a w K Q else E := by
  have hw : Region.wanted o (yielded ops a.tmps) = true := by simp [Region.wanted, hg]
  rw [if_pos hw]
  obtain ⟨d, p, t, ps, af, gd⟩ := o
  subst hop
  unfold Oper.wp execOp
  simp only [hx]
  go_simp
  exact hK
theorem stepStoreB {ops : Array Oper} {o : Oper} {a : Act} {w : World} {K : Act → World → Prop} {Q : Exit → Act → World → Prop} {E : Prop} (hg : o.guard = none) (x y : Operand) (hop : o.op = Op.store 23 x y) (m off : Nat) (p : Option Addr) (n c : Nat)
    (hx : a.eval x = .pointer (some ⟨m, off, none⟩)) (hy : a.eval y = .slice p n c) (ht : (w.cell? ⟨m, off, none⟩).isSome = true ∧ w.frozen? ⟨m, off, none⟩ = false)
    (hK : K (a.put o.dst undef) (w.setCell ⟨m, off, none⟩ (.slice p n c))) :
    if Region.wanted o (yielded ops a.tmps) = true then Oper.wp Try.prog o a w K Q else E := by
  have hw : Region.wanted o (yielded ops a.tmps) = true := by simp [Region.wanted, hg]
  rw [if_pos hw]
  obtain ⟨h1, h2⟩ := ht
  obtain ⟨z, hz⟩ := Option.isSome_iff_exists.1 h1
  obtain ⟨d, p, t, ps, af, gd⟩ := o
  subst hop
  unfold Oper.wp execOp
  simp only [hx, hy]
  go_simp
  exact hK
theorem Own.take {w : World} {a : Option Addr} {n c : Nat} {L : List Nat} (h : Own w (.slice a n c) L) (m : Nat) (hm : m ≤ L.length) (hn : L.length = n) : Own w (.slice a m c) (L.take m) := by
  have hb := h.byt
  have hl : (L.take m).length = m := by rw [List.length_take]; omega
  rcases h.cases with ⟨e, rfl⟩ | ⟨g, cap, cur, e, hg, h1, h2, h3, h4⟩
  · cases e
    obtain rfl : m = 0 := by simpa using hm
    exact Own.nil _
  · injection e with e1 e2 e3
    subst e1 e3
    have := own_of (L := L.take m) (cap := c) hg (by omega) h2 h3 (by rw [hl, bv, List.map_take, ← bv, ← h4, List.take_take, Nat.min_eq_left (by omega)]) (fun x hx => hb x (List.mem_of_mem_take hx))
    rw [hl] at this
    exact this
theorem own_len {a : Option Addr} {n m c : Nat} {r : Option Nat} (h : (Value.slice a n c).ownBlock = r) : (Value.slice a m c).ownBlock = r := by cases a <;> exact h
/-- A file whose now, or safe, is another row. -/
theorem FlAt.setNow {w w1 : World} {f : Fl} {v' : Value} {L' : List Nat} (h : FlAt w f) (g : Grow w f.vn w1 v') (o : Own w1 v' L') (hl : L'.length ≤ 65536) (hn : ∀ b, v'.ownBlock = some b → b ∈ f.vn.ownBlock.toList ∨ w.heap.size ≤ b) : FlAt (w1.setCell ⟨f.fb, 0, none⟩ v') { f with vn := v', now := L' } ∧ FMv w f (w1.setCell ⟨f.fb, 0, none⟩ v') { f with vn := v', now := L' } := by
  have hap := h.ap
  have haq := h.aq
  have hfb := heap_lt h.blk
  have b1 : w1.heap[f.fb]? = some (.cells #[f.vn, f.vs] 74 (0, 0)) := g.1.heapAt h.blk (fun e => by rw [Option.mem_toList] at e; exact (hap _ e).1 rfl)
  have s1 : Own w1 f.vs f.safe := h.safe.chg g.1 (fun q e e2 => by rw [Option.mem_toList] at e2; exact (hap q e2).2 e)
  have far : ∀ b, v'.ownBlock = some b → b ≠ f.fb ∧ f.vs.ownBlock ≠ some b := fun b e => by
    rcases g.2 b e with z | z
    · exact hap b z
    · refine ⟨by omega, fun q => ?_⟩
      have := h.safe.lt b q
      omega
  have cs : Chg [f.fb] w1 (w1.setCell ⟨f.fb, 0, none⟩ v') := Chg.set w1 ⟨f.fb, 0, none⟩ v' (by simp)
  refine ⟨⟨by rw [Go.Joins.block_setCell b1]; rfl, o.chg cs (fun q e => by simpa using (far q e).1), s1.chg cs (fun q e => by simpa using haq q e), hl, h.ls, far, haq⟩, ⟨⟨g.1.os, g.1.tape, g.1.output, by simpa using g.1.size, fun k hk hn => ?_⟩, fun b hb => ?_, rfl⟩⟩
  · rw [cs.block k (by have := g.1.size; omega) (fun e => hn (Fl.mem.2 (.inl (by simpa using e)))), g.1.block k hk (fun e => hn (Fl.mem.2 (.inr (.inl (by rw [Option.mem_toList] at e; exact e)))))]
  · rcases Fl.mem.1 hb with e | e | e
    · exact .inl (Fl.mem.2 (.inl e))
    · rcases g.2 b e with z | z
      · exact .inl (Fl.mem.2 (.inr (.inl z)))
      · exact .inr (by simpa using z)
    · exact .inl (Fl.mem.2 (.inr (.inr e)))
theorem FlAt.setSafe {w w1 : World} {f : Fl} {v' : Value} {L' : List Nat} (h : FlAt w f) (g : Grow w f.vs w1 v') (o : Own w1 v' L') (hl : L'.length ≤ 65536) : FlAt (w1.setCell ⟨f.fb, 1, none⟩ v') { f with vs := v', safe := L' } ∧ FMv w f (w1.setCell ⟨f.fb, 1, none⟩ v') { f with vs := v', safe := L' } := by
  have hap := h.ap
  have haq := h.aq
  have hfb := heap_lt h.blk
  have b1 : w1.heap[f.fb]? = some (.cells #[f.vn, f.vs] 74 (0, 0)) := g.1.heapAt h.blk (fun e => by rw [Option.mem_toList] at e; exact haq _ e rfl)
  have s1 : Own w1 f.vn f.now := h.now.chg g.1 (fun q e e2 => by rw [Option.mem_toList] at e2; exact (hap q e).2 e2)
  have far : ∀ b, v'.ownBlock = some b → b ≠ f.fb ∧ f.vn.ownBlock ≠ some b := fun b e => by
    rcases g.2 b e with z | z
    · exact ⟨haq b z, fun q => (hap b q).2 z⟩
    · refine ⟨by omega, fun q => ?_⟩
      have := h.now.lt b q
      omega
  have cs : Chg [f.fb] w1 (w1.setCell ⟨f.fb, 1, none⟩ v') := Chg.set w1 ⟨f.fb, 1, none⟩ v' (by simp)
  refine ⟨⟨by rw [Go.Joins.block_setCell b1]; rfl, s1.chg cs (fun q e => by simpa using (hap q e).1), o.chg cs (fun q e => by simpa using (far q e).1), h.ln, hl, fun b e => ⟨(hap b e).1, fun q => (far b q).2 e⟩, fun b e => (far b e).1⟩, ⟨⟨g.1.os, g.1.tape, g.1.output, by simpa using g.1.size, fun k hk hn => ?_⟩, fun b hb => ?_, rfl⟩⟩
  · rw [cs.block k (by have := g.1.size; omega) (fun e => hn (Fl.mem.2 (.inl (by simpa using e)))), g.1.block k hk (fun e => hn (Fl.mem.2 (.inr (.inr (by rw [Option.mem_toList] at e; exact e)))))]
  · rcases Fl.mem.1 hb with e | e | e
    · exact .inl (Fl.mem.2 (.inl e))
    · exact .inl (Fl.mem.2 (.inr (.inl e)))
    · rcases g.2 b e with z | z
      · exact .inl (Fl.mem.2 (.inr (.inr z)))
      · exact .inr (by simpa using z)
def beyB (L : List Nat) (k : Int) : Bool := decide (k < 0) || decide ((L.length : Int) < k)
set_option maxHeartbeats 400000 in
set_option maxRecDepth 20000 in
theorem beyond_any (f : Fl) (k : Int) (w : World) (h : FlAt w f) : Calls Try.prog 35 #[.pointer (some ⟨f.fb, 0, none⟩), .int .i64 k] w fun e w' => e = .returned (.bool (beyB f.now k)) ∧ w' = w := by
  obtain ⟨c0, c1, f0, f1⟩ := h.cells
  obtain ⟨a, c, e⟩ := h.now.len
  rw [e] at c0
  clear h e
  unfold beyB
  generalize f.now.length = n at *
  generalize f.fb = fb at *
  by_cases k0 : k < 0
  · go_enter Try.func35, Try.ntmps35
    go_wp2
    go_ret
    exact ⟨ret_b (by first | (simp [k0]; done) | (simp; omega)), rfl⟩
  · by_cases k1 : k > (n : Int)
    · go_enter Try.func35, Try.ntmps35
      go_wp2
      go_ret
      exact ⟨ret_b (by first | (simp [k0, k1]; done) | (simp; omega)), rfl⟩
    · go_enter Try.func35, Try.ntmps35
      go_wp2
      go_ret
      exact ⟨ret_b (by first | (simp [k0, k1]; done) | (simp; omega)), rfl⟩
set_option maxHeartbeats 1000000 in
set_option maxRecDepth 20000 in
theorem write_any (f : Fl) (k : Nat) (u : Value) (M : List Nat) (w : World) (h : FlAt w f) (hr : Rw w u M) (hn : M ≠ [] → ∀ g, u.ownBlock = some g → g ∉ f.blocks) (hk : k + M.length ≤ 65536) :
    Calls Try.prog 36 #[.pointer (some ⟨f.fb, 0, none⟩), .int .i64 (k : Nat), u] w fun e w' => ∃ f', e = .returned (.tuple #[]) ∧ FlAt w' f' ∧ f'.now = overL f.now k M ∧ f'.safe = f.safe ∧ FMv w f w' f' := by
  obtain ⟨c0, c1, f0, f1⟩ := h.cells
  have hln := h.ln
  have HO := hid (overwrite_any f.vn u f.now M k w h.now hr (fun h0 g e e2 => hn h0 g e2 (Fl.mem.2 (.inr (.inl e)))) (by omega) (by omega) (by omega))
  have HF := hid h
  have HA := hid (show ∀ (W : World) (v' : Value), Own W v' (overL f.now k M) → Grow w f.vn W v' → FlAt (W.setCell ⟨f.fb, 0, none⟩ v') { f with vn := v', now := overL f.now k M } ∧ FMv w f (W.setCell ⟨f.fb, 0, none⟩ v') { f with vn := v', now := overL f.now k M } from fun W v' o g => HF.out.setNow g o (by rw [overL_len]; omega) (fun b e => by rcases g.2 b e with z | z; (left; rw [Option.mem_toList]; exact z); (right; exact z.1)))
  have HB := hid (show ∀ (W : World) (v' : Value), Grow w f.vn W v' → (W.cell? ⟨f.fb, 0, none⟩ = some f.vn ∧ W.frozen? ⟨f.fb, 0, none⟩ = false) from fun W v' g => by
    have b1 := g.1.heapAt HF.out.blk (fun e => by rw [Option.mem_toList] at e; exact (HF.out.ap _ e).1 rfl)
    exact ⟨by rw [Go.Joins.cell_of_block b1]; rfl, Go.Joins.unfrozen_of_block b1 0⟩)
  obtain ⟨va, vc, e⟩ := h.now.len
  obtain ⟨ua, uc, rfl⟩ := hr.len
  rw [e] at c0 HO HA HB
  clear h hr hn e HF
  generalize overL f.now k M = L' at *
  generalize f.now.length = n at *
  generalize M.length = m at *
  go_enter Try.func36, Try.ntmps36
  go_wp2_with (go_at_call 49; refine HO.out.mono ?_; rintro e w1 ⟨v', rfl, o1, g1⟩; have FIN := hid (HA.out w1 v' o1 g1); have c0' := (HB.out w1 v' g1).1; have f0' := (HB.out w1 v' g1).2; obtain ⟨va', vc', ev⟩ := o1.len; rw [ev] at FIN; rw [ev]; clear o1 g1 ev)
  exact bodyPost_end (v := .tuple #[]) (by simp [results, Try.results36, go_sem]) rfl ⟨_, rfl, FIN.out.1, rfl, rfl, FIN.out.2⟩
set_option maxHeartbeats 1000000 in
set_option maxRecDepth 20000 in
theorem sync_any (f : Fl) (w : World) (h : FlAt w f) :
    Calls Try.prog 37 #[.pointer (some ⟨f.fb, 0, none⟩)] w fun e w' => ∃ f', e = .returned (.tuple #[]) ∧ FlAt w' f' ∧ f'.now = f.now ∧ f'.safe = f.now ∧ FMv w f w' f' := by
  obtain ⟨c0, c1, f0, f1⟩ := h.cells
  have hln := h.ln
  have HO := hid (clone_ok f.vn f.now w h.now.row (by omega))
  have HF := hid h
  have HA := hid (show ∀ (W : World) (v' : Value), Own W v' f.now → Old w W → (∀ g, v'.ownBlock = some g → w.heap.size ≤ g ∧ g < W.heap.size) → FlAt (W.setCell ⟨f.fb, 1, none⟩ v') { f with vs := v', safe := f.now } ∧ FMv w f (W.setCell ⟨f.fb, 1, none⟩ v') { f with vs := v', safe := f.now } from fun W v' o u g => HF.out.setSafe ⟨Chg.ofOld u, fun b e => .inr (g b e)⟩ o hln)
  obtain ⟨va, vc, e⟩ := h.now.len
  rw [e] at c0 HO
  clear h e HF
  generalize f.now.length = n at *
  go_enter Try.func37, Try.ntmps37
  go_wp2_with (go_at_call 50; refine HO.out.mono ?_; rintro e w1 ⟨v', rfl, o1, u1, g1⟩; have FIN := hid (HA.out w1 v' o1 u1 g1); have c1' := u1.keep c1; have f1' := u1.keepF c1 f1; obtain ⟨va', vc', ev⟩ := o1.len; rw [ev] at FIN; rw [ev]; clear o1 g1 ev u1)
  exact bodyPost_end (v := .tuple #[]) (by simp [results, Try.results37, go_sem]) rfl ⟨_, rfl, FIN.out.1, rfl, rfl, FIN.out.2⟩
set_option maxHeartbeats 1000000 in
set_option maxRecDepth 20000 in
theorem cut_any (f : Fl) (k : Nat) (w : World) (h : FlAt w f) (hk : k ≤ f.now.length) :
    Calls Try.prog 46 #[.pointer (some ⟨f.fb, 0, none⟩), .int .i64 (k : Nat)] w fun e w' => ∃ f', e = .returned (.tuple #[]) ∧ FlAt w' f' ∧ f'.now = f.now.take k ∧ f'.safe = f.safe.take k ∧ FMv w f w' f' := by
  obtain ⟨na, nc, en⟩ := h.now.len
  obtain ⟨sa, sc, es⟩ := h.safe.len
  have hln := h.ln
  have hls := h.ls
  have o1 := h.now
  rw [en] at o1
  have o1 := o1.take k hk rfl
  obtain ⟨h1, m1⟩ := h.setNow (w1 := w) (v' := .slice na k nc) (L' := f.now.take k) ⟨Chg.refl _ _, fun b e => .inl (by rw [en]; exact own_len e)⟩ o1 (by rw [List.length_take]; omega) (fun b e => .inl (by rw [Option.mem_toList, en]; exact own_len e))
  have o2 := h1.safe
  have hmn : min k f.safe.length ≤ f.safe.length := Nat.min_le_right _ _
  have o2' : Own (w.setCell ⟨f.fb, 0, none⟩ (.slice na k nc)) (.slice sa (min k f.safe.length) sc) (f.safe.take k) := by
    have q := Own.take (by rw [← es]; exact o2) (min k f.safe.length) hmn rfl
    rw [show f.safe.take k = f.safe.take (min k f.safe.length) from by
      by_cases c : k ≤ f.safe.length
      · rw [Nat.min_eq_left c]
      · rw [Nat.min_eq_right (by omega), List.take_length, List.take_of_length_le (by omega)]]
    exact q
  obtain ⟨h2, m2⟩ := h1.setSafe (w1 := (w.setCell ⟨f.fb, 0, none⟩ (.slice na k nc)).drew) (v' := .slice sa (min k f.safe.length) sc) (L' := f.safe.take k) ⟨Chg.ofOld ((Old.refl _).drew), fun b e => .inl (by show f.vs.ownBlock = _; rw [es]; exact own_len e)⟩ (o2'.old ((Old.refl _).drew)) (by rw [List.length_take]; omega)
  have FIN := hid (show ∃ f', Ending.returned (.tuple #[]) = Ending.returned (.tuple #[]) ∧ FlAt _ f' ∧ f'.now = f.now.take k ∧ f'.safe = f.safe.take k ∧ FMv w f _ f' from ⟨_, rfl, h2, rfl, rfl, m1.trans m2⟩)
  obtain ⟨c0, c1, f0, f1⟩ := h.cells
  obtain ⟨d0, d1, g0, g1⟩ := h1.cells
  have C1 := hid (show (w.setCell ⟨f.fb, 0, none⟩ (.slice na k nc)).cell? ⟨f.fb, 1, none⟩ = some (.slice sa f.safe.length sc) from by rw [← es]; exact d1)
  have TH := hid (show ((w.setCell ⟨f.fb, 0, none⟩ (.slice na k nc)).cell? ⟨f.fb, 1, none⟩).isSome = true ∧ (w.setCell ⟨f.fb, 0, none⟩ (.slice na k nc)).frozen? ⟨f.fb, 1, none⟩ = false from ⟨by rw [C1.out]; rfl, g1⟩)
  rw [en] at c0
  obtain ⟨mn, hmn'⟩ : ∃ mn, mn = min k f.safe.length := ⟨_, rfl⟩
  have hncap : f.now.length ≤ nc ∧ nc ≤ 9223372036854775807 := by
    rcases h.now.cases with ⟨e, e2⟩ | ⟨g, cap, cur, e, _, q1, q2, _⟩
    · rw [en] at e; injection e with _ z1 z2; omega
    · rw [en] at e; injection e with _ _ z2; unfold maxLen at q2; omega
  have hscap : f.safe.length ≤ sc ∧ sc ≤ 9223372036854775807 := by
    rcases h.safe.cases with ⟨e, e2⟩ | ⟨g, cap, cur, e, _, q1, q2, _⟩
    · rw [es] at e; injection e with _ z1 z2; omega
    · rw [es] at e; injection e with _ _ z2; unfold maxLen at q2; omega
  rw [← hmn'] at FIN
  have mm : min (k : Int) (f.safe.length : Int) = (mn : Int) := by omega
  have l1 : (0 : Int) ≤ (k : Int) := by omega
  have l2 : (k : Int) ≤ (nc : Int) := by omega
  have l3 : (0 : Int) ≤ (mn : Int) := by omega
  have l4 : (mn : Int) ≤ (sc : Int) := by omega
  clear h h1 h2 m1 m2 o1 o2 o2' hmn hmn' c1 f1 d0 d1 g0 g1 en es
  generalize f.now.length = ln at *
  generalize f.safe.length = ls at *
  generalize f.fb = fb at *
  generalize hw1 : w.setCell ⟨fb, 0, none⟩ (.slice na k nc) = w1 at *
  go_enter Try.func46, Try.ntmps46
  go_upto_region 1 with (fail)
  clear hw1
  refine wp_region_noPanic ?_
  refine wp_region_held_drew (S := fun _ => True) (by kernel_rfl) ?_ (fun hHeld => ?_)
  · exact trivial
  (try simp only [Act.put]); (try simp only [List.setIfInBounds_toArray]); (try simp only [List.set_cons_succ]); (try simp only [List.set_cons_zero])
  clear hHeld
  refine wpAnyH_take (i := 0) (oi := { dst := some 13, op := Op.move (Operand.tmp 0), type := 61, pos := "file.go:28", after := #[], guard := none }) (v := ?vk1) rfl (by kernel_rfl) (by kernel_rfl) (by kernel_rfl) (fun _ _ _ h => h) (Or.inl ⟨by rfl, ?hk1⟩) trivial ?rk1
  case hk1 => (intro wz hSw; (try dsimp only at hSw); go_simp; try with_reducible rfl)
  (try simp only [Act.put]); (try simp only [List.setIfInBounds_toArray]); (try simp only [List.set_cons_succ]); (try simp only [List.set_cons_zero])
  refine wpAnyH_take (i := 1) (oi := { dst := some 14, op := Op.move (Operand.tmp 0), type := 61, pos := "file.go:28", after := #[], guard := none }) (v := ?vk2) rfl (by kernel_rfl) (by kernel_rfl) (by kernel_rfl) (fun _ _ _ h => h) (Or.inl ⟨by rfl, ?hk2⟩) trivial ?rk2
  case hk2 => (intro wz hSw; (try dsimp only at hSw); go_simp; try with_reducible rfl)
  (try simp only [Act.put]); (try simp only [List.setIfInBounds_toArray]); (try simp only [List.set_cons_succ]); (try simp only [List.set_cons_zero])
  refine wpAnyH_take (i := 2) (oi := { dst := some 15, op := Op.nilCheck (Operand.tmp 14), type := 0, pos := "file.go:28", after := #[{ on := 1, ground := Ground.data }], guard := none }) (v := ?vk3) rfl (by kernel_rfl) (by kernel_rfl) (by kernel_rfl) (fun _ _ _ h => h) (Or.inl ⟨by rfl, ?hk3⟩) trivial ?rk3
  case hk3 => (intro wz hSw; (try dsimp only at hSw); go_simp; try with_reducible rfl)
  (try simp only [Act.put]); (try simp only [List.setIfInBounds_toArray]); (try simp only [List.set_cons_succ]); (try simp only [List.set_cons_zero])
  refine wpAnyH_take (i := 3) (oi := { dst := some 16, op := Op.fieldAddr 74 (Operand.tmp 15) 1, type := 0, pos := "file.go:28", after := #[{ on := 2, ground := Ground.data }], guard := none }) (v := ?vk4) rfl (by kernel_rfl) (by kernel_rfl) (by kernel_rfl) (fun _ _ _ h => h) (Or.inl ⟨by rfl, ?hk4⟩) trivial ?rk4
  case hk4 => (intro wz hSw; (try dsimp only at hSw); go_simp; try with_reducible rfl)
  (try simp only [Act.put]); (try simp only [List.setIfInBounds_toArray]); (try simp only [List.set_cons_succ]); (try simp only [List.set_cons_zero])
  refine wpAnyH_take (i := 5) (oi := { dst := some 18, op := Op.move (Operand.tmp 1), type := 3, pos := "file.go:28", after := #[], guard := none }) (v := ?vk5) rfl (by kernel_rfl) (by kernel_rfl) (by kernel_rfl) (fun _ _ _ h => h) (Or.inl ⟨by rfl, ?hk5⟩) trivial ?rk5
  case hk5 => (intro wz hSw; (try dsimp only at hSw); go_simp; try with_reducible rfl)
  (try simp only [Act.put]); (try simp only [List.setIfInBounds_toArray]); (try simp only [List.set_cons_succ]); (try simp only [List.set_cons_zero])
  refine wpAnyH_take (i := 6) (oi := { dst := some 19, op := Op.move (Operand.tmp 0), type := 61, pos := "file.go:28", after := #[], guard := none }) (v := ?vk6) rfl (by kernel_rfl) (by kernel_rfl) (by kernel_rfl) (fun _ _ _ h => h) (Or.inl ⟨by rfl, ?hk6⟩) trivial ?rk6
  case hk6 => (intro wz hSw; (try dsimp only at hSw); go_simp; try with_reducible rfl)
  (try simp only [Act.put]); (try simp only [List.setIfInBounds_toArray]); (try simp only [List.set_cons_succ]); (try simp only [List.set_cons_zero])
  refine wpAnyH_take (i := 7) (oi := { dst := some 20, op := Op.nilCheck (Operand.tmp 19), type := 0, pos := "file.go:28", after := #[{ on := 6, ground := Ground.data }], guard := none }) (v := ?vk7) rfl (by kernel_rfl) (by kernel_rfl) (by kernel_rfl) (fun _ _ _ h => h) (Or.inl ⟨by rfl, ?hk7⟩) trivial ?rk7
  case hk7 => (intro wz hSw; (try dsimp only at hSw); go_simp; try with_reducible rfl)
  (try simp only [Act.put]); (try simp only [List.setIfInBounds_toArray]); (try simp only [List.set_cons_succ]); (try simp only [List.set_cons_zero])
  refine wpAnyH_take (i := 8) (oi := { dst := some 21, op := Op.fieldAddr 74 (Operand.tmp 20) 1, type := 0, pos := "file.go:28", after := #[{ on := 7, ground := Ground.data }], guard := none }) (v := ?vk8) rfl (by kernel_rfl) (by kernel_rfl) (by kernel_rfl) (fun _ _ _ h => h) (Or.inl ⟨by rfl, ?hk8⟩) trivial ?rk8
  case hk8 => (intro wz hSw; (try dsimp only at hSw); go_simp; try with_reducible rfl)
  (try simp only [Act.put]); (try simp only [List.setIfInBounds_toArray]); (try simp only [List.set_cons_succ]); (try simp only [List.set_cons_zero])
  refine wpAnyH_ready (rs := [4, 9]) (by kernel_rfl) (by simp) ?_
  refine AllReadyH.cons (o := { dst := some 17, op := Op.load 23 (Operand.tmp 16), type := 23, pos := "file.go:28", after := #[{ on := 3, ground := Ground.data }], guard := none }) rfl (fun K hK => ?_) (AllReadyH.cons (o := { dst := some 22, op := Op.load 23 (Operand.tmp 21), type := 23, pos := "file.go:28", after := #[{ on := 8, ground := Ground.data }], guard := none }) rfl (fun K hK => ?_) AllReadyH.nil)
  · skip
    refine stepLoadB ?_ (.tmp 16) ?_ fb 1 sa ls sc ?_ C1.out ?_
    · rfl
    · rfl
    · rfl
    refine hK.out _ _ trivial (fun _ => ?_)
    clear hK K
    (try simp only [Act.put]); (try simp only [List.setIfInBounds_toArray]); (try simp only [List.set_cons_succ]); (try simp only [List.set_cons_zero])
    refine wpAnyH_ready (rs := [9]) (by kernel_rfl) (by simp) ?_
    refine AllReadyH.cons (o := { dst := some 22, op := Op.load 23 (Operand.tmp 21), type := 23, pos := "file.go:28", after := #[{ on := 8, ground := Ground.data }], guard := none }) rfl (fun K hK => ?_) AllReadyH.nil
    · skip
      refine stepLoadB ?_ (.tmp 21) ?_ fb 1 sa ls sc ?_ C1.out ?_
      · rfl
      · rfl
      · rfl
      refine hK.out _ _ trivial (fun _ => ?_)
      clear hK K
      (try simp only [Act.put]); (try simp only [List.setIfInBounds_toArray]); (try simp only [List.set_cons_succ]); (try simp only [List.set_cons_zero])
      refine wpAnyH_take (i := 10) (oi := { dst := some 23, op := Op.call { callee := Callee.builtin Builtin.len, args := #[Operand.tmp 22], argTypes := #[23] }, type := 3, pos := "file.go:28", after := #[{ on := 9, ground := Ground.data }], guard := none }) (v := ?vk9) rfl (by kernel_rfl) (by kernel_rfl) (by kernel_rfl) (fun _ _ _ h => h) (Or.inl ⟨by rfl, ?hk9⟩) trivial ?rk9
      case hk9 => (intro wz hSw; (try dsimp only at hSw); go_simp; try with_reducible rfl)
      (try simp only [Act.put]); (try simp only [List.setIfInBounds_toArray]); (try simp only [List.set_cons_succ]); (try simp only [List.set_cons_zero])
      refine wpAnyH_take (i := 11) (oi := { dst := some 24, op := Op.call { callee := Callee.builtin Builtin.min, args := #[Operand.tmp 18, Operand.tmp 23], argTypes := #[3, 3] }, type := 3, pos := "file.go:28", after := #[{ on := 5, ground := Ground.data }, { on := 10, ground := Ground.data }], guard := none }) (v := ?vk10) rfl (by kernel_rfl) (by kernel_rfl) (by kernel_rfl) (fun _ _ _ h => h) (Or.inl ⟨by rfl, ?hk10⟩) trivial ?rk10
      case hk10 => (intro wz hSw; (try dsimp only at hSw); go_simp; try with_reducible rfl)
      (try simp only [Act.put]); (try simp only [List.setIfInBounds_toArray]); (try simp only [List.set_cons_succ]); (try simp only [List.set_cons_zero])
      refine wpAnyH_take (i := 12) (oi := { dst := some 25, op := Op.slice 23 (Operand.tmp 17) none (some (Operand.tmp 24)) none, type := 23, pos := "file.go:28", after := #[{ on := 4, ground := Ground.data }, { on := 11, ground := Ground.data }], guard := none }) (v := ?vk11) rfl (by kernel_rfl) (by kernel_rfl) (by kernel_rfl) (fun _ _ _ h => h) (Or.inl ⟨by rfl, ?hk11⟩) trivial ?rk11
      case hk11 => (intro wz hSw; (try dsimp only at hSw); go_simp; try with_reducible rfl)
      (try simp only [Act.put]); (try simp only [List.setIfInBounds_toArray]); (try simp only [List.set_cons_succ]); (try simp only [List.set_cons_zero])
      refine wpAnyH_take (i := 13) (oi := { dst := some 26, op := Op.nilCheck (Operand.tmp 13), type := 0, pos := "file.go:28", after := #[{ on := 0, ground := Ground.data }, { on := 0, ground := Ground.phase }, { on := 1, ground := Ground.phase }, { on := 2, ground := Ground.phase }, { on := 3, ground := Ground.phase }, { on := 4, ground := Ground.phase }, { on := 5, ground := Ground.phase }, { on := 6, ground := Ground.phase }, { on := 7, ground := Ground.phase }, { on := 8, ground := Ground.phase }, { on := 9, ground := Ground.phase }, { on := 10, ground := Ground.phase }, { on := 11, ground := Ground.phase }, { on := 12, ground := Ground.phase }], guard := none }) (v := ?vk12) rfl (by kernel_rfl) (by kernel_rfl) (by kernel_rfl) (fun _ _ _ h => h) (Or.inl ⟨by rfl, ?hk12⟩) trivial ?rk12
      case hk12 => (intro wz hSw; (try dsimp only at hSw); go_simp; try with_reducible rfl)
      (try simp only [Act.put]); (try simp only [List.setIfInBounds_toArray]); (try simp only [List.set_cons_succ]); (try simp only [List.set_cons_zero])
      refine wpAnyH_take (i := 14) (oi := { dst := some 27, op := Op.fieldAddr 74 (Operand.tmp 26) 1, type := 0, pos := "file.go:28", after := #[{ on := 13, ground := Ground.data }, { on := 0, ground := Ground.phase }, { on := 1, ground := Ground.phase }, { on := 2, ground := Ground.phase }, { on := 3, ground := Ground.phase }, { on := 4, ground := Ground.phase }, { on := 5, ground := Ground.phase }, { on := 6, ground := Ground.phase }, { on := 7, ground := Ground.phase }, { on := 8, ground := Ground.phase }, { on := 9, ground := Ground.phase }, { on := 10, ground := Ground.phase }, { on := 11, ground := Ground.phase }, { on := 12, ground := Ground.phase }], guard := none }) (v := ?vk13) rfl (by kernel_rfl) (by kernel_rfl) (by kernel_rfl) (fun _ _ _ h => h) (Or.inl ⟨by rfl, ?hk13⟩) trivial ?rk13
      case hk13 => (intro wz hSw; (try dsimp only at hSw); go_simp; try with_reducible rfl)
      (try simp only [Act.put]); (try simp only [List.setIfInBounds_toArray]); (try simp only [List.set_cons_succ]); (try simp only [List.set_cons_zero])
      refine wpAnyH_ready (rs := [15]) (by kernel_rfl) (by simp) ?_
      refine AllReadyH.cons (o := { dst := none, op := Op.store 23 (Operand.tmp 27) (Operand.tmp 25), type := 0, pos := "file.go:28", after := #[{ on := 14, ground := Ground.data }, { on := 12, ground := Ground.data }, { on := 0, ground := Ground.phase }, { on := 1, ground := Ground.phase }, { on := 2, ground := Ground.phase }, { on := 3, ground := Ground.phase }, { on := 4, ground := Ground.phase }, { on := 5, ground := Ground.phase }, { on := 6, ground := Ground.phase }, { on := 7, ground := Ground.phase }, { on := 8, ground := Ground.phase }, { on := 9, ground := Ground.phase }, { on := 10, ground := Ground.phase }, { on := 11, ground := Ground.phase }, { on := 12, ground := Ground.phase }], guard := none }) rfl (fun K hK => ?_) AllReadyH.nil
      · skip
        refine stepStoreB ?_ (.tmp 27) (.tmp 25) ?_ fb 1 sa mn sc ?_ ?_ TH.out ?_
        · rfl
        · rfl
        · rfl
        · rfl
        refine hK.out _ _ trivial (fun _ => ?_)
        clear hK K
        (try simp only [Act.put]); (try simp only [List.setIfInBounds_toArray]); (try simp only [List.set_cons_succ]); (try simp only [List.set_cons_zero])
        refine wpAnyH_done (by kernel_rfl) ?_ _
        refine NoPanic.normal ?_
        exact bodyPost_end (v := .tuple #[]) (by simp [results, Try.results46, go_sem]) rfl FIN.out
  · skip
    refine stepLoadB ?_ (.tmp 21) ?_ fb 1 sa ls sc ?_ C1.out ?_
    · rfl
    · rfl
    · rfl
    refine hK.out _ _ trivial (fun _ => ?_)
    clear hK K
    (try simp only [Act.put]); (try simp only [List.setIfInBounds_toArray]); (try simp only [List.set_cons_succ]); (try simp only [List.set_cons_zero])
    refine wpAnyH_take (i := 10) (oi := { dst := some 23, op := Op.call { callee := Callee.builtin Builtin.len, args := #[Operand.tmp 22], argTypes := #[23] }, type := 3, pos := "file.go:28", after := #[{ on := 9, ground := Ground.data }], guard := none }) (v := ?vk14) rfl (by kernel_rfl) (by kernel_rfl) (by kernel_rfl) (fun _ _ _ h => h) (Or.inl ⟨by rfl, ?hk14⟩) trivial ?rk14
    case hk14 => (intro wz hSw; (try dsimp only at hSw); go_simp; try with_reducible rfl)
    (try simp only [Act.put]); (try simp only [List.setIfInBounds_toArray]); (try simp only [List.set_cons_succ]); (try simp only [List.set_cons_zero])
    refine wpAnyH_take (i := 11) (oi := { dst := some 24, op := Op.call { callee := Callee.builtin Builtin.min, args := #[Operand.tmp 18, Operand.tmp 23], argTypes := #[3, 3] }, type := 3, pos := "file.go:28", after := #[{ on := 5, ground := Ground.data }, { on := 10, ground := Ground.data }], guard := none }) (v := ?vk15) rfl (by kernel_rfl) (by kernel_rfl) (by kernel_rfl) (fun _ _ _ h => h) (Or.inl ⟨by rfl, ?hk15⟩) trivial ?rk15
    case hk15 => (intro wz hSw; (try dsimp only at hSw); go_simp; try with_reducible rfl)
    (try simp only [Act.put]); (try simp only [List.setIfInBounds_toArray]); (try simp only [List.set_cons_succ]); (try simp only [List.set_cons_zero])
    refine wpAnyH_ready (rs := [4]) (by kernel_rfl) (by simp) ?_
    refine AllReadyH.cons (o := { dst := some 17, op := Op.load 23 (Operand.tmp 16), type := 23, pos := "file.go:28", after := #[{ on := 3, ground := Ground.data }], guard := none }) rfl (fun K hK => ?_) AllReadyH.nil
    · skip
      refine stepLoadB ?_ (.tmp 16) ?_ fb 1 sa ls sc ?_ C1.out ?_
      · rfl
      · rfl
      · rfl
      refine hK.out _ _ trivial (fun _ => ?_)
      clear hK K
      (try simp only [Act.put]); (try simp only [List.setIfInBounds_toArray]); (try simp only [List.set_cons_succ]); (try simp only [List.set_cons_zero])
      refine wpAnyH_take (i := 12) (oi := { dst := some 25, op := Op.slice 23 (Operand.tmp 17) none (some (Operand.tmp 24)) none, type := 23, pos := "file.go:28", after := #[{ on := 4, ground := Ground.data }, { on := 11, ground := Ground.data }], guard := none }) (v := ?vk16) rfl (by kernel_rfl) (by kernel_rfl) (by kernel_rfl) (fun _ _ _ h => h) (Or.inl ⟨by rfl, ?hk16⟩) trivial ?rk16
      case hk16 => (intro wz hSw; (try dsimp only at hSw); go_simp; try with_reducible rfl)
      (try simp only [Act.put]); (try simp only [List.setIfInBounds_toArray]); (try simp only [List.set_cons_succ]); (try simp only [List.set_cons_zero])
      refine wpAnyH_take (i := 13) (oi := { dst := some 26, op := Op.nilCheck (Operand.tmp 13), type := 0, pos := "file.go:28", after := #[{ on := 0, ground := Ground.data }, { on := 0, ground := Ground.phase }, { on := 1, ground := Ground.phase }, { on := 2, ground := Ground.phase }, { on := 3, ground := Ground.phase }, { on := 4, ground := Ground.phase }, { on := 5, ground := Ground.phase }, { on := 6, ground := Ground.phase }, { on := 7, ground := Ground.phase }, { on := 8, ground := Ground.phase }, { on := 9, ground := Ground.phase }, { on := 10, ground := Ground.phase }, { on := 11, ground := Ground.phase }, { on := 12, ground := Ground.phase }], guard := none }) (v := ?vk17) rfl (by kernel_rfl) (by kernel_rfl) (by kernel_rfl) (fun _ _ _ h => h) (Or.inl ⟨by rfl, ?hk17⟩) trivial ?rk17
      case hk17 => (intro wz hSw; (try dsimp only at hSw); go_simp; try with_reducible rfl)
      (try simp only [Act.put]); (try simp only [List.setIfInBounds_toArray]); (try simp only [List.set_cons_succ]); (try simp only [List.set_cons_zero])
      refine wpAnyH_take (i := 14) (oi := { dst := some 27, op := Op.fieldAddr 74 (Operand.tmp 26) 1, type := 0, pos := "file.go:28", after := #[{ on := 13, ground := Ground.data }, { on := 0, ground := Ground.phase }, { on := 1, ground := Ground.phase }, { on := 2, ground := Ground.phase }, { on := 3, ground := Ground.phase }, { on := 4, ground := Ground.phase }, { on := 5, ground := Ground.phase }, { on := 6, ground := Ground.phase }, { on := 7, ground := Ground.phase }, { on := 8, ground := Ground.phase }, { on := 9, ground := Ground.phase }, { on := 10, ground := Ground.phase }, { on := 11, ground := Ground.phase }, { on := 12, ground := Ground.phase }], guard := none }) (v := ?vk18) rfl (by kernel_rfl) (by kernel_rfl) (by kernel_rfl) (fun _ _ _ h => h) (Or.inl ⟨by rfl, ?hk18⟩) trivial ?rk18
      case hk18 => (intro wz hSw; (try dsimp only at hSw); go_simp; try with_reducible rfl)
      (try simp only [Act.put]); (try simp only [List.setIfInBounds_toArray]); (try simp only [List.set_cons_succ]); (try simp only [List.set_cons_zero])
      refine wpAnyH_ready (rs := [15]) (by kernel_rfl) (by simp) ?_
      refine AllReadyH.cons (o := { dst := none, op := Op.store 23 (Operand.tmp 27) (Operand.tmp 25), type := 0, pos := "file.go:28", after := #[{ on := 14, ground := Ground.data }, { on := 12, ground := Ground.data }, { on := 0, ground := Ground.phase }, { on := 1, ground := Ground.phase }, { on := 2, ground := Ground.phase }, { on := 3, ground := Ground.phase }, { on := 4, ground := Ground.phase }, { on := 5, ground := Ground.phase }, { on := 6, ground := Ground.phase }, { on := 7, ground := Ground.phase }, { on := 8, ground := Ground.phase }, { on := 9, ground := Ground.phase }, { on := 10, ground := Ground.phase }, { on := 11, ground := Ground.phase }, { on := 12, ground := Ground.phase }], guard := none }) rfl (fun K hK => ?_) AllReadyH.nil
      · skip
        refine stepStoreB ?_ (.tmp 27) (.tmp 25) ?_ fb 1 sa mn sc ?_ ?_ TH.out ?_
        · rfl
        · rfl
        · rfl
        · rfl
        refine hK.out _ _ trivial (fun _ => ?_)
        clear hK K
        (try simp only [Act.put]); (try simp only [List.setIfInBounds_toArray]); (try simp only [List.set_cons_succ]); (try simp only [List.set_cons_zero])
        refine wpAnyH_done (by kernel_rfl) ?_ _
        refine NoPanic.normal ?_
        exact bodyPost_end (v := .tuple #[]) (by simp [results, Try.results46, go_sem]) rfl FIN.out
end Go.Proofs.Ytibeeamenhcngaa
