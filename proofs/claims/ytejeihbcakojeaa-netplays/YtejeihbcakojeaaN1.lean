/- Rows of bytes as lists: zeros put behind, bytes copied over, a part, clones; conditions: the lengths fit. -/
import Derived.Test.YtejeihbcakojeaaN0
import Derived.Test.YtejeihbcakojeaaPkN
import Derived.Lib.AppendZerosOnto
import Derived.Laws.CopyOwn
import Derived.Lib.SlBytesRow
import Derived.Lib.SmallJoins
namespace Go.Proofs.Ytejeihbcakojeaa
open Go.RowKit Go.Lib
set_option linter.unusedVariables false
set_option linter.unusedSimpArgs false
set_option maxRecDepth 20000
def gd (L : List Nat) : Nat → Nat := fun i => L.getD i 0
def Byt (L : List Nat) : Prop := ∀ x ∈ L, x < 256
def bv (L : List Nat) : List Value := L.map fun (x : Nat) => Value.int .u8 (x : Int)
theorem bv_len (L : List Nat) : (bv L).length = L.length := by simp [bv]
theorem bv_app (L M : List Nat) : bv L ++ bv M = bv (L ++ M) := by simp [bv]
theorem bv_one (L : List Nat) : ∀ u ∈ bv L, u.oneCell' = true := fun u hu => by
  obtain ⟨x, _, rfl⟩ := List.mem_map.1 hu
  rfl
theorem gd_at (L : List Nat) (i : Nat) (h : i < L.length) : gd L i = L[i] := by unfold gd; rw [List.getD_eq_getElem?_getD, List.getElem?_eq_getElem h]; rfl
theorem bl_bv (L : List Nat) : Pk.bl L.length (gd L) = bv L := by
  apply List.ext_getElem?
  intro i
  by_cases h : i < L.length
  · rw [Pk.bl_get _ _ _ h, gd_at L i h]
    simp [bv, h]
  · rw [Pk.bl_get_ge _ _ _ (by omega)]
    simp [bv, h]
/-- A row of the disk's own. -/
def Own (w : World) (v : Value) (L : List Nat) : Prop := Pk.OwnB 0 w v L.length (gd L)
/-- A row of bytes, wherever. -/
def Rw (w : World) (v : Value) (L : List Nat) : Prop := Pk.ByRow w v L.length (gd L)
theorem Own.byt {w : World} {v : Value} {L : List Nat} (h : Own w v L) : Byt L := fun x hx => by
  obtain ⟨i, hi, e⟩ := List.getElem_of_mem hx
  have := h.lt i hi
  rw [gd_at L i hi, e] at this
  exact this
theorem gd_byt {L : List Nat} (h : Byt L) : ∀ i, i < L.length → gd L i < 256 := fun i hi => by rw [gd_at L i hi]; exact h _ (List.getElem_mem hi)
theorem Own.nil (w : World) : Own w (.slice none 0 0) [] := Pk.OwnB.nil 0 w _
theorem Own.row {w : World} {v : Value} {L : List Nat} (h : Own w v L) : Rw w v L := Pk.OwnB.row h
theorem Own.cases {w : World} {v : Value} {L : List Nat} (h : Own w v L) : (v = .slice none 0 0 ∧ L = []) ∨ ∃ g cap cur, v = .slice (some ⟨g, 0, none⟩) L.length cap ∧ w.heap[g]? = some (.cells cur 5 (0, 0)) ∧ L.length ≤ cap ∧ cap ≤ maxLen ∧ cur.size = cap ∧ cur.toList.take L.length = bv L := by
  rcases h.own.2 with ⟨e, h0⟩ | ⟨g, cap, cur, e, _, hg, h1, h2, h3, h4⟩
  · exact .inl ⟨e, List.length_eq_zero_iff.1 h0⟩
  · exact .inr ⟨g, cap, cur, e, hg, h1, h2, by simpa using h3, by rw [← bl_bv]; simpa using h4⟩
theorem own_of {w : World} {g cap : Nat} {cur : Array Value} {L : List Nat} (hg : w.heap[g]? = some (.cells cur 5 (0, 0))) (h1 : L.length ≤ cap) (h2 : cap ≤ maxLen) (h3 : cur.size = cap) (h4 : cur.toList.take L.length = bv L) (hb : Byt L) : Own w (.slice (some ⟨g, 0, none⟩) L.length cap) L :=
  ⟨⟨by rw [Pk.bl_len, Nat.mul_one], .inr ⟨g, cap, cur, rfl, Nat.zero_le _, hg, h1, h2, by rw [Nat.mul_one]; exact h3, by rw [Nat.mul_one, bl_bv]; exact h4⟩⟩, gd_byt hb⟩
theorem Own.chg {S : List Nat} {w w' : World} {v : Value} {L : List Nat} (h : Own w v L) (u : Chg S w w') (hn : ∀ g, v.ownBlock = some g → g ∉ S) : Own w' v L := by
  have hb := h.byt
  rcases h.cases with ⟨rfl, rfl⟩ | ⟨g, cap, cur, rfl, hg, h1, h2, h3, h4⟩
  · exact Own.nil _
  · exact own_of (u.heapAt hg (hn g rfl)) h1 h2 h3 h4 hb
theorem Own.old {w w' : World} {v : Value} {L : List Nat} (h : Own w v L) (u : Old w w') : Own w' v L := h.chg (Chg.ofOld (S := []) u) (fun _ _ e => by cases e)
theorem Own.lt {w : World} {v : Value} {L : List Nat} (h : Own w v L) (g : Nat) (e : v.ownBlock = some g) : g < w.heap.size := (h.own.lt g e).2
theorem Own.len {w : World} {v : Value} {L : List Nat} (h : Own w v L) : ∃ a c, v = .slice a L.length c := by
  rcases h.cases with ⟨rfl, rfl⟩ | ⟨g, cap, cur, rfl, _⟩
  · exact ⟨none, 0, rfl⟩
  · exact ⟨_, _, rfl⟩
theorem Own.of {base : Nat} {w : World} {v : Value} {L : List Nat} (h : Pk.OwnB base w v L.length (gd L)) : Own w v L := h.mono (Nat.zero_le _)
theorem Rw.old {w w' : World} {v : Value} {L : List Nat} (h : Rw w v L) (u : Old w w') : Rw w' v L := Pk.ByRow.up h u
theorem Rw.chg {S : List Nat} {w w' : World} {v : Value} {L : List Nat} (h : Rw w v L) (u : Chg S w w') (hn : 0 < L.length → ∀ g, v.ownBlock = some g → g ∉ S) : Rw w' v L := by
  rcases h with h | ⟨h0, hm, b, off, cap, rfl, hc, hcp⟩
  · exact .inl h
  · exact .inr ⟨h0, hm, b, off, cap, rfl, fun i hi => ⟨(hc i hi).1, u.cell (hc i hi).2 (hn h0 b rfl)⟩, hcp⟩
theorem Rw.byt {w : World} {v : Value} {L : List Nat} (h : Rw w v L) : Byt L := fun x hx => by
  obtain ⟨i, hi, e⟩ := List.getElem_of_mem hx
  have := Pk.ByRow.lt h i hi
  rw [gd_at L i hi, e] at this
  exact this
theorem Rw.len {w : World} {v : Value} {L : List Nat} (h : Rw w v L) : ∃ a c, v = .slice a L.length c := by
  rcases h with ⟨h0, a, c, rfl, _⟩ | ⟨_, _, b, off, cap, rfl, _⟩
  · exact ⟨a, c, by rw [h0]⟩
  · exact ⟨_, _, rfl⟩
theorem Rw.lt {w : World} {v : Value} {L : List Nat} (h : Rw w v L) (h0 : 0 < L.length) (g : Nat) (e : v.ownBlock = some g) : g < w.heap.size := by
  rcases h with ⟨z, _⟩ | ⟨_, _, b, off, cap, rfl, hc, _⟩
  · omega
  · cases e
    exact World.block_lt_of_cell? w _ (hc 0 h0).2
theorem Rw.cells {w : World} {v : Value} {L : List Nat} (h : Rw w v L) (h0 : 0 < L.length) : ∃ b off cap, v = .slice (some ⟨b, off, none⟩) L.length cap ∧ (∀ j u, (bv L)[j]? = some u → w.cell? ⟨b, off + j, none⟩ = some u) ∧ L.length ≤ cap ∧ cap ≤ maxLen := by
  rcases h with ⟨z, _⟩ | ⟨_, hm, b, off, cap, rfl, hc, h1, h2⟩
  · omega
  · refine ⟨b, off, cap, rfl, fun j u hj => ?_, h1, h2⟩
    have hl : j < L.length := by have := (List.getElem?_eq_some_iff.1 hj).1; rw [bv_len] at this; exact this
    rw [(hc j hl).2, ← hj, gd_at L j hl]
    simp [bv, hl]
theorem byt_app {L M : List Nat} (h : Byt L) (k : Byt M) : Byt (L ++ M) := fun x hx => (List.mem_append.1 hx).elim (h x) (k x)
theorem byt_zero (k : Nat) : Byt (List.replicate k 0) := fun x hx => by rw [(List.mem_replicate.1 hx).2]; omega
theorem zeroC (k : Nat) : Builtin.zeroCells (Value.int .u8 0).cells k = (bv (List.replicate k 0)).toArray := by
  apply Array.ext'
  apply List.ext_getElem?
  intro i
  by_cases h : i < k
  · simp [Builtin.zeroCells, Value.cells, bv, h, Nat.mod_one]
  · simp [Builtin.zeroCells, Value.cells, bv, h]
/-- What of memory may turn where a row of the disk's own is written; where the new one lies. -/
def Grow (w : World) (v : Value) (w' : World) (v' : Value) : Prop := Chg v.ownBlock.toList w w' ∧ ∀ g, v'.ownBlock = some g → v.ownBlock = some g ∨ (w.heap.size ≤ g ∧ g < w'.heap.size)
theorem Grow.refl (w : World) (v : Value) : Grow w v w v := ⟨Chg.refl _ _, fun g e => .inl e⟩
theorem Grow.trans {w w1 w2 : World} {v v1 v2 : Value} (h : Grow w v w1 v1) (k : Grow w1 v1 w2 v2) : Grow w v w2 v2 := by
  have hs := h.1.size
  refine ⟨⟨k.1.os.trans h.1.os, k.1.tape.trans h.1.tape, k.1.output.trans h.1.output, Nat.le_trans hs k.1.size, fun i hi hn => ?_⟩, fun g e => ?_⟩
  · rw [k.1.block i (by omega) (fun q => ?_), h.1.block i hi hn]
    rw [Option.mem_toList] at q hn
    rcases h.2 i q with z | z
    · exact hn z
    · omega
  · have hs2 := k.1.size
    rcases k.2 g e with z | z
    · rcases h.2 g z with y | y
      · exact .inl y
      · exact .inr (by omega)
    · exact .inr (by omega)
theorem oldGrow {w w1 : World} {v : Value} (u : Old w w1) : Grow w v w1 v := ⟨Chg.ofOld u, fun g e => .inl e⟩
theorem Chg.setRow (w : World) (g : Nat) (cs : Array Value) (S : List Nat) (h : g ∈ S) : Chg S w (w.setRow g cs) := ⟨rfl, rfl, rfl, by simp [World.setRow], fun k hk hn => Go.setRow_other w g k cs (fun e => hn (by rw [e]; exact h))⟩
theorem alloc_at (w : World) (o : Obj) : (w.alloc o).heap[w.heap.size]? = some o := by
  show (w.heap.push o)[w.heap.size]? = _
  simp
theorem grow_new (w : World) (v : Value) (o : Obj) (n c : Nat) : Grow w v (w.drew.alloc o) (.slice (some ⟨w.heap.size, 0, none⟩) n c) :=
  ⟨Chg.ofOld (((Old.refl w).drew).alloc o), fun g e => by cases e; exact .inr ⟨Nat.le_refl _, by simp⟩⟩
/-- append(s, make([]byte, k)...). -/
theorem wp_zeros {ops : Array Oper} {rest : List Oper} {o : Oper} {a : Act} {Q : Exit → Act → World → Prop} {w : World} (hgd : o.guard = none) (s x : Operand)
    (ho : o.op = .call { callee := .builtin .append, args := #[s, x], argTypes := #[26, 3] }) (v : Value) (L : List Nat) (k : Nat)
    (hs : a.eval s = v) (hx : a.eval x = .int .i64 (k : Nat)) (hown : Own w v L) (hk : 0 < k) (hb : L.length + k ≤ 1099511627776)
    (h : ∀ v' w', Own w' v' (L ++ List.replicate k 0) → Grow w v w' v' → wpList Try.prog ops Q rest (a.put o.dst v') w') : wpList Try.prog ops Q (o :: rest) a w := by
  obtain ⟨i0, hi, hz0, hz1, hz2⟩ := info_parts Pk.infoByte
  have hby := byt_app hown.byt (byt_zero k)
  have hlen : (L ++ List.replicate k 0).length = L.length + k := by simp
  have hw : IntKind.i64.wrap (k : Int) = k := by rw [IntKind.wrap_i64]; omega
  have grow : ∀ (base : Option Addr) (sCap : Nat), v = .slice base L.length sCap → (Builtin.firstCells i0.size L.length (.slice base L.length sCap)).run Try.prog w.drew = .ok (bv L).toArray w.drew → sCap < L.length + k → wpList Try.prog ops Q (o :: rest) a w := by
    intro base sCap hv hold hg
    have hrun := run_append_grow_zeros (P := Try.prog) w 26 3 o.type 5 i0 (.int .u8 0) .i64 .i64 Try.underlying26 Try.underlying3 hi hz0 base L.length sCap (bv L) hold k hk (by rw [hz1]; omega) hg (by omega) (by rw [hz2]; omega) (growslice_fits hg (by rw [hz2]; omega))
    refine wpList_append_run w hgd s x 26 3 ho _ _ (hs.trans hv) hx _ _ hrun ?_
    rw [zeroC, zeroC]
    refine h _ _ ?_ (grow_new w v _ _ _)
    rw [← hlen]
    have hge := grownCap_ge w (L.length + k) sCap 5
    refine own_of (alloc_at w.drew _) (by rw [hlen]; exact hge) (grownCap_le_maxLen w _ _ _ (by unfold maxLen; omega)) ?_ ?_ hby
    · simp [bv]
      omega
    · simp only [Array.toList_append, hlen]
      rw [bv_app, List.take_append_of_le_length (by rw [bv_len, hlen]; exact Nat.le_refl _), List.take_of_length_le (by rw [bv_len, hlen]; exact Nat.le_refl _)]
  rcases hown.cases with ⟨rfl, rfl⟩ | ⟨g, cap, cur, rfl, hg, h1, h2, h3, h4⟩
  · exact grow none 0 rfl (by rw [run_firstCells_none]; rfl) (by simp; omega)
  · by_cases hf : L.length + k ≤ cap
    · have hst := run_storeCells_at (P := Try.prog) g L.length 5 (bv (List.replicate k 0)) 0 cur w hg (by rw [bv_len]; simp; omega) (bv_one _)
      have hneg : ¬ ((k : Int) < 0) := by omega
      have h48i : ¬ (281474976710656 < (k : Int) * (i0.bytes : Int)) := by rw [hz2]; simp; omega
      have hns : ¬ (k * i0.size = 0) := by rw [hz1]; omega
      have hrun : (Builtin.append_ #[26, 3] o.type #[.slice (some ⟨g, 0, none⟩) L.length cap, .int .i64 (k : Nat)]).run Try.prog w = .ok (.slice (some ⟨g, 0, none⟩) (L.length + k) cap) (w.setRow g (cur.toList.take (L.length + 0) ++ bv (List.replicate k 0) ++ cur.toList.drop (L.length + 0 + (bv (List.replicate k 0)).length)).toArray) := by
        have hadd : (⟨g, 0, none⟩ : Addr).add (L.length * i0.size) = ⟨g, L.length, none⟩ := by rw [hz1, Nat.mul_one, Go.WideShapes.add_plain, Nat.zero_add]
        simp [Builtin.append_, run_underlying Try.underlying26, run_underlying Try.underlying3, sizeOf, typeInfo, zeroValue, hi, hz0, asInt, asIntOf, hw, hneg, hns, h48i, hf, zeroC, hadd]
        rw [Nat.add_zero] at hst
        rw [hst]
        simp [Result.andThen]
      refine wpList_append_run w hgd s x 26 3 ho _ _ hs hx _ _ hrun ?_
      refine h _ _ ?_ ⟨Chg.setRow w g _ _ (by simp [Value.ownBlock]), fun z e => .inl e⟩
      rw [← hlen]
      refine own_of (setRow_heap w g _ _ _ _ hg) (by rw [hlen]; exact hf) h2 ?_ ?_ hby
      · simp [bv_len]
        omega
      · rw [Nat.add_zero, List.toList_toArray, h4, bv_app, List.take_append_of_le_length (by rw [bv_len]; exact Nat.le_refl _), List.take_of_length_le (by rw [bv_len]; exact Nat.le_refl _)]
    · refine grow _ cap rfl ?_ (by omega)
      refine run_firstCells_some (P := Try.prog) w.drew i0.size L.length ⟨g, 0, none⟩ L.length cap (bv L) (by rw [bv_len, hz1, Nat.mul_one]) ?_
      intro j u hj
      have hl : j < L.length := by have := (List.getElem?_eq_some_iff.1 hj).1; rw [bv_len] at this; exact this
      rw [Go.WideShapes.add_plain, Nat.zero_add, Go.Joins.cell_of_block (w := w.drew) hg, ← hj, ← h4, List.getElem?_take, if_pos hl, Array.getElem?_toList]
/-- Bytes laid over others from a place on; zeros between. -/
def overL (L : List Nat) (a : Nat) (M : List Nat) : List Nat := splice (L ++ List.replicate (a + M.length - L.length) 0) a M
theorem overL_len (L : List Nat) (a : Nat) (M : List Nat) : (overL L a M).length = max L.length (a + M.length) := by
  unfold overL
  rw [length_splice _ _ _ (by simp; omega)]
  simp
  omega
theorem bv_splice (L : List Nat) (a : Nat) (M : List Nat) : bv (splice L a M) = splice (bv L) a (bv M) := by
  unfold splice bv
  simp
theorem splice_byt {L M : List Nat} {a : Nat} (h : Byt L) (k : Byt M) : Byt (splice L a M) := by
  intro x hx
  unfold splice at hx
  rcases List.mem_append.1 hx with q | q
  · exact h x (List.mem_of_mem_take q)
  · rcases List.mem_append.1 q with r | r
    · exact k x r
    · exact h x (List.mem_of_mem_drop r)
/-- copy(b[at:], with). -/
theorem wp_copyB {ops : Array Oper} {rest : List Oper} {o : Oper} {a : Act} {Q : Exit → Act → World → Prop} {w : World} (hgd : o.guard = none) (d s : Operand)
    (ho : o.op = .call { callee := .builtin .copy, args := #[d, s], argTypes := #[26, 26] }) (g n cap off k : Nat) (u : Value) (L M : List Nat)
    (hd : a.eval d = .slice (some ⟨g, off, none⟩) (n - k) (cap - k)) (hs : a.eval s = u) (hown : Own w (.slice (some ⟨g, 0, none⟩) n cap) L) (hrow : Rw w u M) (hfit : k + M.length ≤ L.length) (hoff : M = [] ∨ off = k)
    (h : ∀ w', Own w' (.slice (some ⟨g, 0, none⟩) n cap) (splice L k M) → Chg [g] w w' → wpList Try.prog ops Q rest (a.put o.dst (goInt M.length)) w') : wpList Try.prog ops Q (o :: rest) a w := by
  have hsz : (Try.prog.info? 5).map (·.size) = some 1 := by
    obtain ⟨i0, hi, _, hz1, _⟩ := info_parts Pk.infoByte
    rw [hi]; simp [hz1]
  have hby := hown.byt
  rcases hown.cases with ⟨e, _⟩ | ⟨g', cap', cur, e, hg, h1, h2, h3, h4⟩
  · cases e
  · cases e
    by_cases hM : M = []
    · subst hM
      obtain ⟨ua, uc, rfl⟩ := hrow.len
      refine wpList_copy_nothing hgd d s 26 26 ho 5 Try.underlying26 hsz _ _ _ _ _ _ hd hs (Nat.zero_min _) ?_
      exact h w (by rw [show splice L k [] = L from by simp [splice]]; exact hown) (Chg.refl _ _)
    · have h0 : 0 < M.length := List.length_pos_iff.2 hM
      obtain rfl : off = k := by rcases hoff with q | q; exact absurd q hM; exact q
      obtain ⟨b, bo, bc, rfl, hc, _⟩ := hrow.cells h0
      refine wpList_copy_own hgd d s 26 26 ho 5 Try.underlying26 hsz g off _ _ ⟨b, bo, none⟩ M.length bc hd hs cur 5 hg (bv M) (by rw [bv_len]; exact (Nat.min_eq_left (by omega)).symm) (fun j v hj => by rw [Go.WideShapes.add_plain]; exact hc j v hj) (by rw [bv_len]; omega) (bv_one _) ?_
      rw [bv_len]
      have hl : (splice L off M).length = L.length := length_splice _ _ _ hfit
      refine h _ ?_ (Chg.setRow w g _ _ (by simp))
      have hq : Own (w.setRow g (cur.toList.take off ++ (bv M ++ cur.toList.drop (off + M.length))).toArray) (.slice (some ⟨g, 0, none⟩) (splice L off M).length cap) (splice L off M) := by
        refine own_of (setRow_heap w g _ _ _ _ hg) (by omega) h2 (by simp [bv_len]; omega) ?_ (splice_byt hby hrow.byt)
        have ec : cur.toList = bv L ++ cur.toList.drop L.length := by rw [← h4, List.take_append_drop]
        have e1 : cur.toList.take off = (bv L).take off := by rw [← h4, List.take_take, Nat.min_eq_left (by omega)]
        have e2 : cur.toList.drop (off + M.length) = (bv L).drop (off + M.length) ++ cur.toList.drop L.length := by
          conv => lhs; rw [ec]
          rw [List.drop_append_of_le_length (by rw [bv_len]; omega)]
        rw [List.toList_toArray, bv_splice, hl, e1, e2]
        unfold splice
        rw [bv_len, ← List.append_assoc (bv M), ← List.append_assoc (List.take off (bv L)), List.take_append_of_le_length (by simp [bv_len]; omega), List.take_of_length_le (by simp [bv_len]; omega)]
      rw [hl] at hq
      exact hq
end Go.Proofs.Ytejeihbcakojeaa
