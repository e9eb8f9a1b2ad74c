/- preds: the document's table: rows of ranges and numbers in any order; Drop; conditions: the lengths fit. -/
import Derived.Test.YtodoogcllahfgaaYi
import Derived.Laws.AppendOwnNone
import Derived.OneCell
import Derived.ArgAppend
import Derived.OwnWalk
import Derived.Deep.QuietTactic
import Derived.BigQuiet
import Derived.Deep.Draws
namespace Go.Proofs.Ytodoogcllahfgaa
open Go.RowKit Go.Lib
set_option linter.unusedVariables false
set_option linter.unusedSimpArgs false
set_option maxRecDepth 20000
/-- A range of codes and its number. -/
structure Rt where
  l : Nat
  h : Nat
  n : Int
def rtc (x : Rt) : List Value := [.int .u64 (x.l : Nat), .int .u64 (x.h : Nat), .int .i64 x.n]
def rtcs (L : List Rt) : List Value := L.flatMap rtc
theorem rtcs_app (L M : List Rt) : rtcs L ++ rtcs M = rtcs (L ++ M) := by simp [rtcs]
theorem rtcs_one (L : List Rt) : ∀ u ∈ rtcs L, u.oneCell' = true := by
  intro u hu
  obtain ⟨s, _, h⟩ := List.mem_flatMap.1 hu
  simp [rtc] at h
  rcases h with rfl | rfl | rfl <;> rfl
def atR (L : List Rt) (i : Nat) : Rt := (L[i]?).getD ⟨0, 0, 0⟩
theorem atR_get (L : List Rt) (i : Nat) (h : i < L.length) : atR L i = L[i] := by simp [atR, h]
def RtIn (w : World) (b o : Nat) (x : Rt) : Prop := w.cell? ⟨b, o, none⟩ = some (.int .u64 (x.l : Nat)) ∧ w.cell? ⟨b, o + 1, none⟩ = some (.int .u64 (x.h : Nat)) ∧ w.cell? ⟨b, o + 2, none⟩ = some (.int .i64 x.n)
theorem RtIn.old {w w' : World} {b o : Nat} {x : Rt} (h : RtIn w b o x) (u : Old w w') : RtIn w' b o x := ⟨u.keep h.1, u.keep h.2.1, u.keep h.2.2⟩
def keepQ (m : Int) (L : List Rt) : List Rt := L.filter fun x => decide (m < x.n)
theorem keepQ_step (m : Int) (L : List Rt) (j : Nat) (hj : j < L.length) : keepQ m (L.take (j + 1)) = keepQ m (L.take j) ++ (if m < (atR L j).n then [atR L j] else []) := by
  unfold keepQ
  rw [List.take_add_one, List.filter_append, List.getElem?_eq_getElem hj, atR_get L j hj]
  by_cases h : m < L[j].n <;> simp [h]
/-- The slice value v owns the document's items among the blocks from base on. -/
def OwnM (base : Nat) (w : World) (v : Value) (M : List Rt) : Prop := w.ownsRow base 55 3 v M.length (rtcs M)
theorem OwnM.old {base : Nat} {w w' : World} {v : Value} {M : List Rt} (h : OwnM base w v M) (u : Old w w') : OwnM base w' v M := by
  refine ⟨h.1, ?_⟩
  rcases h.2 with e | ⟨g, cap, cur, e, hb', hg, r⟩
  · exact .inl e
  · exact .inr ⟨g, cap, cur, e, hb', u.block hg, r⟩
theorem OwnM.chg {base : Nat} {S : List Nat} {w w' : World} {v : Value} {M : List Rt} (h : OwnM base w v M) (u : Chg S w w') (hn : ∀ g, v.ownBlock = some g → g ∉ S) : OwnM base w' v M := by
  refine ⟨h.1, ?_⟩
  rcases h.2 with e | ⟨g, cap, cur, rfl, hb', hg, r⟩
  · exact .inl e
  · exact .inr ⟨g, cap, cur, rfl, hb', u.heapAt hg (hn g rfl), r⟩
theorem OwnM.lt {base : Nat} {w : World} {v : Value} {M : List Rt} (h : OwnM base w v M) (g : Nat) (hg : v.ownBlock = some g) : base ≤ g ∧ g < w.heap.size := World.ownsRow.lt h g hg
theorem OwnM.nil (base : Nat) (w : World) : OwnM base w (.slice none 0 0) [] := World.ownsRow_nil w base _ 3
theorem OwnM.empty {base g : Nat} {w : World} (hb : base ≤ w.heap.size) (hg : w.heap.size = g) : OwnM base (w.alloc (.cells #[] 55)) (.slice (some ⟨g, 0, none⟩) 0 0) [] := by
  subst hg
  exact World.ownsRow_made w #[] 0 hb (by unfold maxLen; omega) rfl
theorem OwnM.len {base : Nat} {w : World} {v : Value} {M : List Rt} (h : OwnM base w v M) : ∃ a c, v = .slice a M.length c := by
  rcases h.2 with ⟨rfl, e⟩ | ⟨g, cap, cur, rfl, _⟩
  · exact ⟨none, 0, by rw [e]⟩
  · exact ⟨_, _, rfl⟩
theorem OwnM.mono {base b' : Nat} {w : World} {v : Value} {M : List Rt} (h : OwnM base w v M) (hb : b' ≤ base) : OwnM b' w v M := by
  refine ⟨h.1, ?_⟩
  rcases h.2 with e | ⟨g, cap, cur, e, hb', r⟩
  · exact .inl e
  · exact .inr ⟨g, cap, cur, e, by omega, r⟩
theorem OwnM.shape {base : Nat} {w : World} {v : Value} {M : List Rt} (h : OwnM base w v M) (hn : 0 < M.length) :
    ∃ g cap, v = .slice (some ⟨g, 0, none⟩) M.length cap ∧ base ≤ g ∧ g < w.heap.size ∧ ∀ i, i < M.length → RtIn w g (i * 3) (atR M i) := by
  have h2 := h
  unfold OwnM at h2
  rcases h2.2 with ⟨_, e⟩ | ⟨g, cap, cur, rfl, hb, hg, hnc, hcm, hcs, htk⟩
  · omega
  · refine ⟨g, cap, rfl, hb, heap_lt hg, fun i hi => ?_⟩
    have H : ∀ j, j < 3 → w.cell? ⟨g, i * 3 + j, none⟩ = (rtc M[i])[j]? := fun j hj => by
      rw [h2.cellAt (i * 3 + j) (by omega)]; exact flat_get rtc 3 (fun _ => rfl) M i j hi hj
    rw [atR_get M i hi]
    exact ⟨H 0 (by omega), H 1 (by omega), H 2 (by omega)⟩
theorem infoM : (Try.prog.info? 55).map (fun i => (i.zero, i.size, i.bytes)) = some (some (.agg #[.int .u64 0, .int .u64 0, .int .i64 0]), 3, 24) := by kernel_rfl
theorem itemM_new (w : World) (x : Rt) (g : Nat) (hg : w.heap.size = g) : RtIn (w.alloc (.cells #[.int .u64 (x.l : Nat), .int .u64 (x.h : Nat), .int .i64 x.n] 55)) g 0 x := by
  have hh := alloc_heap w (.cells #[.int .u64 (x.l : Nat), .int .u64 (x.h : Nat), .int .i64 x.n] 55) g hg
  exact ⟨by rw [cell_of_heap hh]; rfl, by rw [cell_of_heap hh]; rfl, by rw [cell_of_heap hh]; rfl⟩
/-- append of one item. -/
theorem wp_appM {ops : Array Oper} {rest : List Oper} {o : Oper} {a : Act} {Q : Exit → Act → World → Prop} {w : World} (hgd : o.guard = none) (s x : Operand)
    (ho : o.op = .call { callee := .builtin .append, args := #[s, x], argTypes := #[27, 27] }) (base : Nat) (v : Value) (M : List Rt) (r : Rt) (g c1 : Nat)
    (hs : a.eval s = v) (hx : a.eval x = .slice (some ⟨g, 0, none⟩) 1 c1) (hown : OwnM base w v M) (hc : RtIn w g 0 r) (hb : M.length + 1 ≤ 4398046511104) (hbase : base ≤ w.heap.size)
    (h : ∀ v' w', OwnM base w' v' (M ++ [r]) → Below base w w' → wpList Try.prog ops Q rest (a.put o.dst v') w') : wpList Try.prog ops Q (o :: rest) a w := by
  obtain ⟨i0, hi, hz0, hz1, hz2⟩ := info_parts infoM
  refine wpList_append_own w hgd s x 27 ho base 55 i0 _ 3 24 Try.underlying27 hi hz0 hz1 hz2 rfl (by decide) v M.length (rtcs M) hs hown ⟨g, 0, none⟩ 1 c1 (rtcs [r]) hx rfl ?_ (rtcs_one [r]) (by unfold maxLen; omega) (by omega) hbase ?_
  · intro j u hj
    rw [Go.WideShapes.add_plain]
    match j with
    | 0 => simp [rtcs, rtc] at hj; subst hj; exact hc.1
    | 1 => simp [rtcs, rtc] at hj; subst hj; exact hc.2.1
    | 2 => simp [rtcs, rtc] at hj; subst hj; exact hc.2.2
    | j + 3 => simp [rtcs, rtc] at hj
  · intro v' w' h1 h2 h3
    exact h v' w' (by unfold OwnM; rw [rtcs_app] at h1; simpa using h1) (Below.grown (Below.refl _ _) h2 hbase (fun k hk => (World.ownsRow.lt hown k hk).1))
theorem OwnM.set {base : Nat} {w : World} {v : Value} {M : List Rt} (h : OwnM base w v M) (p : Addr) (u : Value) (hp : p.block < base) : OwnM base (w.setCell p u) v M :=
  h.chg (Chg.set w p u (S := [p.block]) (by simp)) (fun g hg e => by simp at e; have := (h.lt g hg).1; omega)
theorem keepQ_take (m : Int) (M : List Rt) : keepQ m (M.take M.length) = keepQ m M := by rw [List.take_length]
attribute [local go_sem] run_bits run_frombits run_store_float
/-- A table of the document in a box of its own, and the box for the answer. -/
theorem boxes2 (w : World) (most : Int) (v : Value) (w1 : World) (e : (w.alloc (.cells #[.int .i64 most, v] 29)).alloc (.cells #[.int .i64 0, .slice none 0 0] 29) = w1) (tb : Nat) (hb : w.heap.size = tb) : Old w w1 ∧ w1.heap.size = tb + 2 ∧ (w1.cell? ⟨tb, 0, none⟩ = some (.int .i64 most) ∧ w1.cell? ⟨tb, 1, none⟩ = some v ∧ w1.cell? ⟨tb + 1, 0, none⟩ = some (.int .i64 0) ∧ w1.cell? ⟨tb + 1, 1, none⟩ = some (.slice none 0 0)) ∧ w1.frozen? ⟨tb, 0, none⟩ = false ∧ w1.frozen? ⟨tb, 1, none⟩ = false ∧ w1.frozen? ⟨tb + 1, 0, none⟩ = false ∧ w1.frozen? ⟨tb + 1, 1, none⟩ = false := by
  subst e hb
  have h1 := alloc_heap w (.cells #[.int .i64 most, v] 29) _ rfl
  have h2 := alloc_heap (w.alloc (.cells #[.int .i64 most, v] 29)) (.cells #[.int .i64 0, .slice none 0 0] 29) (w.heap.size + 1) (by simp)
  have u := (Old.refl (w.alloc (.cells #[.int .i64 most, v] 29))).alloc (.cells #[.int .i64 0, .slice none 0 0] 29)
  have h3 := u.block h1
  exact ⟨((Old.refl w).alloc _).trans u, by simp, ⟨by rw [cell_of_heap h3]; rfl, by rw [cell_of_heap h3]; rfl, by rw [cell_of_heap h2]; rfl, by rw [cell_of_heap h2]; rfl⟩, frozen_of_heap h3 _, frozen_of_heap h3 _, frozen_of_heap h2 _, frozen_of_heap h2 _⟩
set_option maxHeartbeats 1000000 in
set_option maxRecDepth 20000 in
theorem rDrop_any (base : Nat) (most m : Int) (v : Value) (M : List Rt) (w : World) (h : OwnM base w v M) (hl : M.length ≤ 1000000) :
    Calls Try.prog 9 #[.agg #[.int .i64 most, v], .int .i64 m] w fun e w' => ∃ v', e = .returned (.agg #[.int .i64 most, v']) ∧ OwnM w.heap.size w' v' (keepQ m M) ∧ Old w w' := by
  obtain ⟨sa, sc, hv⟩ := h.len
  have HSh := hid (fun (e : 0 < M.length) => h.shape e)
  have HSt := hid (keepQ_step m M)
  have HTk := hid (keepQ_take m M)
  subst hv
  have HL := hid (fun k => show (keepQ m (M.take k)).length ≤ M.length from Nat.le_trans (List.length_filter_le _ _) (List.length_take_le' _ _))
  clear h
  generalize hN : M.length = N at *
  have hN1 := hid hN
  clear hN
  go_enter Try.func9, Try.ntmps9
  go_upto_region 1 with fail
  generalize hw1 : (w.alloc (.cells #[.int .i64 most, .slice sa N sc] 29)).alloc (.cells #[.int .i64 0, .slice none 0 0] 29) = w1 at *
  generalize htb : w.heap.size = tb at *
  have HX := hid (boxes2 w most (.slice sa N sc) w1 hw1 tb htb)
  clear hw1
  have HE := hid (show OwnM (tb + 2) (w1.alloc (.cells #[] 55)) (.slice (some ⟨w1.heap.size, 0, none⟩) 0 0) (keepQ m (M.take 0)) from OwnM.empty (by rw [HX.out.2.1]; exact Nat.le_refl _) rfl)
  go_upto_region 2 with fail
  have HV2 := hid ((Old.refl w1).alloc (.cells #[] 55))
  generalize w1.alloc (.cells #[] 55) = w2 at *
  go_wp2
  go_loopw [5, 6] (fun o i wr => ∃ k : Nat, k ≤ N ∧ i = .int .i64 (k : Nat) ∧ OwnM (tb + 2) wr o (keepQ m (M.take k)) ∧ Old w1 wr) (fun _ i _ => N - (intOf i).toNat)
  case atStart => exact ⟨0, Nat.zero_le _, rfl, HE.out, HV2.out⟩
  case round =>
    obtain ⟨k, hkN, rfl, ho, hu⟩ := hrel
    have HU := hid hu
    have HO := hid ho
    clear hu ho HE
    obtain ⟨x0, x1, ⟨y0, y1, y2, y3⟩, z0, z1, z2, z3⟩ := HX.out
    have X1 := hid x1
    clear x1
    have b0 := HU.out.keep y0
    have b1 := HU.out.keep y1
    by_cases hlt : k < N
    · obtain ⟨g, cap, he, hgb, hgl, hi⟩ := HSh.out (by omega)
      simp only [Value.slice.injEq] at he
      obtain ⟨rfl, _, rfl⟩ := he
      obtain ⟨c0, c1, c2⟩ := (hi k hlt).old (x0.trans HU.out)
      have l1 : (0 : Int) ≤ (k : Int) := by omega
      have l2 : (k : Int) < (N : Int) := by omega
      clear hi x0 y0 y1 y2 y3 z0 z1 z2 z3
      have HSk := hid (HSt.out k hlt)
      by_cases e : m < (atR M k).n
      · rw [if_pos e] at HSk
        go_upto_region 6 with fail
        have hlen := HL.out k
        have HU2 := hid (HU.out.alloc (.cells #[.int .u64 ((atR M k).l : Nat), .int .u64 ((atR M k).h : Nat), .int .i64 (atR M k).n] 55))
        go_wp2_with (first | (at_builtin; refine wp_appM rfl (.tmp 23) (.tmp 29) rfl (tb + 2) _ (keepQ m (M.take k)) (atR M k) _ 1 rfl rfl (OwnM.old HO.out ((Old.refl _).alloc _)) (itemM_new _ (atR M k) _ (by simp)) (by omega) (by have := HU2.out.size; have := X1.out; omega) ?_; intro v8 w8 o8 g8; have O8 := hid o8; have G8 := hid g8; clear o8 g8))
        go_roundw
        case rel => exact ⟨k + 1, hlt, by go_num, by rw [HSk.out]; exact O8.out, HU2.out.below (by rw [X1.out]; exact G8.out)⟩
        case measure => simp [intOf]; omega
      · rw [if_neg e, List.append_nil] at HSk
        go_wp2
        go_roundw
        case rel => exact ⟨k + 1, hlt, by go_num, by rw [HSk.out]; exact HO.out, HU.out⟩
        case measure => simp [intOf]; omega
    · obtain rfl : k = N := by omega
      have b2 := HU.out.keep y2
      have b3 := HU.out.keep y3
      have f0 := HU.out.keepF y0 z0
      have f1 := HU.out.keepF y1 z1
      have f2 := HU.out.keepF y2 z2
      have f3 := HU.out.keepF y3 z3
      have HUw := hid (x0.trans HU.out)
      rw [HTk.out] at HO
      clear x0 y0 y1 y2 y3 z0 z1 z2 z3 HTk HSt HSh HL hN1
      obtain ⟨a5, c5, hv5⟩ := HO.out.len
      subst hv5
      generalize hK : keepQ m M = K at *
      go_wp2
      refine bodyPost_ret (v := .agg #[.int .i64 most, .slice a5 K.length c5]) (by simp [results, Try.results9, go_sem, *]) rfl ⟨_, rfl, ?_, ?_⟩
      · have q := ((HO.out.set ⟨tb, 1, none⟩ (.slice a5 K.length c5) (show tb < tb + 2 by omega)).set ⟨tb + 1, 0, none⟩ (.int .i64 most) (show tb + 1 < tb + 2 by omega)).set ⟨tb + 1, 1, none⟩ (.slice a5 K.length c5) (show tb + 1 < tb + 2 by omega)
        subst hK
        exact OwnM.mono q (show w.heap.size ≤ tb + 2 by omega)
      · exact ((HUw.out.setCell (by simp [htb]) _).setCell (by simp [htb]) _).setCell (by simp [htb]) _
end Go.Proofs.Ytodoogcllahfgaa
