/- slices.Sorted(slices.Values(row)) at every row of int; conditions: the row lies in memory. -/
import Derived.Test.YtcicefpcledmgaaV1
import Derived.Test.YtcicefpcledmgaaV3
import Derived.Shelf.SortM.Plain
import Derived.Shelf.SortM.SortNone
import Derived.Ground.SlgmProg
import Derived.RangeFuncBox
import Derived.RangeFuncLeaves
import Derived.Shelf.Abstract
import Derived.WalkKit
import Derived.OwnWalkIn
import Derived.TacticsInMore
import Derived.LoopNIn
import Derived.LoopIn
namespace Go.Proofs
open Go.RowKit Go.Maps Go.Sort Go.Shelf
shelf_lay_g SlLaysM.n5 Slgm 5 at Try 50 as Ytcicefpcledmgaa.sortI
end Go.Proofs
namespace Go.Proofs.Ytcicefpcledmgaa
open Go.RowKit Go.Lib Go.Sort Go.Shelf
set_option linter.unusedVariables false
set_option linter.unusedSimpArgs false
set_option maxRecDepth 100000
attribute [local go_sem] Oper.semAt_some
set_option maxHeartbeats 2000000 in
set_option maxRecDepth 20000 in
/-- slices.Values' closure hands over what stands in the row, one by one. -/
theorem values_stops (m : Nat) (hm : 1 ≤ m) (Bs n₀ : Nat) (p : Option Addr) (n c : Nat) (f : Nat → Int) (w : World) (hn₀ : n₀ ≤ w.heap.size) (hn : n ≤ 17592186044000) (hBs : w.cell? ⟨Bs, 0, none⟩ = some (.slice p n c))
    (hrow : ∀ i, i < n → ∃ g off, p = some ⟨g, off, none⟩ ∧ g < n₀ ∧ w.cell? ⟨g, off + i, none⟩ = some (.int .i64 (f i))) :
    SeqStopsK Fence.wide m Try.prog 61 #[.pointer (some ⟨Bs, 0, none⟩)] (fun x : Int => #[Value.int .i64 x]) (Below n₀) (fun ys => ys = lsI f n) (fun _ => True) n w := fun l J Jx W hW _ _ hY h0 => by
  have hB := (hW.cell (p := ⟨Bs, 0, none⟩) (World.block_lt_of_cell? w _ hBs)).trans hBs
  have HC := hid (fun i hi => hrow i hi)
  have HW := hid hW
  clear hrow hW
  refine callsIn_of_wp Try.func61 rfl trivial ?_ rfl
  simp only [Try.ntmps61, List.size_toArray, List.length_cons, List.length_nil, Nat.reduceAdd, Nat.reduceSub, Array.replicate_succ, Array.replicate_zero, List.push_toArray, List.append_toArray, List.nil_append, List.cons_append]
  gi_wp2
  gi_loopw [7] (fun i wr => ∃ k : Nat, k ≤ n ∧ i = .int .i64 k ∧ J (lsI f k) wr ∧ Below n₀ W wr) (fun i _ => n - (intOf i).toNat)
  case atStart => exact ⟨0, Nat.zero_le _, rfl, h0, Below.refl _ _⟩
  case round =>
    obtain ⟨k, hk, rfl, hJs, hnx⟩ := hrel
    by_cases hlt : k < n
    · obtain ⟨g, off, rfl, hg, hc⟩ := HC.out k hlt
      have hcx : wr.cell? ⟨g, off + k, none⟩ = some (.int .i64 (f k)) := (hnx.cell (p := ⟨g, off + k, none⟩) hg).trans ((HW.out.cell (p := ⟨g, off + k, none⟩) (Nat.lt_of_lt_of_le hg hn₀)).trans hc)
      obtain ⟨fn, tmps, assign, body, hy, hR⟩ := hY _ (f k) wr hJs (by rw [lsI_len]; exact hlt)
      have l1 : (0 : Int) ≤ (k : Int) := by omega
      have l2 : (k : Int) < (n : Int) := by omega
      gi_wp2
      refine hR.mono ?_
      rintro e W3 (⟨rfl, hJ3, hk3⟩ | ⟨rfl, hJx3⟩)
      · gi_wp2
        go_roundw
        case rel => exact ⟨k + 1, by omega, by simp, hJ3, hnx.trans hk3⟩
        case measure => simp [intOf]; omega
      · gi_wp2
        refine bodyPost_ret (results_none rfl _ _ _) rfl ?_
        exact ⟨⟨_, rfl⟩, .inr ⟨_, trivial, hJx3⟩⟩
    · obtain rfl : k = n := by omega
      gi_wp2
      go_end0
      exact ⟨⟨_, rfl⟩, .inl ⟨_, rfl, hJs⟩⟩
set_option maxHeartbeats 1000000 in
set_option maxRecDepth 20000 in
theorem values_in (m : Nat) (p : Option Addr) (n c : Nat) (w : World) :
    CallsIn Fence.wide m Try.prog 37 #[.slice p n c] w fun e w' => e = .returned (.func (.func 61) #[] #[.pointer (some ⟨w.heap.size, 0, none⟩)]) ∧ w' = w.alloc (.cells #[.slice p n c] 22) := by
  refine callsIn_of_wp Try.func37 rfl trivial ?_ rfl
  simp only [Try.ntmps37, List.size_toArray, List.length_cons, List.length_nil, Nat.reduceAdd, Nat.reduceSub, Array.replicate_succ, Array.replicate_zero, List.push_toArray, List.append_toArray, List.nil_append, List.cons_append]
  gi_wp2
  go_ret
  exact ⟨rfl, rfl⟩
/-- A row whose values are handed over: where it is boxed, and what stands in it. -/
structure Boxd (w : World) (Bs : Nat) (p : Option Addr) (n c : Nat) (f : Nat → Int) : Prop where
  few : n ≤ 17592186044000
  box : w.cell? ⟨Bs, 0, none⟩ = some (.slice p n c)
  row : ∀ i, i < n → ∃ g off, p = some ⟨g, off, none⟩ ∧ w.cell? ⟨g, off + i, none⟩ = some (.int .i64 (f i))
set_option maxHeartbeats 2000000 in
set_option maxRecDepth 20000 in
theorem appendSeq_in (m : Nat) (hm : 3 ≤ m) (Bs : Nat) (p : Option Addr) (n c : Nat) (f : Nat → Int) (w : World) (hb : Boxd w Bs p n c f) :
    CallsIn Fence.wide m Try.prog 77 #[.slice none 0 0, .func (.func 61) #[] #[.pointer (some ⟨Bs, 0, none⟩)]] w fun e w' => ∃ v, e = .returned v ∧ OwnI w.heap.size w' v (lsI f n) ∧ Old w w' := by
  have h1 : 1 ≤ m := by omega
  have hn := hb.few
  obtain ⟨i0, hi, hz0, hz1, hz2⟩ := info_parts infoI
  refine callsIn_of_wp_marks Try.func77 rfl trivial ?_ rfl
  simp only [Try.ntmps77, List.size_toArray, List.length_cons, List.length_nil, Nat.reduceAdd, Nat.reduceSub, Array.replicate_succ, Array.replicate_zero, List.push_toArray, List.append_toArray, List.nil_append, List.cons_append]
  gi_wp2
  have bO := Boxed.new w 22 (.slice none 0 0)
  have hB0 : Below w.heap.size w (w.alloc (.cells #[.slice none 0 0] 22)) := (Below.refl _ w).alloc (Nat.le_refl _) _
  refine wpIn_rangeFunc_ownG rfl h1 (gf := 61) (lb := #[.pointer (some ⟨Bs, 0, none⟩)]) rfl trivial (enters_of Try.func61 (by kernel_rfl) rfl)
    (values_stops (m - 1) (by omega) Bs w.heap.size p n c f _ (by simp) hn ((hB0.cell (p := ⟨Bs, 0, none⟩) (World.block_lt_of_cell? w _ hb.box)).trans hb.box)
      (fun i hi => by
        obtain ⟨g, off, e, hc⟩ := hb.row i hi
        have hg : g < w.heap.size := World.block_lt_of_cell? w _ hc
        exact ⟨g, off, e, hg, (hB0.cell (p := ⟨g, off + i, none⟩) hg).trans hc⟩)) belowK_t (belowK_b (by simp)) (Below.refl _ _) (fun _ => rfl)
    (fun pre W => (∃ v, Boxed W w.heap.size 22 v ∧ W.ownsRow w.heap.size 3 1 v pre.length (ils pre) ∧ True) ∧ Below w.heap.size w W)
    (fun _ _ _ => False)
    (OwnFrom.and (Own.from (holdsRow_own w.heap.size w.heap.size 22 3 1 (fun pre => pre.length) (fun pre => ils pre) (fun _ _ => True)) _) (ownFrom_below (Nat.le_refl _) (by simp)))
    (fun _ _ _ _ _ hs _ _ => hs)
    ⟨⟨_, bO, World.ownsRow_nil _ _ _ _, trivial⟩, hB0⟩
    (fun x => { tmps := #[.slice none 0 0, .func (.func 61) #[] #[.pointer (some ⟨Bs, 0, none⟩)], .pointer (some ⟨w.heap.size, 0, none⟩), undef, .slice none 0 0, .int .i64 x, .func (.func 61) #[] #[.pointer (some ⟨Bs, 0, none⟩)], .int .i64 x, undef, undef, undef, undef, undef], defers := [] }) ?assign ?body ?done ?stop
  case assign =>
    intro l x W K hK
    gi_wp2
    exact hK
  case body =>
    rintro l pre x W ⟨⟨v, hv, hrow, _⟩, hB⟩ hlt
    have hc := hv.cell
    gi_wp2_with (gi_at_builtin; refine wpListIn_append_own _ rfl _ _ 22 rfl w.heap.size 3 i0 (.int .i64 0) 1 8 Try.underlying22 hi hz0 hz1 hz2 rfl (by decide) _ _ _ rfl (hrow.alloc _) ⟨W.heap.size, 0, none⟩ 1 1 [.int .i64 x] rfl rfl (cell_one_new _ _ _) (by simp [Value.oneCell']) (by unfold maxLen; omega) (by omega) (by have := hB.size; simp; omega) ?_; intro v' w1 hown' hgrow _; obtain ⟨g', cap', rfl⟩ := ownsRow_succ hown'; obtain ⟨hv1, hv2, hr2, hk2, hb2⟩ := hv.appended (by decide) hrow hB.size (Nat.le_refl _) hown' hgrow; have hc1 := hv1.cell; have hf1 := hv1.frozen)
    exact ⟨hk2.from _, hb2, ⟨_, hv2, by simpa [ils] using hr2, trivial⟩, hB.trans hb2⟩
  case done =>
    rintro D ys W hD rfl ⟨⟨v, hv, hrow, _⟩, hB⟩ hK
    have hc := hv.cell
    gi_wp2
    refine ⟨by simp, .inl ⟨_, _, rfl, run_takeDeferred hK, ?_⟩⟩
    exact ⟨_, results_tmp rfl _ _ _, v, rfl, ownsRow_putObj hrow _ hK rfl, hB.trans (belowK_b (w := w) (Nat.le_refl _) W D _ _ (by simp at hD; omega) hK rfl rfl)⟩
  case stop =>
    rintro D c pre W _ _ h _
    exact h.elim
set_option maxHeartbeats 1000000 in
set_option maxRecDepth 20000 in
theorem collect_in (m : Nat) (hm : 4 ≤ m) (Bs : Nat) (p : Option Addr) (n c : Nat) (f : Nat → Int) (w : World) (hb : Boxd w Bs p n c f) :
    CallsIn Fence.wide m Try.prog 60 #[.func (.func 61) #[] #[.pointer (some ⟨Bs, 0, none⟩)]] w fun e w' => ∃ v, e = .returned v ∧ OwnI w.heap.size w' v (lsI f n) ∧ Old w w' := by
  have cA := appendSeq_in (m - 1) (by omega) Bs p n c f w hb
  have hfA : Fence.wide.fn 77 := trivial
  have h1 : 1 ≤ m := by omega
  refine callsIn_of_wp Try.func60 rfl trivial ?_ rfl
  simp only [Try.ntmps60, List.size_toArray, List.length_cons, List.length_nil, Nat.reduceAdd, Nat.reduceSub, Array.replicate_succ, Array.replicate_zero, List.push_toArray, List.append_toArray, List.nil_append, List.cons_append]
  gi_wp2_with (gi_at_call 77; refine cA.mono ?_; rintro e w' ⟨v, rfl, hv, hu⟩)
  go_ret
  exact ⟨v, rfl, hv, hu⟩
def srt (L : List Int) : List Int := L.mergeSort fun x y => decide (x ≤ y)
theorem srt_len (L : List Int) : (srt L).length = L.length := List.length_mergeSort L
theorem srt_perm (L : List Int) : (srt L).Perm L := List.mergeSort_perm L _
theorem srt_pw (L : List Int) : (srt L).Pairwise (· ≤ ·) := by
  have q := List.pairwise_mergeSort (le := fun x y : Int => decide (x ≤ y)) (fun a b c h1 h2 => by simp at h1 h2 ⊢; omega) (fun a b => by simp; omega) L
  exact q.imp (fun h => by simpa using h)
theorem getD_bang (L : List Int) (j : Nat) (h : j < L.length) : L.toArray[j]! = L.getD j 0 := by
  rw [getElem!_pos L.toArray j (by simpa using h)]
  simp [List.getD_eq_getElem?_getD, h]
theorem holdsI {base : Nat} {w : World} {g cap : Nat} {L : List Int} (h : OwnI base w (.slice (some ⟨g, 0, none⟩) L.length cap) L) : Holds (Value.int .i64) w g 0 L.toArray ∧ g < w.heap.size ∧ base ≤ g := by
  have h2 := h
  unfold OwnI at h2
  rcases h2.2 with ⟨e, _⟩ | ⟨g', cap', cur, e, hb, hg, hnc, hcm, hcs, htk⟩
  · cases e
  · cases e
    refine ⟨fun j hj => ?_, heap_lt hg, hb⟩
    have hj' : j < L.length := by simpa using hj
    refine ⟨?_, by simp [World.frozen?, hg]⟩
    rw [Nat.zero_add, h2.cellAt j (by omega), getD_bang L j hj']
    simp [ils, List.getD_eq_getElem?_getD, hj']
theorem sortI_any {base : Nat} {w : World} {g cap : Nat} {L : List Int} (hl : L.length ≤ 17592186044416) (h : OwnI base w (.slice (some ⟨g, 0, none⟩) L.length cap) L) :
    Calls Try.prog 50 #[.slice (some ⟨g, 0, none⟩) L.length cap] w fun e w' => e = .returned (.tuple #[]) ∧ Chg [g] w w' ∧ OwnI base w' (.slice (some ⟨g, 0, none⟩) L.length cap) (srt L) := by
  obtain ⟨hH, hlt, hb⟩ := holdsI h
  obtain ⟨⟨cur, hg, hs⟩, _, _, hc1, hc2, _⟩ := OwnI.blk h
  refine (AnyM.slices_Sort_int sortI g 0 cap L w hH hlt (by omega)).mono ?_
  rintro e w' ⟨rfl, n, os, rfl⟩
  refine ⟨rfl, ⟨rfl, rfl, rfl, by simp, fun k hk hn => ?_⟩, ?_⟩
  · rw [heap_grow_old _ _ (by simpa using hk)]
    unfold putRow mapBlock
    simp [Array.getElem?_modify]
    intro e; simp at hn; exact absurd e.symm hn
  · have hB : Blk (grow (putRow (Value.int .i64) (Sort.ahead w n) g 0 (srt L).toArray) os) g 3 cap := by
      refine ⟨putCells (Value.int .i64) 0 (srt L).toArray cur, ?_, by simp [putCells, hs]⟩
      rw [heap_grow_old _ _ (by simpa using hlt)]
      simp [putRow, mapBlock, Sort.ahead, Array.getElem?_modify, hg, onCells]
    have q := OwnI.of_cells (base := base) (L := srt L) hB hb (by rw [srt_len]; exact hc1) hc2 (fun j hj => by
      rw [srt_len] at hj
      rw [cell?_grow _ _ _ (by simpa using hlt)]
      have q := cell?_putRow (Value.int .i64) (Sort.ahead w n) g 0 L.toArray (srt L).toArray hH (by simp [srt_len]) j (by simp [srt_len]; exact hj)
      rw [Nat.zero_add, getD_bang _ _ (by rw [srt_len]; exact hj)] at q
      exact q)
    rw [srt_len] at q
    exact q
theorem sortI_none (p : Option Addr) (cap : Nat) (w : World) : Calls Try.prog 50 #[.slice p 0 cap] w fun e w' => e = .returned (.tuple #[]) ∧ w' = w := AnyM.slices_Sort_int_none sortI p cap w
set_option maxHeartbeats 2000000 in
set_option maxRecDepth 20000 in
/-- slices.Sorted of a row's values. -/
theorem sorted_any (Bs : Nat) (p : Option Addr) (n c : Nat) (f : Nat → Int) (w : World) (hb : Boxd w Bs p n c f) :
    Calls Try.prog 36 #[.func (.func 61) #[] #[.pointer (some ⟨Bs, 0, none⟩)]] w fun e w' => ∃ v, e = .returned v ∧ OwnI w.heap.size w' v (srt (lsI f n)) ∧ Old w w' := by
  have HCo := hid ((callsIn_wide (n := 4)).1 (collect_in 4 (by omega) Bs p n c f w hb))
  have hn := hb.few
  have hLn := lsI_len f n
  generalize lsI f n = L at *
  have HL := hid (show L.length ≤ 17592186044416 by omega)
  clear hb hLn hn
  go_enter Try.func36, Try.ntmps36
  go_upto_region 2 with (go_at_call 60; refine HCo.out.mono ?_; rintro e w1 ⟨v, rfl, o1, u1⟩; have O1 := hid o1; have U1 := hid u1; clear o1 u1)
  have hown := O1.out
  unfold OwnI at hown
  rcases hown.2 with ⟨rfl, hz⟩ | ⟨g, cap, cur, rfl, hb, _⟩
  · obtain rfl : L = [] := List.eq_nil_of_length_eq_zero hz
    go_wp2_with (go_at_call 50; refine (sortI_none _ _ _).mono ?_; rintro e w2 ⟨rfl, rfl⟩)
    go_ret
    exact ⟨_, rfl, by rw [show srt [] = [] by simp [srt]]; exact O1.out, U1.out⟩
  · have HS := hid (sortI_any HL.out O1.out)
    go_wp2_with (go_at_call 50; refine HS.out.mono ?_; rintro e w2 ⟨rfl, c2, o2⟩; have C2 := hid c2; have O2 := hid o2; clear c2 o2)
    go_ret
    exact ⟨_, rfl, O2.out, Below.trans U1.out (C2.out.below _ (by simp; exact hb) U1.out.size)⟩
end Go.Proofs.Ytcicefpcledmgaa
