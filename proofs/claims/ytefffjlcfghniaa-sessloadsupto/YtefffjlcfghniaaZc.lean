/- slices.Insert of one item into a row that the call owns; conditions: the lengths fit. -/
import Derived.Test.YtefffjlcfghniaaZb
namespace Go.Proofs.Ytefffjlcfghniaa
open Go.RowKit Go.Lib
set_option linter.unusedVariables false
set_option linter.unusedSimpArgs false
set_option maxRecDepth 20000
/-- What Insert leaves behind. -/
def InsPost (base : Nat) (v : Value) (L' : List It) (w : World) (e : Ending) (w' : World) : Prop := ∃ v', e = .returned v' ∧ Own base w' v' L' ∧ Chg v.ownBlock.toList w w' ∧ ∀ g, v'.ownBlock = some g → v.ownBlock = some g ∨ w.heap.size ≤ g
theorem item_cells {w : World} {vb : Nat} {x : It} (h : w.heap[vb]? = some (.cells (itc x).toArray 71 (0, 0))) (j : Nat) (u : Value) (hj : (itc x)[j]? = some u) : w.cell? ⟨vb, j, none⟩ = some u := by
  rw [cell_of_heap h]; simpa using hj
set_option maxHeartbeats 2000000 in
set_option maxRecDepth 20000 in
theorem ins_end_room (base g n cap vb : Nat) (cur : Array Value) (L : List It) (x : It) (w : World) (hr : RowIs w g n cap cur L) (hb : base ≤ g) (hroom : n + 1 ≤ cap) (hvb : w.heap[vb]? = some (.cells (itc x).toArray 71 (0, 0))) :
    Calls Try.prog 26 #[.slice (some ⟨g, 0, none⟩) n cap, .int .i64 (n : Nat), .slice (some ⟨vb, 0, none⟩) 1 1] w fun e w' => InsPost base (.slice (some ⟨g, 0, none⟩) n cap) (L ++ [x]) w e w' := by
  obtain ⟨hg, hn, hnc, hcm, hcs, htk⟩ := hr
  have hmx : cap ≤ 9223372036854775807 := by unfold maxLen at hcm; omega
  obtain ⟨i0, hi, hz0, hz1, hz2⟩ := info_parts infoIt
  have hsrc : Src Try.prog i0.size 61 (.slice (some ⟨vb, 0, none⟩) 1 1) 1 (itc x) w := by
    rw [hz1]
    exact Src.ofSlice w Try.underlying61 ⟨vb, 0, none⟩ 1 1 (itc x) rfl (fun j u hj => by rw [Addr.add_lit, Nat.zero_add]; exact item_cells hvb j u hj) (itc_one x)
  have hsp : ∀ j, j < (itc x).length → (w.cell? ⟨g, 0 + n * i0.size + j, none⟩).isSome = true := fun j hj => by
    rw [hz1, cell_of_heap hg, Array.getElem?_eq_getElem (by rw [itc_len] at hj; rw [hcs]; have : (n + 1) * 3 ≤ cap * 3 := Nat.mul_le_mul_right _ hroom; omega)]; rfl
  have hfz : ∀ j, j < (itc x).length → w.frozen? ⟨g, 0 + n * i0.size + j, none⟩ = false := fun j _ => frozen_of_heap hg _
  have HS := hid (And.intro hsrc (And.intro hsp hfz))
  have HI := hid hi
  have HE := hid (show InsPost base (.slice (some ⟨g, 0, none⟩) n cap) (L ++ [x]) w (.returned (.slice (some ⟨g, 0, none⟩) (n + 1) cap)) (w.setCells g (n * i0.size) (itc x)) from by
    have hfit : n * 3 + (itc x).length ≤ cur.size := by rw [itc_len, hcs]; have : (n + 1) * 3 ≤ cap * 3 := Nat.mul_le_mul_right _ hroom; omega
    rw [hz1, setCells_row hg hfit (itc_one x)]
    refine ⟨_, rfl, RowIs.own (cur := (cur.toList.take (n * 3) ++ itc x ++ cur.toList.drop (n * 3 + (itc x).length)).toArray) ⟨setRow_heap w g cur _ _ _ hg, by simp [hn], hroom, hcm, ?_, ?_⟩ hb, Chg.setRow w g _ _ (by simp [Value.ownBlock]), fun k hk => .inl hk⟩
    · have : (n + 1) * 3 ≤ cap * 3 := Nat.mul_le_mul_right _ hroom
      simp [itc_len, hcs]; omega
    · rw [htk, ← itcs_one1, itcs_app]
      have hl : (itcs (L ++ [x])).length = (n + 1) * 3 := by rw [itcs_len, hn]; simp
      simp [← hl])
  clear hsrc hsp hfz hi hg hcs htk hvb hn hz0 hz1 hz2 hcm
  go_enter Try.func26, Try.ntmps26
  go_wp2_with (at_builtin; refine wpList_append_room_src _ rfl _ _ 61 61 rfl 71 i0 Try.underlying61 HI.out g 0 n cap rfl _ rfl 1 (itc x) HS.out.1 hroom HS.out.2.1 HS.out.2.2 ?_)
  exact bodyPost_ret (v := .slice (some ⟨g, 0, none⟩) (n + 1) cap) (by simp [results, Try.results26, go_sem]) rfl HE.out
theorem alloc_heap (w : World) (o : Obj) (g : Nat) (hg : w.heap.size = g) : (w.alloc o).heap[g]? = some o := by
  subst hg; show (w.heap.push o)[w.heap.size]? = some o; rw [Array.getElem?_push, if_pos rfl]
theorem zeroCells_size (z : Array Value) (n : Nat) : (Builtin.zeroCells z n).size = n * z.size := by simp [Builtin.zeroCells]
set_option maxHeartbeats 2000000 in
set_option maxRecDepth 20000 in
theorem ins_end_grow (base n cap vb : Nat) (bo : Option Addr) (hbo : bo = none ∨ ∃ g, bo = some ⟨g, 0, none⟩) (L : List It) (x : It) (w : World) (hn : n = L.length) (hnc : n ≤ cap) (hno : cap < n + 1) (hbig : n ≤ 1000000) (hold : ∀ s, s = 3 → (Builtin.firstCells s n (.slice bo n cap)).run Try.prog w.drew = .ok (itcs L).toArray w.drew) (hvb : w.heap[vb]? = some (.cells (itc x).toArray 71 (0, 0))) (hbase : base ≤ w.heap.size) :
    Calls Try.prog 26 #[.slice bo n cap, .int .i64 (n : Nat), .slice (some ⟨vb, 0, none⟩) 1 1] w fun e w' => InsPost base (.slice bo n cap) (L ++ [x]) w e w' := by
  obtain ⟨i0, hi, hz0, hz1, hz2⟩ := info_parts infoIt
  have hsrc : Src Try.prog i0.size 61 (.slice (some ⟨vb, 0, none⟩) 1 1) 1 (itc x) w := by
    rw [hz1]
    exact Src.ofSlice w Try.underlying61 ⟨vb, 0, none⟩ 1 1 (itc x) rfl (fun j u hj => by rw [Addr.add_lit, Nat.zero_add]; exact item_cells hvb j u hj) (itc_one x)
  have HR := hid (fun ty => run_append_grow_src w 61 61 ty 71 i0 _ Try.underlying61 hi hz0 bo n cap (itcs L) (hold _ hz1) _ 1 (itc x) hsrc hno (by omega) (by rw [hz2]; exact growslice_fits hno (by omega)))
  have hG1 := grownCap_ge w (n + 1) cap 71
  have hG2 := grownCap_le_maxLen w (n + 1) cap 71 (by unfold maxLen; omega)
  generalize grownCap w (n + 1) cap 71 = G at *
  have HE := hid (show InsPost base (.slice bo n cap) (L ++ [x]) w (.returned (.slice (some ⟨w.heap.size, 0, none⟩) (n + 1) G)) ((w.alloc (.cells ((itcs L ++ itc x).toArray ++ Builtin.zeroCells #[.int .i64 0, .int .i64 0, .int .i64 0] (G - (n + 1))) 71)).drew) from by
    refine ⟨_, rfl, RowIs.own (cur := ((itcs L ++ itc x).toArray ++ Builtin.zeroCells #[.int .i64 0, .int .i64 0, .int .i64 0] (G - (n + 1)))) ⟨alloc_heap w _ _ rfl, by simp [hn], hG1, hG2, ?_, ?_⟩ hbase, Chg.ofOld ((Old.refl w).alloc _).drew, fun k hk => .inr (by simp [Value.ownBlock] at hk; omega)⟩
    · rw [Array.size_append, zeroCells_size]
      simp [itcs_len, itc_len, Value.cells, ← hn]
      omega
    · rw [← itcs_one1, itcs_app]
      have hl : (itcs (L ++ [x])).length = (n + 1) * 3 := by rw [itcs_len, hn]; simp
      simp [← hl])
  have hnm : n ≤ 9223372036854775807 := by omega
  clear hsrc hi hold hz0 hz1 hz2 hG1 hG2 hvb hn
  go_enter Try.func26, Try.ntmps26
  rcases hbo with rfl | ⟨g, rfl⟩
  all_goals go_wp2_with (at_builtin; refine Lib.wpList_append_run _ rfl _ _ _ _ rfl _ _ rfl rfl _ _ (HR.out _) ?_)
  all_goals exact bodyPost_ret (v := .slice (some ⟨w.heap.size, 0, none⟩) (n + 1) G) (by simp [results, Try.results26, go_sem]) rfl HE.out
theorem sizeIt (w : World) : (Go.sizeOf 71).run Try.prog w = .ok 3 w := by
  obtain ⟨i0, hi, hz0, hz1, hz2⟩ := info_parts infoIt
  simp [sizeOf, typeInfo, hi, hz1]
theorem shape_of_heap {w : World} {g : Nat} {cur : Array Value} {t : TypeId} (h : w.heap[g]? = some (.cells cur t (0, 0))) : w.shape? g = some (t, cur.size) := by
  simp [World.shape?, h]
theorem overlaps_run (w : World) (g vb o lb cb : Nat) (cur : Array Value) (x : It) (hg : w.heap[g]? = some (.cells cur 71 (0, 0))) (hs : cur.size ≠ 0) (hvb : w.heap[vb]? = some (.cells (itc x).toArray 71 (0, 0))) (hne : vb ≠ g) :
    (callFunc 48 #[.slice (some ⟨vb, 0, none⟩) 1 1, .slice (some ⟨g, o, none⟩) lb cb]).run Try.prog w = .ok (.value (.bool false)) w := by
  rw [run_callFunc_extern Try.func48 (by kernel_rfl) (by kernel_rfl) (by kernel_rfl) (e := Extern.SlicesOverlaps.overlaps #[61, 61] #[4]) (by kernel_rfl),
    Lib.run_overlaps_apart w 61 4 71 Try.underlying61 3 sizeIt ⟨vb, 0, none⟩ ⟨g, o, none⟩ 1 1 lb cb hne _ _ _ _ (shape_of_heap hvb) (shape_of_heap hg) hs (frozen_of_heap hvb _) (frozen_of_heap hvb _)]
  rfl
set_option maxHeartbeats 4000000 in
set_option maxRecDepth 100000 in
theorem ins_shift (base g n cap vb i : Nat) (cur : Array Value) (L : List It) (x : It) (w : World) (hr : RowIs w g n cap cur L) (hb : base ≤ g) (hi : i < n) (hroom : n + 1 ≤ cap) (hvb : w.heap[vb]? = some (.cells (itc x).toArray 71 (0, 0))) (hne : vb ≠ g) :
    Calls Try.prog 26 #[.slice (some ⟨g, 0, none⟩) n cap, .int .i64 (i : Nat), .slice (some ⟨vb, 0, none⟩) 1 1] w fun e w' => InsPost base (.slice (some ⟨g, 0, none⟩) n cap) (L.take i ++ x :: L.drop i) w e w' := by
  have hcells := hr.cells
  obtain ⟨hg, hn, hnc, hcm, hcs, htk⟩ := hr
  have hmx : cap ≤ 9223372036854775807 := by unfold maxLen at hcm; omega
  have hov := fun o lb cb => overlaps_run w g vb o lb cb cur x hg (by omega) hvb hne
  have hKr : (n + 1) * 3 ≤ cap * 3 := Nat.mul_le_mul_right _ hroom
  have hdl : (itcs (L.drop i)).length = (n - i) * 3 := by rw [itcs_len, List.length_drop, hn]
  have hKi : (i + 1) * 3 + (n - i) * 3 = (n + 1) * 3 := by rw [← Nat.add_mul]; congr 1; omega
  have hcp1 : ∀ ty dc sc, (Builtin.copy_ #[61, 61] ty #[.slice (some ⟨g, (i + 1) * 3, none⟩) (n - i) dc, .slice (some ⟨g, i * 3, none⟩) (n + 1 - i) sc]).run Try.prog w.drew = .ok (goInt ((n - i : Nat) : Int)) (w.drew.setCells g ((i + 1) * 3) (itcs (L.drop i))) := fun ty dc sc =>
    run_copy_K w.drew ty g ((i + 1) * 3) (n - i) dc ⟨g, i * 3, none⟩ (n + 1 - i) sc (n - i) (itcs (L.drop i)) (by simp only [Nat.min_def]; split <;> omega) hdl
      (fun j v hj => by rw [Addr.add_lit]; exact hcells.1 _ v (by rw [← itcs_drop, List.getElem?_drop] at hj; exact hj))
      (fun j hj => hcells.2.1 _ (by omega)) (fun j hj => hcells.2.2 _) (itcs_one _)
  have HG := hid hg
  obtain ⟨W1, hW1⟩ : ∃ W1, W1 = w.drew.setCells g ((i + 1) * 3) (itcs (L.drop i)) := ⟨_, rfl⟩
  have hf1 : (i + 1) * 3 + (itcs (L.drop i)).length ≤ cur.size := by rw [hdl, hcs, hKi]; exact hKr
  have hr1 := setCells_row (w := w.drew) (o := (i + 1) * 3) hg hf1 (itcs_one _)
  have hg1 : W1.heap[g]? = some (.cells (cur.toList.take ((i + 1) * 3) ++ itcs (L.drop i) ++ cur.toList.drop ((i + 1) * 3 + (itcs (L.drop i)).length)).toArray 71 (0, 0)) := by rw [hW1, hr1]; exact setRow_heap w.drew g cur _ _ _ hg
  have hvb1 : W1.heap[vb]? = some (.cells (itc x).toArray 71 (0, 0)) := by rw [hW1, hr1, setRow_other _ _ _ _ hne]; exact hvb
  have hs1 : i * 3 + 3 ≤ (cur.toList.take ((i + 1) * 3) ++ itcs (L.drop i) ++ cur.toList.drop ((i + 1) * 3 + (itcs (L.drop i)).length)).toArray.size := by
    simp [hdl, hcs, hKi]; omega
  have hcp2 : ∀ ty dc, (Builtin.copy_ #[61, 61] ty #[.slice (some ⟨g, i * 3, none⟩) (n + 1 - i) dc, .slice (some ⟨vb, 0, none⟩) 1 1]).run Try.prog W1 = .ok (goInt 1) (W1.setCells g (i * 3) (itc x)) := fun ty dc =>
    run_copy_K W1 ty g (i * 3) (n + 1 - i) dc ⟨vb, 0, none⟩ 1 1 1 (itc x) (by simp only [Nat.min_def]; split <;> omega) rfl
      (fun j v hj => by rw [Addr.add_lit, Nat.zero_add]; exact item_cells hvb1 j v hj)
      (fun j hj => by rw [cell_of_heap hg1, Array.getElem?_eq_getElem (by rw [itc_len] at hj; omega)]; rfl) (fun j hj => frozen_of_heap hg1 _) (itc_one x)
  have HE := hid (show InsPost base (.slice (some ⟨g, 0, none⟩) n cap) (L.take i ++ x :: L.drop i) w (.returned (.slice (some ⟨g, 0, none⟩) (n + 1) cap)) (W1.setCells g (i * 3) (itc x)) from by
    rw [setCells_row hg1 (by rw [itc_len]; exact hs1) (itc_one x), hW1, hr1, setRow_setRow]
    rw [List.toList_toArray, show (i + 1) * 3 = i * 3 + 3 by omega, ins_lists cur.toList (itcs (L.drop i)) (itc x) (i * 3) 3 (by simp [hcs]; omega) rfl]
    have hti : cur.toList.take (i * 3) = itcs (L.take i) := by rw [← itcs_take, ← htk, List.take_take, show min (i * 3) (n * 3) = i * 3 by omega]
    rw [hti]
    refine ⟨_, rfl, RowIs.own ⟨setRow_heap w.drew g cur _ _ _ hg, ?_, hroom, hcm, ?_, ?_⟩ hb, Chg.trans (Chg.refl _ w).drew (Chg.setRow w.drew g _ _ (by simp [Value.ownBlock])), fun k hk => .inl hk⟩
    · simp; omega
    · simp [itcs_len, itc_len, hcs]; omega
    · have hl : (itcs (L.take i) ++ itc x ++ itcs (L.drop i)).length = (n + 1) * 3 := by simp [itcs_len, itc_len]; omega
      rw [List.toList_toArray, ← hl, List.take_left']
      · rw [← itcs_app, itcs_cons, List.append_assoc]
      · rfl)
  rw [← hW1] at hcp1
  have l1 : (i : Int) < (n : Int) := by omega
  have l2 : (n : Int) + 1 ≤ (cap : Int) := by omega
  have l3 : ¬ ((i : Int) = (n : Int)) := by omega
  have l4 : i ≤ n := by omega
  have hb4 : ¬ (cap = i) := by omega
  have hb5 : ¬ (cap = i + 1) := by omega
  have hw1 : IntKind.i64.wrap ((i : Int) + 1) = (i : Int) + 1 := by rw [IntKind.wrap_i64]; omega
  have hb1 : (0 : Int) ≤ (i : Int) + 1 := by omega
  have htn : ((i : Int) + 1).toNat = i + 1 := by omega
  have hb3 : (i : Int) ≤ (n : Int) + 1 := by omega
  have hb6 : (i : Int) + 1 ≤ (n : Int) + 1 := by omega
  have mixed : Try.prog.follows Departure.mixedOrders = true := by kernel_rfl
  have HW1 := hid hW1
  clear hcells hg hn hcs htk hKr hdl hKi hf1 hr1 hg1 hvb1 hs1 hW1 hvb hcm HG
  go_enter Try.func26, Try.ntmps26
  go_wp2_with (simp only [hov])
  go_region_law_o (refine step_copy_runI rfl _ _ 61 61 rfl _ _ (by simp [Act.eval, Act.put]) (by simp [Act.eval, Act.put]) (hcp1 _ _ _) ?_)
  go_wp2_with (at_builtin; refine wpList_copy_runI _ rfl _ _ 61 61 rfl _ _ rfl rfl (hcp2 _ _) ?_)
  exact bodyPost_ret (v := .slice (some ⟨g, 0, none⟩) (n + 1) cap) (by simp [results, Try.results26, go_sem]) rfl HE.out
set_option maxHeartbeats 4000000 in
set_option maxRecDepth 100000 in
theorem ins_grow (base g n cap vb i : Nat) (cur : Array Value) (L : List It) (x : It) (w : World) (hr : RowIs w g n cap cur L) (hi : i < n) (hno : cap < n + 1) (hbig : n ≤ 1000000) (hvb : w.heap[vb]? = some (.cells (itc x).toArray 71 (0, 0))) (hbase : base ≤ w.heap.size) :
    Calls Try.prog 26 #[.slice (some ⟨g, 0, none⟩) n cap, .int .i64 (i : Nat), .slice (some ⟨vb, 0, none⟩) 1 1] w fun e w' => InsPost base (.slice (some ⟨g, 0, none⟩) n cap) (L.take i ++ x :: L.drop i) w e w' := by
  have hcells := hr.cells
  obtain ⟨hg, hn, hnc, hcm, hcs, htk⟩ := hr
  have hgl := heap_lt hg
  have hvl := heap_lt hvb
  obtain ⟨i0, hi0, hz0, hz1, hz2⟩ := info_parts infoIt
  have hdl : (itcs (L.drop i)).length = (n - i) * 3 := by rw [itcs_len, List.length_drop, hn]
  have htl : (itcs (L.take i)).length = i * 3 := by rw [itcs_len, List.length_take]; congr 1; omega
  have hkk : (n : Int) + 1 - (i : Int) = ((n + 1 - i : Nat) : Int) := by omega
  have hik : i + (n + 1 - i) = n + 1 := by omega
  have hold : (Builtin.firstCells i0.size i (.slice (some ⟨g, 0, none⟩) i cap)).run Try.prog w.drew = .ok (itcs (L.take i)).toArray w.drew := by
    rw [hz1]
    exact run_firstCells_some w.drew 3 i ⟨g, 0, none⟩ i cap (itcs (L.take i)) htl (fun j v hj => by
      rw [Addr.add_lit, Nat.zero_add]
      refine hcells.1 j v ?_
      rw [← itcs_take, List.getElem?_take] at hj
      split at hj
      · exact hj
      · cases hj)
  have hrz : ∀ ty, (Builtin.append_ #[61, 3] ty #[.slice (some ⟨g, 0, none⟩) i cap, .int .i64 ((n : Int) + 1 - (i : Int))]).run Try.prog w =
      .ok (.slice (some ⟨w.heap.size, 0, none⟩) (n + 1) (grownCap w (n + 1) cap 71)) (w.drew.alloc (.cells ((itcs (L.take i)).toArray ++ Builtin.zeroCells (Value.agg #[.int .i64 0, .int .i64 0, .int .i64 0]).cells (n + 1 - i) ++ Builtin.zeroCells (Value.agg #[.int .i64 0, .int .i64 0, .int .i64 0]).cells (grownCap w (n + 1) cap 71 - (n + 1))) 71)) := fun ty => by
    have h := Lib.run_append_grow_zeros w 61 3 ty 71 i0 _ .i64 .i64 Try.underlying61 Try.underlying3 hi0 hz0 (some ⟨g, 0, none⟩) i cap (itcs (L.take i)) hold (n + 1 - i) (by omega) (by omega) (by omega) (by omega) (by rw [hz2]; omega) (by rw [hz2, hik]; exact growslice_fits hno (by omega))
    rw [hik] at h
    rw [hkk]
    exact h
  have hG1 := grownCap_ge w (n + 1) cap 71
  have hG2 := grownCap_le_maxLen w (n + 1) cap 71 (by unfold maxLen; omega)
  generalize grownCap w (n + 1) cap 71 = G at *
  have hG63 : G ≤ 9223372036854775807 := by unfold maxLen at hG2; omega
  obtain ⟨ROW, hROW⟩ : ∃ ROW : Array Value, ROW = (itcs (L.take i)).toArray ++ Builtin.zeroCells (Value.agg #[.int .i64 0, .int .i64 0, .int .i64 0]).cells (n + 1 - i) ++ Builtin.zeroCells (Value.agg #[.int .i64 0, .int .i64 0, .int .i64 0]).cells (G - (n + 1)) := ⟨_, rfl⟩
  rw [← hROW] at hrz
  have hRs : ROW.size = G * 3 := by
    rw [hROW, Array.size_append, Array.size_append, zeroCells_size, zeroCells_size]
    simp [htl, Value.cells]
    omega
  have hGK : (n + 1) * 3 ≤ G * 3 := Nat.mul_le_mul_right _ hG1
  have hKi : (i + 1) * 3 + (n - i) * 3 = (n + 1) * 3 := by rw [← Nat.add_mul]; congr 1; omega
  have hRt : ROW.toList.take (i * 3) = itcs (L.take i) := by rw [hROW]; simp [← htl]
  obtain ⟨WA, hWA⟩ : ∃ WA, WA = (w.alloc (.cells ROW 71)).drew := ⟨_, rfl⟩
  have hgA : WA.heap[w.heap.size]? = some (.cells ROW 71 (0, 0)) := by rw [hWA]; exact alloc_heap w _ _ rfl
  have hOA : Old w WA := by rw [hWA]; exact ((Old.refl w).alloc _).drew
  have hcpA : ∀ ty dc, (Builtin.copy_ #[61, 61] ty #[.slice (some ⟨w.heap.size, i * 3, none⟩) (n + 1 - i) dc, .slice (some ⟨vb, 0, none⟩) 1 1]).run Try.prog WA = .ok (goInt 1) (WA.setCells w.heap.size (i * 3) (itc x)) := fun ty dc =>
    run_copy_K WA ty w.heap.size (i * 3) (n + 1 - i) dc ⟨vb, 0, none⟩ 1 1 1 (itc x) (by simp only [Nat.min_def]; split <;> omega) rfl
      (fun j v hj => by rw [Addr.add_lit, Nat.zero_add]; exact hOA.keep (item_cells hvb j v hj))
      (fun j hj => by rw [cell_of_heap hgA, Array.getElem?_eq_getElem (by rw [itc_len] at hj; omega)]; rfl) (fun j hj => frozen_of_heap hgA _) (itc_one x)
  have hrB := setCells_row (o := i * 3) hgA (by rw [itc_len]; omega) (itc_one x)
  obtain ⟨WB, hWB⟩ : ∃ WB, WB = WA.setCells w.heap.size (i * 3) (itc x) := ⟨_, rfl⟩
  have hgB : WB.heap[w.heap.size]? = some (.cells (ROW.toList.take (i * 3) ++ itc x ++ ROW.toList.drop (i * 3 + (itc x).length)).toArray 71 (0, 0)) := by rw [hWB, hrB]; exact setRow_heap WA _ ROW _ _ _ hgA
  have hgBg : WB.heap[g]? = some (.cells cur 71 (0, 0)) := by rw [hWB, hrB, setRow_other _ _ _ _ (by omega)]; exact hOA.block hg
  have hBs : (ROW.toList.take (i * 3) ++ itc x ++ ROW.toList.drop (i * 3 + (itc x).length)).toArray.size = G * 3 := by simp [hRs, itc_len]; omega
  have hcpB : ∀ ty dc sc, (Builtin.copy_ #[61, 61] ty #[.slice (some ⟨w.heap.size, (i + 1) * 3, none⟩) (n - i) dc, .slice (some ⟨g, i * 3, none⟩) (n - i) sc]).run Try.prog WB.drew = .ok (goInt ((n - i : Nat) : Int)) (WB.drew.setCells w.heap.size ((i + 1) * 3) (itcs (L.drop i))) := fun ty dc sc =>
    run_copy_K WB.drew ty w.heap.size ((i + 1) * 3) (n - i) dc ⟨g, i * 3, none⟩ (n - i) sc (n - i) (itcs (L.drop i)) (by simp [Nat.min_def]) hdl
      (fun j v hj => by
        rw [Addr.add_lit]
        show WB.cell? _ = _
        rw [cell_of_heap hgBg, ← cell_of_heap hg]
        exact hcells.1 _ v (by rw [← itcs_drop, List.getElem?_drop] at hj; exact hj))
      (fun j hj => by show (WB.cell? _).isSome = true; rw [cell_of_heap hgB, Array.getElem?_eq_getElem (by omega)]; rfl) (fun j hj => by show WB.frozen? _ = _; exact frozen_of_heap hgB _) (itcs_one _)
  have HE := hid (show InsPost base (.slice (some ⟨g, 0, none⟩) n cap) (L.take i ++ x :: L.drop i) w (.returned (.slice (some ⟨w.heap.size, 0, none⟩) (n + 1) G)) (WB.drew.setCells w.heap.size ((i + 1) * 3) (itcs (L.drop i))) from by
    have hgB' : WB.drew.heap[w.heap.size]? = some (.cells (ROW.toList.take (i * 3) ++ itc x ++ ROW.toList.drop (i * 3 + (itc x).length)).toArray 71 (0, 0)) := hgB
    rw [setCells_row hgB' (by omega) (itcs_one _)]
    have hOB : Old w WB := by rw [hWB, hrB]; exact hOA.below ((Chg.setRow WA w.heap.size _ [w.heap.size] (by simp)).below _ (by simp) hOA.size)
    refine ⟨_, rfl, RowIs.own ⟨setRow_heap WB.drew _ _ _ _ _ hgB', ?_, hG1, hG2, ?_, ?_⟩ hbase, Chg.ofOld (hOB.drew.below ((Chg.setRow WB.drew w.heap.size _ [w.heap.size] (by simp)).below _ (by simp) hOB.size)), fun k hk => .inr (by simp [Value.ownBlock] at hk; omega)⟩
    · simp; omega
    · simp [hdl, hRs, itc_len]; omega
    · rw [List.toList_toArray, List.toList_toArray, hRt]
      have e1 : (itcs (L.take i) ++ itc x ++ ROW.toList.drop (i * 3 + (itc x).length)).take ((i + 1) * 3) = itcs (L.take i) ++ itc x := by
        have hl : (itcs (L.take i) ++ itc x).length = (i + 1) * 3 := by simp [htl, itc_len]; omega
        rw [← hl, List.take_left']
        rfl
      rw [e1]
      have hl : (itcs (L.take i) ++ itc x ++ itcs (L.drop i)).length = (n + 1) * 3 := by simp [htl, hdl, itc_len]; omega
      rw [← hl, List.take_left' rfl, ← itcs_app, itcs_cons, List.append_assoc])
  have hrz' : ∀ ty, (Builtin.append_ #[61, 3] ty #[.slice (some ⟨g, 0, none⟩) i cap, .int .i64 ((n : Int) + 1 - (i : Int))]).run Try.prog w = .ok (.slice (some ⟨w.heap.size, 0, none⟩) (n + 1) G) WA := fun ty => by rw [hWA]; exact hrz ty
  rw [← hWB] at hcpA
  have l1 : (i : Int) < (n : Int) := by omega
  have l3 : ¬ ((i : Int) = (n : Int)) := by omega
  have l4 : i ≤ n := by omega
  have l5 : (cap : Int) < (n : Int) + 1 := by omega
  have hb3 : (i : Int) ≤ (n : Int) := by omega
  have hb8 : (i : Int) ≤ (n : Int) + 1 := by omega
  have hci : ¬ (cap = i) := by omega
  have hGi : ¬ (G = i) := by omega
  have hGim : ¬ (G = i + 1) := by omega
  have hw1 : IntKind.i64.wrap ((i : Int) + 1) = (i : Int) + 1 := by rw [IntKind.wrap_i64]; omega
  have hb1 : (0 : Int) ≤ (i : Int) + 1 := by omega
  have htn : ((i : Int) + 1).toNat = i + 1 := by omega
  have hb6 : (i : Int) + 1 ≤ (n : Int) + 1 := by omega
  have mixed : Try.prog.follows Departure.mixedOrders = true := by kernel_rfl
  clear hcells hg hn hcs htk hcm hdl htl hkk hik hold hrz hG2 hROW hRs hGK hKi hRt hWA hgA hOA hrB hWB hgB hgBg hBs hz0 hz1 hz2 hi0 hvb
  go_enter Try.func26, Try.ntmps26
  go_wp2_with (first
    | (at_builtin; refine Lib.wpList_append_run _ rfl _ _ _ _ rfl _ _ rfl rfl _ _ (hrz' _) ?_)
    | (at_builtin; refine wpList_copy_runI _ rfl _ _ 61 61 rfl _ _ rfl rfl (hcpA _ _) ?_))
  go_region_law_o (refine step_copy_runI rfl _ _ 61 61 rfl (.slice (some ⟨w.heap.size, (i + 1) * 3, none⟩) (n - i) (G - (i + 1))) (.slice (some ⟨g, i * 3, none⟩) (n - i) (cap - i)) (by simp [Act.eval, Act.put]) (by simp [Act.eval, Act.put]) (hcpB 3 (G - (i + 1)) (cap - i)) ?_)
  go_wp2
  exact bodyPost_ret (v := .slice (some ⟨w.heap.size, 0, none⟩) (n + 1) G) (by simp [results, Try.results26, go_sem]) rfl HE.out
/-- Insert of one item at a place of a row that is owned. -/
theorem insert_any (base : Nat) (v : Value) (L : List It) (i : Nat) (x : It) (vb : Nat) (w : World) (hbig : L.length ≤ 1000000) (hi : i ≤ L.length) (hown : Own base w v L) (hvb : w.heap[vb]? = some (.cells (itc x).toArray 71 (0, 0))) (hne : v.ownBlock ≠ some vb) (hbase : base ≤ w.heap.size) :
    Calls Try.prog 26 #[v, .int .i64 (i : Nat), .slice (some ⟨vb, 0, none⟩) 1 1] w fun e w' => InsPost base v (L.take i ++ x :: L.drop i) w e w' := by
  rcases hown.2 with ⟨rfl, hn⟩ | ⟨g, cap, cur, rfl, hb, hg, hnc, hcm, hcs, htk⟩
  · obtain rfl : L = [] := List.length_eq_zero_iff.1 hn
    obtain rfl : i = 0 := by simpa using hi
    exact ins_end_grow base 0 0 vb none (.inl rfl) [] x w rfl (Nat.le_refl _) (by omega) (by omega) (fun s hs => by subst hs; exact run_firstCells_none w.drew 3 0 0 0) hvb hbase
  · have hr : RowIs w g L.length cap cur L := ⟨hg, rfl, hnc, hcm, hcs, htk⟩
    by_cases he : i = L.length
    · subst he
      rw [List.take_length, List.drop_length]
      by_cases hroom : L.length + 1 ≤ cap
      · exact ins_end_room base g L.length cap vb cur L x w hr hb hroom hvb
      · exact ins_end_grow base L.length cap vb (some ⟨g, 0, none⟩) (.inr ⟨g, rfl⟩) L x w rfl hnc (by omega) hbig (fun s hs => by
          subst hs
          exact run_firstCells_some w.drew 3 L.length ⟨g, 0, none⟩ L.length cap (itcs L) (itcs_len L) (fun j v hj => by rw [Addr.add_lit, Nat.zero_add]; exact hr.cells.1 j v hj)) hvb hbase
    · by_cases hroom : L.length + 1 ≤ cap
      · exact ins_shift base g L.length cap vb i cur L x w hr hb (by omega) hroom hvb (fun e => hne (by rw [e]; rfl))
      · exact ins_grow base g L.length cap vb i cur L x w hr (by omega) (by omega) hbig hvb hbase
end Go.Proofs.Ytefffjlcfghniaa
