/- Rows of items that the call owns; slices.Insert of one item; conditions: the lengths fit. -/
import Derived.Test.YtgeinnaljlajoaaGreatCxD
import Derived.Lib.Overlaps
import Derived.Lib.AppendZerosOnto
import Derived.Lib.JoinLaws
import Derived.Lib.SliceRun
import Derived.Laws.Externs
import Derived.Laws.IdiomCopy
import Derived.Shelf.RegionOpenPlain
import Derived.Laws.NewBlocks
import Derived.Deep.DeepCutAuto
import Derived.Test.YtgeinnaljlajoaaGreatCxB
import Derived.Deep.MidRow
namespace Go.Proofs.YtgeinnaljlajoaaGreat.Vx
set_option linter.unusedSimpArgs false
open Go.RowKit Go.Lib
set_option linter.unusedVariables false
structure It where
 k : Nat
 n : Int
def itc (x : It) : List Value := [.float .f64 x.k, .int .i64 x.n]
def itcs (L : List It) : List Value := L.flatMap itc
theorem flat_len {α : Type} (c : α → List Value) (k : Nat) (hk : ∀ x, (c x).length = k) : ∀ L : List α, (L.flatMap c).length = L.length * k
 | [] => by simp
 | x :: t => by rw [List.flatMap_cons, List.length_append, hk, flat_len c k hk t, List.length_cons, Nat.add_mul]; omega
theorem flat_get {α : Type} (c : α → List Value) (k : Nat) (hk : ∀ x, (c x).length = k) : ∀ (L : List α) (i j : Nat) (hi : i < L.length), j < k → (L.flatMap c)[i * k + j]? = (c L[i])[j]?
 | [], i, _, hi, _ => by simp at hi
 | x :: t, 0, j, _, hj => by
  rw [List.flatMap_cons, List.getElem?_append_left (by rw [hk]; omega)]; simp
 | x :: t, i + 1, j, hi, hj => by
  rw [List.flatMap_cons, List.getElem?_append_right (by rw [hk, Nat.add_mul]; omega), hk]
  rw [show (i + 1) * k + j - k = i * k + j by rw [Nat.add_mul]; omega]
  rw [flat_get c k hk t i j (by simpa using hi) hj]
  simp
theorem flat_take {α : Type} (c : α → List Value) (k : Nat) (hk : ∀ x, (c x).length = k) : ∀ (L : List α) (i : Nat), (L.flatMap c).take (i * k) = (L.take i).flatMap c
 | [], i => by simp
 | x :: t, 0 => by simp
 | x :: t, i + 1 => by
  rw [List.flatMap_cons, List.take_succ_cons, List.flatMap_cons, ← flat_take c k hk t i, List.take_append, hk, List.take_of_length_le (by rw [hk, Nat.add_mul]; omega), show (i + 1) * k - k = i * k by rw [Nat.add_mul]; omega]
theorem flat_drop {α : Type} (c : α → List Value) (k : Nat) (hk : ∀ x, (c x).length = k) : ∀ (L : List α) (i : Nat), (L.flatMap c).drop (i * k) = (L.drop i).flatMap c
 | [], i => by simp
 | x :: t, 0 => by simp
 | x :: t, i + 1 => by
  rw [List.flatMap_cons, List.drop_succ_cons, ← flat_drop c k hk t i, List.drop_append, hk, List.drop_eq_nil_of_le (by rw [hk, Nat.add_mul]; omega), show (i + 1) * k - k = i * k by rw [Nat.add_mul]; omega, List.nil_append]
theorem itc_len (x : It) : (itc x).length = 2 := rfl
theorem itcs_len (L : List It) : (itcs L).length = L.length * 2 := flat_len itc 2 itc_len L
theorem itcs_app (L M : List It) : itcs L ++ itcs M = itcs (L ++ M) := by simp [itcs]
theorem itcs_cons (x : It) (L : List It) : itcs (x :: L) = itc x ++ itcs L := by simp [itcs]
theorem itcs_one1 (x : It) : itcs [x] = itc x := by simp [itcs]
theorem itcs_take (L : List It) (i : Nat) : (itcs L).take (i * 2) = itcs (L.take i) := flat_take itc 2 itc_len L i
theorem itcs_drop (L : List It) (i : Nat) : (itcs L).drop (i * 2) = itcs (L.drop i) := flat_drop itc 2 itc_len L i
theorem itc_one (x : It) : ∀ u ∈ itc x, u.oneCell' = true := by
 intro u h
 simp [itc] at h
 rcases h with rfl | rfl <;> rfl
theorem itcs_one (L : List It) : ∀ u ∈ itcs L, u.oneCell' = true := by
 intro u hu
 obtain ⟨s, _, h⟩ := List.mem_flatMap.1 hu
 exact itc_one s u h
theorem infoIt : (Tryz.prog.info? 152).map (fun i => (i.zero, i.size, i.bytes)) = some (some (.agg #[.float .f64 0, .int .i64 0]), 2, 16) := by kernel_rfl
def Own (base : Nat) (w : World) (v : Value) (L : List It) : Prop := w.ownsRow base 152 2 v L.length (itcs L)
theorem Own.old {base : Nat} {w w' : World} {v : Value} {L : List It} (h : Own base w v L) (u : Old w w') : Own base w' v L := by
 refine ⟨h.1, ?_⟩
 rcases h.2 with e | ⟨g, cap, cur, e, hb', hg, r⟩
 ·exact .inl e
 ·exact .inr ⟨g, cap, cur, e, hb', u.block hg, r⟩
theorem Own.chg {base : Nat} {S : List Nat} {w w' : World} {v : Value} {L : List It} (h : Own base w v L) (u : Chg S w w') (hn : ∀ g, v.ownBlock = some g → g ∉ S) : Own base w' v L := by
 refine ⟨h.1, ?_⟩
 rcases h.2 with e | ⟨g, cap, cur, rfl, hb', hg, r⟩
 ·exact .inl e
 ·exact .inr ⟨g, cap, cur, rfl, hb', u.heapAt hg (hn g rfl), r⟩
theorem Own.lt {base : Nat} {w : World} {v : Value} {L : List It} (h : Own base w v L) (g : Nat) (hg : v.ownBlock = some g) : base ≤ g ∧ g < w.heap.size := World.ownsRow.lt h g hg
theorem Own.nil (base : Nat) (w : World) : Own base w (.slice none 0 0) [] := World.ownsRow_nil w base _ 2
theorem Own.len {base : Nat} {w : World} {v : Value} {L : List It} (h : Own base w v L) : ∃ a c, v = .slice a L.length c := by
 rcases h.2 with ⟨rfl, e⟩ | ⟨g, cap, cur, rfl, _⟩
 ·exact ⟨none, 0, by rw [e]⟩
 ·exact ⟨_, _, rfl⟩
def RowIs (w : World) (g n cap : Nat) (cur : Array Value) (L : List It) : Prop := w.heap[g]? = some (.cells cur 152 (0, 0)) ∧ n = L.length ∧ n ≤ cap ∧ cap ≤ maxLen ∧ cur.size = cap * 2 ∧ cur.toList.take (n * 2) = itcs L
theorem RowIs.own {w : World} {base g n cap : Nat} {cur : Array Value} {L : List It} (h : RowIs w g n cap cur L) (hb : base ≤ g) : Own base w (.slice (some ⟨g, 0, none⟩) n cap) L := by
 obtain ⟨h1, rfl, h3, h4, h5, h6⟩ := h
 exact ⟨itcs_len L, .inr ⟨g, cap, cur, rfl, hb, h1, h3, h4, h5, h6⟩⟩
theorem cell_of_heap {w : World} {g : Nat} {cur : Array Value} {t : TypeId} (h : w.heap[g]? = some (.cells cur t (0, 0))) (j : Nat) : w.cell? ⟨g, j, none⟩ = cur[j]? := by
 simp [World.cell?, h]
theorem frozen_of_heap {w : World} {g : Nat} {cur : Array Value} {t : TypeId} (h : w.heap[g]? = some (.cells cur t (0, 0))) (j : Nat) : w.frozen? ⟨g, j, none⟩ = false := by
 simp [World.frozen?, h]
theorem RowIs.cells {w : World} {g n cap : Nat} {cur : Array Value} {L : List It} (h : RowIs w g n cap cur L) : (∀ j u, (itcs L)[j]? = some u → w.cell? ⟨g, j, none⟩ = some u) ∧ (∀ j, j < cap * 2 → (w.cell? ⟨g, j, none⟩).isSome = true) ∧ ∀ j, w.frozen? ⟨g, j, none⟩ = false := by
 obtain ⟨h1, rfl, h3, h4, h5, h6⟩ := h
 refine ⟨fun j u hj => ?_, fun j hj => ?_, fun j => frozen_of_heap h1 j⟩
 ·rw [cell_of_heap h1]
  have hl : j < L.length * 2 := by rw [← itcs_len L]; exact (List.getElem?_eq_some_iff.1 hj).1
  rw [← h6, List.getElem?_take, if_pos hl] at hj
  rw [← Array.getElem?_toList]; exact hj
 ·rw [cell_of_heap h1, Array.getElem?_eq_getElem (by omega)]; rfl
theorem setCells_row {w : World} {g o : Nat} {cur : Array Value} {t : TypeId} {vs : List Value} (hg : w.heap[g]? = some (.cells cur t (0, 0))) (hf : o + vs.length ≤ cur.size) (h1 : ∀ v ∈ vs, v.oneCell' = true) : w.setCells g o vs = w.setRow g (cur.toList.take o ++ vs ++ cur.toList.drop (o + vs.length)).toArray := by
 have a := run_storeCells_cells (P := Tryz.prog) g o vs 0 w (fun j hj => by rw [cell_of_heap hg, Array.getElem?_eq_getElem (by omega)]; rfl) (fun j hj => frozen_of_heap hg _) h1
 have b := run_storeCells_at (P := Tryz.prog) g o t vs 0 cur w hg (by omega) h1
 rw [a] at b
 simp only [Result.ok.injEq, true_and, Nat.add_zero] at b
 exact b
theorem wp_copy_runI (w : World) {o : Oper} {a : Act} {K : Act → World → Prop} {Q : Exit → Act → World → Prop} (d s : Operand) (t t' : TypeId)
    (ho : o.op = .call { callee := .builtin .copy, args := #[d, s], argTypes := #[t, t'] }) (v u : Value) (hd : a.eval d = v) (hs : a.eval s = u) {v' : Value} {w' : World}
    (hr : (Builtin.copy_ #[t, t'] o.type #[v, u]).run Tryz.prog w = .ok v' w') (h : K (a.put o.dst v') w') : o.wp Tryz.prog a w K Q := by
 unfold Oper.wp execOp
 simp only [ho, resolve, invoke, builtin, Sem.run_bind, Sem.run_pure, Result.andThen_ok, List.map_toArray, List.map_cons, List.map_nil, hd, hs, hr]
 exact h
theorem wpList_copy_runI (w : World) {ops : Array Oper} {rest : List Oper} {o : Oper} {a : Act} {Q : Exit → Act → World → Prop} (hgd : o.guard = none) (d s : Operand) (t t' : TypeId)
    (ho : o.op = .call { callee := .builtin .copy, args := #[d, s], argTypes := #[t, t'] }) (v u : Value) (hd : a.eval d = v) (hs : a.eval s = u) {v' : Value} {w' : World}
    (hr : (Builtin.copy_ #[t, t'] o.type #[v, u]).run Tryz.prog w = .ok v' w') (h : wpList Tryz.prog ops Q rest (a.put o.dst v') w') : wpList Tryz.prog ops Q (o :: rest) a w :=
 wpList_plain hgd fun _ hK => wp_copy_runI w d s t t' ho v u hd hs hr (hK _ _ h)
theorem step_copy_runI {ops : Array Oper} {o : Oper} {a : Act} {w : World} {K : Act → World → Prop} {Q : Exit → Act → World → Prop} {E : Prop}
    (hg : o.guard = none) (d x : Operand) (dT sT : TypeId) (hop : o.op = Op.call { callee := Callee.builtin Builtin.copy, args := #[d, x], argTypes := #[dT, sT] })
    (v u : Value) (hd : a.eval d = v) (hx : a.eval x = u) {v' : Value} {w' : World} (hr : (Builtin.copy_ #[dT, sT] o.type #[v, u]).run Tryz.prog w = .ok v' w') (hK : K (a.put o.dst v') w') :
    if Region.wanted o (yielded ops a.tmps) = true then Oper.wp Tryz.prog o a w K Q else E := by
 have hw : Region.wanted o (yielded ops a.tmps) = true := by simp [Region.wanted, hg]
 rw [if_pos hw]
 unfold Oper.wp
 simp [execOp, hop, resolve, invoke, builtin, hd, hx, hr, Result.andThen]
 exact hK
theorem run_copy_K (w : World) (ty : TypeId) (b o dLen dCap : Nat) (a : Addr) (sLen sCap q : Nat) (cs : List Value) (hq : q = Nat.min sLen dLen) (hn : cs.length = q * 2)
    (hsrc : ∀ j v, cs[j]? = some v → w.cell? (a.add j) = some v) (hc : ∀ j, j < cs.length → (w.cell? ⟨b, o + j, none⟩).isSome = true) (hf : ∀ j, j < cs.length → w.frozen? ⟨b, o + j, none⟩ = false) (h1 : ∀ v ∈ cs, v.oneCell' = true) :
    (Builtin.copy_ #[121, 121] ty #[.slice (some ⟨b, o, none⟩) dLen dCap, .slice (some a) sLen sCap]).run Tryz.prog w = .ok (goInt q) (w.setCells b o cs) := by
 have hl := run_loadCells_list (P := Tryz.prog) w a cs hsrc
 have hst := run_storeCells_cells (P := Tryz.prog) b o cs 0 w (by simpa using hc) (by simpa using hf) h1
 obtain ⟨i0, hi, hz0, hz1, hz2⟩ := info_parts infoIt
 rw [hn] at hl
 simp [Builtin.copy_, run_underlying Tryz.underlying121, Builtin.lenOf, Builtin.firstCells, sizeOf, typeInfo, hi, hz1, ← hq, hl, hst]
theorem ins_lists (A M X : List Value) (i m : Nat) (hi : i + m ≤ A.length) (hX : X.length = m) :
    (A.take (i + m) ++ M ++ A.drop (i + m + M.length)).take i ++ X ++ (A.take (i + m) ++ M ++ A.drop (i + m + M.length)).drop (i + X.length) = A.take i ++ X ++ M ++ A.drop (i + m + M.length) := by
 have hl : (A.take (i + m)).length = i + m := by rw [List.length_take]; omega
 rw [hX, List.append_assoc (A.take (i + m)), List.take_append, hl, show i - (i + m) = 0 by omega, List.take_zero, List.append_nil, List.take_take, show min i (i + m) = i by omega, List.drop_append, hl, Nat.sub_self, List.drop_zero, List.drop_eq_nil_of_le (by omega), List.nil_append]
 simp only [List.append_assoc]
end Go.Proofs.YtgeinnaljlajoaaGreat.Vx
namespace Go.Proofs.YtgeinnaljlajoaaGreat.Vx
open Go.RowKit Go.Lib
set_option linter.unusedVariables false
set_option linter.unusedSimpArgs false
set_option maxRecDepth 20000
def InsPost (base : Nat) (v : Value) (L' : List It) (w : World) (e : Ending) (w' : World) : Prop := ∃ v', e = .returned v' ∧ Own base w' v' L' ∧ Chg v.ownBlock.toList w w' ∧ ∀ g, v'.ownBlock = some g → v.ownBlock = some g ∨ w.heap.size ≤ g
theorem item_cells {w : World} {vb : Nat} {x : It} (h : w.heap[vb]? = some (.cells (itc x).toArray 152 (0, 0))) (j : Nat) (u : Value) (hj : (itc x)[j]? = some u) : w.cell? ⟨vb, j, none⟩ = some u := by
 rw [cell_of_heap h]; simpa using hj
set_option maxHeartbeats 2000000 in
theorem ins_end_room (base g n cap vb : Nat) (cur : Array Value) (L : List It) (x : It) (w : World) (hr : RowIs w g n cap cur L) (hb : base ≤ g) (hroom : n + 1 ≤ cap) (hvb : w.heap[vb]? = some (.cells (itc x).toArray 152 (0, 0))) :
    Calls Tryz.prog 116 #[.slice (some ⟨g, 0, none⟩) n cap, .int .i64 (n : Nat), .slice (some ⟨vb, 0, none⟩) 1 1] w fun e w' => InsPost base (.slice (some ⟨g, 0, none⟩) n cap) (L ++ [x]) w e w' := by
 obtain ⟨hg, hn, hnc, hcm, hcs, htk⟩ := hr
 have hmx : cap ≤ 9223372036854775807 := by unfold maxLen at hcm; omega
 obtain ⟨i0, hi, hz0, hz1, hz2⟩ := info_parts infoIt
 have hsrc : Src Tryz.prog i0.size 121 (.slice (some ⟨vb, 0, none⟩) 1 1) 1 (itc x) w := by
  rw [hz1]
  exact Src.ofSlice w Tryz.underlying121 ⟨vb, 0, none⟩ 1 1 (itc x) rfl (fun j u hj => by rw [Addr.add_lit, Nat.zero_add]; exact item_cells hvb j u hj) (itc_one x)
 have hsp : ∀ j, j < (itc x).length → (w.cell? ⟨g, 0 + n * i0.size + j, none⟩).isSome = true := fun j hj => by
  rw [hz1, cell_of_heap hg, Array.getElem?_eq_getElem (by rw [itc_len] at hj; rw [hcs]; have : (n + 1) * 2 ≤ cap * 2 := Nat.mul_le_mul_right _ hroom; omega)]; rfl
 have hfz : ∀ j, j < (itc x).length → w.frozen? ⟨g, 0 + n * i0.size + j, none⟩ = false := fun j _ => frozen_of_heap hg _
 have HS := hid (And.intro hsrc (And.intro hsp hfz))
 have HI := hid hi
 have HE := hid (show InsPost base (.slice (some ⟨g, 0, none⟩) n cap) (L ++ [x]) w (.returned (.slice (some ⟨g, 0, none⟩) (n + 1) cap)) (w.setCells g (n * i0.size) (itc x)) from by
  have hfit : n * 2 + (itc x).length ≤ cur.size := by rw [itc_len, hcs]; have : (n + 1) * 2 ≤ cap * 2 := Nat.mul_le_mul_right _ hroom; omega
  rw [hz1, setCells_row hg hfit (itc_one x)]
  refine ⟨_, rfl, RowIs.own (cur := (cur.toList.take (n * 2) ++ itc x ++ cur.toList.drop (n * 2 + (itc x).length)).toArray) ⟨setRow_heap w g cur _ _ _ hg, by simp [hn], hroom, hcm, ?_, ?_⟩ hb, Chg.setRow w g _ _ (by simp [Value.ownBlock]), fun k hk => .inl hk⟩
  ·have : (n + 1) * 2 ≤ cap * 2 := Nat.mul_le_mul_right _ hroom
   simp [itc_len, hcs]; omega
  ·rw [htk, ← itcs_one1, itcs_app]
   have hl : (itcs (L ++ [x])).length = (n + 1) * 2 := by rw [itcs_len, hn]; simp
   simp [← hl])
 clear hsrc hsp hfz hi hg hcs htk hvb hn hz0 hz1 hz2 hcm
 go_enter Tryz.func116, Tryz.ntmps116
 go_wp2_with (at_builtin; refine wpList_append_room_src _ rfl _ _ 121 121 rfl 152 i0 Tryz.underlying121 HI.out g 0 n cap rfl _ rfl 1 (itc x) HS.out.1 hroom HS.out.2.1 HS.out.2.2 ?_)
 exact bodyPost_ret (v := .slice (some ⟨g, 0, none⟩) (n + 1) cap) (by simp [results, Tryz.results116, go_sem]) rfl HE.out
theorem alloc_heap (w : World) (o : Obj) (g : Nat) (hg : w.heap.size = g) : (w.alloc o).heap[g]? = some o := by
 subst hg; show (w.heap.push o)[w.heap.size]? = some o; rw [Array.getElem?_push, if_pos rfl]
theorem zeroCells_size (z : Array Value) (n : Nat) : (Builtin.zeroCells z n).size = n * z.size := by simp [Builtin.zeroCells]
set_option maxHeartbeats 2000000 in
theorem ins_end_grow (base n cap vb : Nat) (bo : Option Addr) (hbo : bo = none ∨ ∃ g, bo = some ⟨g, 0, none⟩) (L : List It) (x : It) (w : World) (hn : n = L.length) (hnc : n ≤ cap) (hno : cap < n + 1) (hbig : n ≤ 1000000) (hold : ∀ s, s = 2 → (Builtin.firstCells s n (.slice bo n cap)).run Tryz.prog w.drew = .ok (itcs L).toArray w.drew) (hvb : w.heap[vb]? = some (.cells (itc x).toArray 152 (0, 0))) (hbase : base ≤ w.heap.size) :
    Calls Tryz.prog 116 #[.slice bo n cap, .int .i64 (n : Nat), .slice (some ⟨vb, 0, none⟩) 1 1] w fun e w' => InsPost base (.slice bo n cap) (L ++ [x]) w e w' := by
 obtain ⟨i0, hi, hz0, hz1, hz2⟩ := info_parts infoIt
 have hsrc : Src Tryz.prog i0.size 121 (.slice (some ⟨vb, 0, none⟩) 1 1) 1 (itc x) w := by
  rw [hz1]
  exact Src.ofSlice w Tryz.underlying121 ⟨vb, 0, none⟩ 1 1 (itc x) rfl (fun j u hj => by rw [Addr.add_lit, Nat.zero_add]; exact item_cells hvb j u hj) (itc_one x)
 have HR := hid (fun ty => run_append_grow_src w 121 121 ty 152 i0 _ Tryz.underlying121 hi hz0 bo n cap (itcs L) (hold _ hz1) _ 1 (itc x) hsrc hno (by omega) (by rw [hz2]; exact growslice_fits hno (by omega)))
 have hG1 := grownCap_ge w (n + 1) cap 152
 have hG2 := grownCap_le_maxLen w (n + 1) cap 152 (by unfold maxLen; omega)
 generalize grownCap w (n + 1) cap 152 = G at *
 have HE := hid (show InsPost base (.slice bo n cap) (L ++ [x]) w (.returned (.slice (some ⟨w.heap.size, 0, none⟩) (n + 1) G)) ((w.alloc (.cells ((itcs L ++ itc x).toArray ++ Builtin.zeroCells #[.float .f64 0, .int .i64 0] (G - (n + 1))) 152)).drew) from by
  refine ⟨_, rfl, RowIs.own (cur := ((itcs L ++ itc x).toArray ++ Builtin.zeroCells #[.float .f64 0, .int .i64 0] (G - (n + 1)))) ⟨alloc_heap w _ _ rfl, by simp [hn], hG1, hG2, ?_, ?_⟩ hbase, Chg.ofOld ((Old.refl w).alloc _).drew, fun k hk => .inr (by simp [Value.ownBlock] at hk; omega)⟩
  ·rw [Array.size_append, zeroCells_size]
   simp [itcs_len, itc_len, Value.cells, ← hn]
   omega
  ·rw [← itcs_one1, itcs_app]
   have hl : (itcs (L ++ [x])).length = (n + 1) * 2 := by rw [itcs_len, hn]; simp
   simp [← hl])
 have hnm : n ≤ 9223372036854775807 := by omega
 clear hsrc hi hold hz0 hz1 hz2 hG1 hG2 hvb hn
 go_enter Tryz.func116, Tryz.ntmps116
 rcases hbo with rfl | ⟨g, rfl⟩
 all_goals go_wp2_with (at_builtin; refine Lib.wpList_append_run _ rfl _ _ _ _ rfl _ _ rfl rfl _ _ (HR.out _) ?_)
 all_goals exact bodyPost_ret (v := .slice (some ⟨w.heap.size, 0, none⟩) (n + 1) G) (by simp [results, Tryz.results116, go_sem]) rfl HE.out
theorem sizeIt (w : World) : (Go.sizeOf 152).run Tryz.prog w = .ok 2 w := by
 obtain ⟨i0, hi, hz0, hz1, hz2⟩ := info_parts infoIt
 simp [sizeOf, typeInfo, hi, hz1]
theorem shape_of_heap {w : World} {g : Nat} {cur : Array Value} {t : TypeId} (h : w.heap[g]? = some (.cells cur t (0, 0))) : w.shape? g = some (t, cur.size) := by
 simp [World.shape?, h]
theorem overlaps_run (w : World) (g vb o lb cb : Nat) (cur : Array Value) (x : It) (hg : w.heap[g]? = some (.cells cur 152 (0, 0))) (hs : cur.size ≠ 0) (hvb : w.heap[vb]? = some (.cells (itc x).toArray 152 (0, 0))) (hne : vb ≠ g) :
    (callFunc 131 #[.slice (some ⟨vb, 0, none⟩) 1 1, .slice (some ⟨g, o, none⟩) lb cb]).run Tryz.prog w = .ok (.value (.bool false)) w := by
 rw [run_callFunc_extern Tryz.func131 (by kernel_rfl) (by kernel_rfl) (by kernel_rfl) (e := Extern.SlicesOverlaps.overlaps #[121, 121] #[4]) (by kernel_rfl),
  Lib.run_overlaps_apart w 121 4 152 Tryz.underlying121 2 sizeIt ⟨vb, 0, none⟩ ⟨g, o, none⟩ 1 1 lb cb hne _ _ _ _ (shape_of_heap hvb) (shape_of_heap hg) hs (frozen_of_heap hvb _) (frozen_of_heap hvb _)]
 rfl
set_option maxHeartbeats 4000000 in
set_option maxRecDepth 100000 in
theorem ins_shift (base g n cap vb i : Nat) (cur : Array Value) (L : List It) (x : It) (w : World) (hr : RowIs w g n cap cur L) (hb : base ≤ g) (hi : i < n) (hroom : n + 1 ≤ cap) (hvb : w.heap[vb]? = some (.cells (itc x).toArray 152 (0, 0))) (hne : vb ≠ g) :
    Calls Tryz.prog 116 #[.slice (some ⟨g, 0, none⟩) n cap, .int .i64 (i : Nat), .slice (some ⟨vb, 0, none⟩) 1 1] w fun e w' => InsPost base (.slice (some ⟨g, 0, none⟩) n cap) (L.take i ++ x :: L.drop i) w e w' := by
 have hcells := hr.cells
 obtain ⟨hg, hn, hnc, hcm, hcs, htk⟩ := hr
 have hmx : cap ≤ 9223372036854775807 := by unfold maxLen at hcm; omega
 have hov := fun o lb cb => overlaps_run w g vb o lb cb cur x hg (by omega) hvb hne
 have hKr : (n + 1) * 2 ≤ cap * 2 := Nat.mul_le_mul_right _ hroom
 have hdl : (itcs (L.drop i)).length = (n - i) * 2 := by rw [itcs_len, List.length_drop, hn]
 have hKi : (i + 1) * 2 + (n - i) * 2 = (n + 1) * 2 := by rw [← Nat.add_mul]; congr 1; omega
 have hcp1 : ∀ ty dc sc, (Builtin.copy_ #[121, 121] ty #[.slice (some ⟨g, (i + 1) * 2, none⟩) (n - i) dc, .slice (some ⟨g, i * 2, none⟩) (n + 1 - i) sc]).run Tryz.prog w.drew = .ok (goInt ((n - i : Nat) : Int)) (w.drew.setCells g ((i + 1) * 2) (itcs (L.drop i))) := fun ty dc sc =>
  run_copy_K w.drew ty g ((i + 1) * 2) (n - i) dc ⟨g, i * 2, none⟩ (n + 1 - i) sc (n - i) (itcs (L.drop i)) (by simp only [Nat.min_def]; split <;> omega) hdl
   (fun j v hj => by rw [Addr.add_lit]; exact hcells.1 _ v (by rw [← itcs_drop, List.getElem?_drop] at hj; exact hj))
   (fun j hj => hcells.2.1 _ (by omega)) (fun j hj => hcells.2.2 _) (itcs_one _)
 have HG := hid hg
 obtain ⟨W1, hW1⟩ : ∃ W1, W1 = w.drew.setCells g ((i + 1) * 2) (itcs (L.drop i)) := ⟨_, rfl⟩
 have hf1 : (i + 1) * 2 + (itcs (L.drop i)).length ≤ cur.size := by rw [hdl, hcs, hKi]; exact hKr
 have hr1 := setCells_row (w := w.drew) (o := (i + 1) * 2) hg hf1 (itcs_one _)
 have hg1 : W1.heap[g]? = some (.cells (cur.toList.take ((i + 1) * 2) ++ itcs (L.drop i) ++ cur.toList.drop ((i + 1) * 2 + (itcs (L.drop i)).length)).toArray 152 (0, 0)) := by rw [hW1, hr1]; exact setRow_heap w.drew g cur _ _ _ hg
 have hvb1 : W1.heap[vb]? = some (.cells (itc x).toArray 152 (0, 0)) := by rw [hW1, hr1, setRow_other _ _ _ _ hne]; exact hvb
 have hs1 : i * 2 + 2 ≤ (cur.toList.take ((i + 1) * 2) ++ itcs (L.drop i) ++ cur.toList.drop ((i + 1) * 2 + (itcs (L.drop i)).length)).toArray.size := by
  simp [hdl, hcs, hKi]; omega
 have hcp2 : ∀ ty dc, (Builtin.copy_ #[121, 121] ty #[.slice (some ⟨g, i * 2, none⟩) (n + 1 - i) dc, .slice (some ⟨vb, 0, none⟩) 1 1]).run Tryz.prog W1 = .ok (goInt 1) (W1.setCells g (i * 2) (itc x)) := fun ty dc =>
  run_copy_K W1 ty g (i * 2) (n + 1 - i) dc ⟨vb, 0, none⟩ 1 1 1 (itc x) (by simp only [Nat.min_def]; split <;> omega) rfl
   (fun j v hj => by rw [Addr.add_lit, Nat.zero_add]; exact item_cells hvb1 j v hj)
   (fun j hj => by rw [cell_of_heap hg1, Array.getElem?_eq_getElem (by rw [itc_len] at hj; omega)]; rfl) (fun j hj => frozen_of_heap hg1 _) (itc_one x)
 have HE := hid (show InsPost base (.slice (some ⟨g, 0, none⟩) n cap) (L.take i ++ x :: L.drop i) w (.returned (.slice (some ⟨g, 0, none⟩) (n + 1) cap)) (W1.setCells g (i * 2) (itc x)) from by
  rw [setCells_row hg1 (by rw [itc_len]; exact hs1) (itc_one x), hW1, hr1, setRow_setRow]
  rw [List.toList_toArray, show (i + 1) * 2 = i * 2 + 2 by omega, ins_lists cur.toList (itcs (L.drop i)) (itc x) (i * 2) 2 (by simp [hcs]; omega) rfl]
  have hti : cur.toList.take (i * 2) = itcs (L.take i) := by rw [← itcs_take, ← htk, List.take_take, show min (i * 2) (n * 2) = i * 2 by omega]
  rw [hti]
  refine ⟨_, rfl, RowIs.own ⟨setRow_heap w.drew g cur _ _ _ hg, ?_, hroom, hcm, ?_, ?_⟩ hb, Chg.trans (Chg.refl _ w).drew (Chg.setRow w.drew g _ _ (by simp [Value.ownBlock])), fun k hk => .inl hk⟩
  ·simp; omega
  ·simp [itcs_len, itc_len, hcs]; omega
  ·have hl : (itcs (L.take i) ++ itc x ++ itcs (L.drop i)).length = (n + 1) * 2 := by simp [itcs_len, itc_len]; omega
   rw [List.toList_toArray, ← hl, List.take_left']
   ·rw [← itcs_app, itcs_cons, List.append_assoc]
   ·rfl)
 rw [← hW1] at hcp1
 have l1 : (i : Int) < (n : Int) := by omega
 have l2 : (n : Int) + 1 ≤ (cap : Int) := by omega
 have l3 : ¬ ((i : Int) = (n : Int)) := by omega
 have l4 : i ≤ n := by omega
 have hb4 : ¬ (cap = i) := by omega
 have hb5 : ¬ (cap = i + 1) := by omega
 have hw1 : IntKind.i64.wrap ((i : Int) + 1) = (i : Int) + 1 := by rw [IntKind.wrap_i64]; omega
 have hb1 : (0 : Int) ≤ (i : Int) + 1 := by omega
 have htn : ((i : Int) + 1).toNat = i + 1 := by omega
 have hb3 : (i : Int) ≤ (n : Int) + 1 := by omega
 have hb6 : (i : Int) + 1 ≤ (n : Int) + 1 := by omega
 have mixed : Tryz.prog.follows Departure.mixedOrders = true := by kernel_rfl
 have HW1 := hid hW1
 clear hcells hg hn hcs htk hKr hdl hKi hf1 hr1 hg1 hvb1 hs1 hW1 hvb hcm HG
 go_enter Tryz.func116, Tryz.ntmps116
 go_wp2_with (simp only [hov])
 go_region_law_o (refine step_copy_runI rfl _ _ 121 121 rfl _ _ (by simp [Act.eval, Act.put]) (by simp [Act.eval, Act.put]) (hcp1 _ _ _) ?_)
 go_wp2_with (at_builtin; refine wpList_copy_runI _ rfl _ _ 121 121 rfl _ _ rfl rfl (hcp2 _ _) ?_)
 exact bodyPost_ret (v := .slice (some ⟨g, 0, none⟩) (n + 1) cap) (by simp [results, Tryz.results116, go_sem]) rfl HE.out
set_option maxHeartbeats 4000000 in
set_option maxRecDepth 100000 in
theorem ins_grow (base g n cap vb i : Nat) (cur : Array Value) (L : List It) (x : It) (w : World) (hr : RowIs w g n cap cur L) (hi : i < n) (hno : cap < n + 1) (hbig : n ≤ 1000000) (hvb : w.heap[vb]? = some (.cells (itc x).toArray 152 (0, 0))) (hbase : base ≤ w.heap.size) :
    Calls Tryz.prog 116 #[.slice (some ⟨g, 0, none⟩) n cap, .int .i64 (i : Nat), .slice (some ⟨vb, 0, none⟩) 1 1] w fun e w' => InsPost base (.slice (some ⟨g, 0, none⟩) n cap) (L.take i ++ x :: L.drop i) w e w' := by
 have hcells := hr.cells
 obtain ⟨hg, hn, hnc, hcm, hcs, htk⟩ := hr
 have hgl := heap_lt hg
 have hvl := heap_lt hvb
 obtain ⟨i0, hi0, hz0, hz1, hz2⟩ := info_parts infoIt
 have hdl : (itcs (L.drop i)).length = (n - i) * 2 := by rw [itcs_len, List.length_drop, hn]
 have htl : (itcs (L.take i)).length = i * 2 := by rw [itcs_len, List.length_take]; congr 1; omega
 have hkk : (n : Int) + 1 - (i : Int) = ((n + 1 - i : Nat) : Int) := by omega
 have hik : i + (n + 1 - i) = n + 1 := by omega
 have hold : (Builtin.firstCells i0.size i (.slice (some ⟨g, 0, none⟩) i cap)).run Tryz.prog w.drew = .ok (itcs (L.take i)).toArray w.drew := by
  rw [hz1]
  exact run_firstCells_some w.drew 2 i ⟨g, 0, none⟩ i cap (itcs (L.take i)) htl (fun j v hj => by
   rw [Addr.add_lit, Nat.zero_add]
   refine hcells.1 j v ?_
   rw [← itcs_take, List.getElem?_take] at hj
   split at hj
   ·exact hj
   ·cases hj)
 have hrz : ∀ ty, (Builtin.append_ #[121, 3] ty #[.slice (some ⟨g, 0, none⟩) i cap, .int .i64 ((n : Int) + 1 - (i : Int))]).run Tryz.prog w =
     .ok (.slice (some ⟨w.heap.size, 0, none⟩) (n + 1) (grownCap w (n + 1) cap 152)) (w.drew.alloc (.cells ((itcs (L.take i)).toArray ++ Builtin.zeroCells (Value.agg #[.float .f64 0, .int .i64 0]).cells (n + 1 - i) ++ Builtin.zeroCells (Value.agg #[.float .f64 0, .int .i64 0]).cells (grownCap w (n + 1) cap 152 - (n + 1))) 152)) := fun ty => by
  have h := Lib.run_append_grow_zeros w 121 3 ty 152 i0 _ .i64 .i64 Tryz.underlying121 Tryz.underlying3 hi0 hz0 (some ⟨g, 0, none⟩) i cap (itcs (L.take i)) hold (n + 1 - i) (by omega) (by omega) (by omega) (by omega) (by rw [hz2]; omega) (by rw [hz2, hik]; exact growslice_fits hno (by omega))
  rw [hik] at h
  rw [hkk]
  exact h
 have hG1 := grownCap_ge w (n + 1) cap 152
 have hG2 := grownCap_le_maxLen w (n + 1) cap 152 (by unfold maxLen; omega)
 generalize grownCap w (n + 1) cap 152 = G at *
 have hG63 : G ≤ 9223372036854775807 := by unfold maxLen at hG2; omega
 obtain ⟨ROW, hROW⟩ : ∃ ROW : Array Value, ROW = (itcs (L.take i)).toArray ++ Builtin.zeroCells (Value.agg #[.float .f64 0, .int .i64 0]).cells (n + 1 - i) ++ Builtin.zeroCells (Value.agg #[.float .f64 0, .int .i64 0]).cells (G - (n + 1)) := ⟨_, rfl⟩
 rw [← hROW] at hrz
 have hRs : ROW.size = G * 2 := by
  rw [hROW, Array.size_append, Array.size_append, zeroCells_size, zeroCells_size]
  simp [htl, Value.cells]
  omega
 have hGK : (n + 1) * 2 ≤ G * 2 := Nat.mul_le_mul_right _ hG1
 have hKi : (i + 1) * 2 + (n - i) * 2 = (n + 1) * 2 := by rw [← Nat.add_mul]; congr 1; omega
 have hRt : ROW.toList.take (i * 2) = itcs (L.take i) := by rw [hROW]; simp [← htl]
 obtain ⟨WA, hWA⟩ : ∃ WA, WA = (w.alloc (.cells ROW 152)).drew := ⟨_, rfl⟩
 have hgA : WA.heap[w.heap.size]? = some (.cells ROW 152 (0, 0)) := by rw [hWA]; exact alloc_heap w _ _ rfl
 have hOA : Old w WA := by rw [hWA]; exact ((Old.refl w).alloc _).drew
 have hcpA : ∀ ty dc, (Builtin.copy_ #[121, 121] ty #[.slice (some ⟨w.heap.size, i * 2, none⟩) (n + 1 - i) dc, .slice (some ⟨vb, 0, none⟩) 1 1]).run Tryz.prog WA = .ok (goInt 1) (WA.setCells w.heap.size (i * 2) (itc x)) := fun ty dc =>
  run_copy_K WA ty w.heap.size (i * 2) (n + 1 - i) dc ⟨vb, 0, none⟩ 1 1 1 (itc x) (by simp only [Nat.min_def]; split <;> omega) rfl
   (fun j v hj => by rw [Addr.add_lit, Nat.zero_add]; exact hOA.keep (item_cells hvb j v hj))
   (fun j hj => by rw [cell_of_heap hgA, Array.getElem?_eq_getElem (by rw [itc_len] at hj; omega)]; rfl) (fun j hj => frozen_of_heap hgA _) (itc_one x)
 have hrB := setCells_row (o := i * 2) hgA (by rw [itc_len]; omega) (itc_one x)
 obtain ⟨WB, hWB⟩ : ∃ WB, WB = WA.setCells w.heap.size (i * 2) (itc x) := ⟨_, rfl⟩
 have hgB : WB.heap[w.heap.size]? = some (.cells (ROW.toList.take (i * 2) ++ itc x ++ ROW.toList.drop (i * 2 + (itc x).length)).toArray 152 (0, 0)) := by rw [hWB, hrB]; exact setRow_heap WA _ ROW _ _ _ hgA
 have hgBg : WB.heap[g]? = some (.cells cur 152 (0, 0)) := by rw [hWB, hrB, setRow_other _ _ _ _ (by omega)]; exact hOA.block hg
 have hBs : (ROW.toList.take (i * 2) ++ itc x ++ ROW.toList.drop (i * 2 + (itc x).length)).toArray.size = G * 2 := by simp [hRs, itc_len]; omega
 have hcpB : ∀ ty dc sc, (Builtin.copy_ #[121, 121] ty #[.slice (some ⟨w.heap.size, (i + 1) * 2, none⟩) (n - i) dc, .slice (some ⟨g, i * 2, none⟩) (n - i) sc]).run Tryz.prog WB.drew = .ok (goInt ((n - i : Nat) : Int)) (WB.drew.setCells w.heap.size ((i + 1) * 2) (itcs (L.drop i))) := fun ty dc sc =>
  run_copy_K WB.drew ty w.heap.size ((i + 1) * 2) (n - i) dc ⟨g, i * 2, none⟩ (n - i) sc (n - i) (itcs (L.drop i)) (by simp [Nat.min_def]) hdl
   (fun j v hj => by
    rw [Addr.add_lit]
    show WB.cell? _ = _
    rw [cell_of_heap hgBg, ← cell_of_heap hg]
    exact hcells.1 _ v (by rw [← itcs_drop, List.getElem?_drop] at hj; exact hj))
   (fun j hj => by show (WB.cell? _).isSome = true; rw [cell_of_heap hgB, Array.getElem?_eq_getElem (by omega)]; rfl) (fun j hj => by show WB.frozen? _ = _; exact frozen_of_heap hgB _) (itcs_one _)
 have HE := hid (show InsPost base (.slice (some ⟨g, 0, none⟩) n cap) (L.take i ++ x :: L.drop i) w (.returned (.slice (some ⟨w.heap.size, 0, none⟩) (n + 1) G)) (WB.drew.setCells w.heap.size ((i + 1) * 2) (itcs (L.drop i))) from by
  have hgB' : WB.drew.heap[w.heap.size]? = some (.cells (ROW.toList.take (i * 2) ++ itc x ++ ROW.toList.drop (i * 2 + (itc x).length)).toArray 152 (0, 0)) := hgB
  rw [setCells_row hgB' (by omega) (itcs_one _)]
  have hOB : Old w WB := by rw [hWB, hrB]; exact hOA.below ((Chg.setRow WA w.heap.size _ [w.heap.size] (by simp)).below _ (by simp) hOA.size)
  refine ⟨_, rfl, RowIs.own ⟨setRow_heap WB.drew _ _ _ _ _ hgB', ?_, hG1, hG2, ?_, ?_⟩ hbase, Chg.ofOld (hOB.drew.below ((Chg.setRow WB.drew w.heap.size _ [w.heap.size] (by simp)).below _ (by simp) hOB.size)), fun k hk => .inr (by simp [Value.ownBlock] at hk; omega)⟩
  ·simp; omega
  ·simp [hdl, hRs, itc_len]; omega
  ·rw [List.toList_toArray, List.toList_toArray, hRt]
   have e1 : (itcs (L.take i) ++ itc x ++ ROW.toList.drop (i * 2 + (itc x).length)).take ((i + 1) * 2) = itcs (L.take i) ++ itc x := by
    have hl : (itcs (L.take i) ++ itc x).length = (i + 1) * 2 := by simp [htl, itc_len]; omega
    rw [← hl, List.take_left']
    rfl
   rw [e1]
   have hl : (itcs (L.take i) ++ itc x ++ itcs (L.drop i)).length = (n + 1) * 2 := by simp [htl, hdl, itc_len]; omega
   rw [← hl, List.take_left' rfl, ← itcs_app, itcs_cons, List.append_assoc])
 have hrz' : ∀ ty, (Builtin.append_ #[121, 3] ty #[.slice (some ⟨g, 0, none⟩) i cap, .int .i64 ((n : Int) + 1 - (i : Int))]).run Tryz.prog w = .ok (.slice (some ⟨w.heap.size, 0, none⟩) (n + 1) G) WA := fun ty => by rw [hWA]; exact hrz ty
 rw [← hWB] at hcpA
 have l1 : (i : Int) < (n : Int) := by omega
 have l3 : ¬ ((i : Int) = (n : Int)) := by omega
 have l4 : i ≤ n := by omega
 have l5 : (cap : Int) < (n : Int) + 1 := by omega
 have hb3 : (i : Int) ≤ (n : Int) := by omega
 have hb8 : (i : Int) ≤ (n : Int) + 1 := by omega
 have hci : ¬ (cap = i) := by omega
 have hGi : ¬ (G = i) := by omega
 have hGim : ¬ (G = i + 1) := by omega
 have hw1 : IntKind.i64.wrap ((i : Int) + 1) = (i : Int) + 1 := by rw [IntKind.wrap_i64]; omega
 have hb1 : (0 : Int) ≤ (i : Int) + 1 := by omega
 have htn : ((i : Int) + 1).toNat = i + 1 := by omega
 have hb6 : (i : Int) + 1 ≤ (n : Int) + 1 := by omega
 have mixed : Tryz.prog.follows Departure.mixedOrders = true := by kernel_rfl
 clear hcells hg hn hcs htk hcm hdl htl hkk hik hold hrz hG2 hROW hRs hGK hKi hRt hWA hgA hOA hrB hWB hgB hgBg hBs hz0 hz1 hz2 hi0 hvb
 go_enter Tryz.func116, Tryz.ntmps116
 go_wp2_with (first
  | (at_builtin; refine Lib.wpList_append_run _ rfl _ _ _ _ rfl _ _ rfl rfl _ _ (hrz' _) ?_)
  | (at_builtin; refine wpList_copy_runI _ rfl _ _ 121 121 rfl _ _ rfl rfl (hcpA _ _) ?_))
 go_region_law_o (refine step_copy_runI rfl _ _ 121 121 rfl (.slice (some ⟨w.heap.size, (i + 1) * 2, none⟩) (n - i) (G - (i + 1))) (.slice (some ⟨g, i * 2, none⟩) (n - i) (cap - i)) (by simp [Act.eval, Act.put]) (by simp [Act.eval, Act.put]) (hcpB 3 (G - (i + 1)) (cap - i)) ?_)
 go_wp2
 exact bodyPost_ret (v := .slice (some ⟨w.heap.size, 0, none⟩) (n + 1) G) (by simp [results, Tryz.results116, go_sem]) rfl HE.out
theorem insert_any (base : Nat) (v : Value) (L : List It) (i : Nat) (x : It) (vb : Nat) (w : World) (hbig : L.length ≤ 1000000) (hi : i ≤ L.length) (hown : Own base w v L) (hvb : w.heap[vb]? = some (.cells (itc x).toArray 152 (0, 0))) (hne : v.ownBlock ≠ some vb) (hbase : base ≤ w.heap.size) :
    Calls Tryz.prog 116 #[v, .int .i64 (i : Nat), .slice (some ⟨vb, 0, none⟩) 1 1] w fun e w' => InsPost base v (L.take i ++ x :: L.drop i) w e w' := by
 rcases hown.2 with ⟨rfl, hn⟩ | ⟨g, cap, cur, rfl, hb, hg, hnc, hcm, hcs, htk⟩
 ·obtain rfl : L = [] := List.length_eq_zero_iff.1 hn
  obtain rfl : i = 0 := by simpa using hi
  exact ins_end_grow base 0 0 vb none (.inl rfl) [] x w rfl (Nat.le_refl _) (by omega) (by omega) (fun s hs => by subst hs; exact run_firstCells_none w.drew 2 0 0 0) hvb hbase
 ·have hr : RowIs w g L.length cap cur L := ⟨hg, rfl, hnc, hcm, hcs, htk⟩
  by_cases he : i = L.length
  ·subst he
   rw [List.take_length, List.drop_length]
   by_cases hroom : L.length + 1 ≤ cap
   ·exact ins_end_room base g L.length cap vb cur L x w hr hb hroom hvb
   ·exact ins_end_grow base L.length cap vb (some ⟨g, 0, none⟩) (.inr ⟨g, rfl⟩) L x w rfl hnc (by omega) hbig (fun s hs => by
      subst hs
      exact run_firstCells_some w.drew 2 L.length ⟨g, 0, none⟩ L.length cap (itcs L) (itcs_len L) (fun j v hj => by rw [Addr.add_lit, Nat.zero_add]; exact hr.cells.1 j v hj)) hvb hbase
  ·by_cases hroom : L.length + 1 ≤ cap
   ·exact ins_shift base g L.length cap vb i cur L x w hr hb (by omega) hroom hvb (fun e => hne (by rw [e]; rfl))
   ·exact ins_grow base g L.length cap vb i cur L x w hr (by omega) (by omega) hbig hvb hbase
end Go.Proofs.YtgeinnaljlajoaaGreat.Vx
namespace Go.Proofs.YtgeinnaljlajoaaGreat.Vx
open Go.RowKit Go.Lib
set_option linter.unusedVariables false
set_option linter.unusedSimpArgs false
set_option maxRecDepth 20000
theorem zero_one (n : Nat) : ∀ u ∈ (Builtin.zeroCells #[.float .f64 0, .int .i64 0] n).toList, u.oneCell' = true := by
 intro u hu
 simp [Builtin.zeroCells] at hu
 obtain ⟨j, hj, rfl⟩ := hu
 have hm : j % 2 < 2 := Nat.mod_lt _ (by decide)
 generalize j % 2 = q at *
 match q, hm with
 | 0, _ => rfl
  | 1, _ => rfl
def ItIn (w : World) (b o : Nat) (x : It) : Prop := w.cell? ⟨b, o, none⟩ = some (.float .f64 x.k) ∧ w.cell? ⟨b, o + 1, none⟩ = some (.int .i64 x.n)
theorem ItIn.old {w w' : World} {b o : Nat} {x : It} (h : ItIn w b o x) (u : Old w w') : ItIn w' b o x := ⟨u.keep h.1, u.keep h.2⟩
def atI (L : List It) (i : Nat) : It := (L[i]?).getD ⟨0, 0⟩
theorem atI_get (L : List It) (i : Nat) (h : i < L.length) : atI L i = L[i] := by simp [atI, h]
theorem cells_in {w : World} {g o : Nat} {x : It} (h : ∀ j u, (itc x)[j]? = some u → w.cell? ⟨g, o + j, none⟩ = some u) : ItIn w g o x := by
 have H : ∀ j, j < 2 → w.cell? ⟨g, o + j, none⟩ = (itc x)[j]? := fun j hj => by
  rw [List.getElem?_eq_getElem (by rw [itc_len]; exact hj)]
  exact h j _ (List.getElem?_eq_getElem _)
 exact ⟨H 0 (by decide), H 1 (by decide)⟩
theorem RowIs.item {w : World} {g n cap : Nat} {cur : Array Value} {L : List It} (h : RowIs w g n cap cur L) (i : Nat) (hi : i < L.length) : ItIn w g (i * 2) (atI L i) := by
 refine cells_in fun j u hj => h.cells.1 _ u ?_
 rw [atI_get L i hi] at hj
 rw [itcs, flat_get itc 2 itc_len L i j hi (by have := (List.getElem?_eq_some_iff.1 hj).1; rw [itc_len] at this; exact this)]
 exact hj
theorem Own.shape {base : Nat} {w : World} {v : Value} {L : List It} (h : Own base w v L) (hn : 0 < L.length) :
    ∃ g cap, v = .slice (some ⟨g, 0, none⟩) L.length cap ∧ base ≤ g ∧ g < w.heap.size ∧ (∀ i, i < L.length → ItIn w g (i * 2) (atI L i)) ∧ ∀ o, w.frozen? ⟨g, o, none⟩ = false := by
 rcases h.2 with ⟨_, e⟩ | ⟨g, cap, cur, rfl, hb, hg, hnc, hcm, hcs, htk⟩
 ·omega
 ·have hr : RowIs w g L.length cap cur L := ⟨hg, rfl, hnc, hcm, hcs, htk⟩
  exact ⟨g, cap, rfl, hb, heap_lt hg, fun i hi => hr.item i hi, hr.cells.2.2⟩
end Go.Proofs.YtgeinnaljlajoaaGreat.Vx
namespace Go.Proofs.YtgeinnaljlajoaaGreat.Vx
open Go.RowKit Go.Lib
set_option linter.unusedVariables false
set_option linter.unusedSimpArgs false
set_option maxRecDepth 20000
def keepL (m : Int) (L : List It) : List It := L.filter fun x => decide (m < x.n)
theorem keep_step (m : Int) (L : List It) (j : Nat) (hj : j < L.length) : keepL m (L.take (j + 1)) = keepL m (L.take j) ++ (if m < (atI L j).n then [atI L j] else []) := by
 unfold keepL
 rw [List.take_add_one, List.filter_append, List.getElem?_eq_getElem hj, atI_get L j hj]
 by_cases h : m < L[j].n <;> simp [h]
theorem keep_first (m : Int) (L : List It) (r : Nat) (hr : r ≤ L.length) (h1 : ∀ j, j < r → m < (atI L j).n) : keepL m (L.take r) = L.take r := by
 unfold keepL
 rw [List.filter_eq_self]
 intro x hx
 obtain ⟨j, hj, rfl⟩ := List.getElem_of_mem hx
 have hjr : j < r := by rw [List.length_take] at hj; omega
 have := h1 j hjr
 rw [atI_get L j (by omega)] at this
 simpa using this
theorem first_idx (m : Int) (L : List It) : ∃ r, r ≤ L.length ∧ (∀ j, j < r → m < (atI L j).n) ∧ (r < L.length → (atI L r).n ≤ m) := by
 have H : ∀ k, k ≤ L.length → (∀ j, j < k → m < (atI L j).n) ∨ ∃ r, r < L.length ∧ (∀ j, j < r → m < (atI L j).n) ∧ (atI L r).n ≤ m := by
  intro k
  induction k with
  | zero => exact fun _ => .inl fun j hj => absurd hj (by omega)
  | succ k ih =>
   intro hk
   rcases ih (by omega) with h | h
   ·by_cases hm : m < (atI L k).n
    ·exact .inl fun j hj => by
       by_cases e : j = k
       ·rw [e]; exact hm
       ·exact h j (by omega)
    ·exact .inr ⟨k, by omega, h, by omega⟩
   ·exact .inr h
 rcases H L.length (Nat.le_refl _) with h | ⟨r, h1, h2, h3⟩
 ·exact ⟨L.length, Nat.le_refl _, h, fun e => absurd e (by omega)⟩
 ·exact ⟨r, by omega, h2, fun _ => h3⟩
theorem cell_some {w : World} {g : Nat} {cur : Array Value} {t : TypeId} (h : w.heap[g]? = some (.cells cur t (0, 0))) {j : Nat} (hj : j < cur.size) : ∃ z, w.cell? ⟨g, j, none⟩ = some z := by
 rw [cell_of_heap h, Array.getElem?_eq_getElem hj]; exact ⟨_, rfl⟩
def DelPost (base : Nat) (v : Value) (L' : List It) (w : World) (e : Ending) (w' : World) : Prop := ∃ v', e = .returned v' ∧ Own base w' v' L' ∧ Chg v.ownBlock.toList w w' ∧ ∀ g, v'.ownBlock = some g → v.ownBlock = some g
def DelIn (w : World) (g n cap a b : Nat) (L F : List It) : Prop := ∃ cur : Array Value, w.heap[g]? = some (.cells cur 152 (0, 0)) ∧ cur.size = cap * 2 ∧ a = F.length ∧ cur.toList.take (a * 2) = itcs F ∧ cur.toList.drop (b * 2) = itcs (L.drop b) ++ cur.toList.drop (n * 2)
theorem DelIn.item {w : World} {g n cap a b : Nat} {L F : List It} (h : DelIn w g n cap a b L F) (hb : b < L.length) : ItIn w g (b * 2) (atI L b) := by
 obtain ⟨cur, hg, hcs, ha, ht, hd⟩ := h
 refine cells_in fun j u hj => ?_
 have hj2 : j < 2 := by have := (List.getElem?_eq_some_iff.1 hj).1; rw [itc_len] at this; exact this
 rw [cell_of_heap hg, ← Array.getElem?_toList, ← List.getElem?_drop, hd]
 rw [List.drop_eq_getElem_cons hb, itcs_cons, List.append_assoc, List.getElem?_append_left (by rw [itc_len]; exact hj2), ← atI_get L b hb]
 exact hj
theorem DelIn.skip {w w' : World} {g n cap a b : Nat} {L F : List It} (h : DelIn w g n cap a b L F) (hb : b < L.length) (u : Old w w') : DelIn w' g n cap a (b + 1) L F := by
 obtain ⟨cur, hg, hcs, ha, ht, hd⟩ := h
 refine ⟨cur, u.block hg, hcs, ha, ht, ?_⟩
 have : cur.toList.drop ((b + 1) * 2) = (cur.toList.drop (b * 2)).drop 2 := by rw [List.drop_drop]; congr 1; omega
 rw [this, hd, List.drop_eq_getElem_cons hb, itcs_cons, List.append_assoc, List.drop_left' (itc_len _)]
theorem DelIn.put {w w' : World} {g n cap a b : Nat} {L F : List It} (h : DelIn w g n cap a b L F) (hb : b < L.length) (hn : n = L.length) (hnc : n ≤ cap) (hab : a < b) (u : Old w w') : DelIn (w'.setCells g (a * 2) (itc (atI L b))) g n cap (a + 1) (b + 1) L (F ++ [atI L b]) := by
 have hs := h.skip hb u
 obtain ⟨cur, hg, hcs, ha, ht, hd⟩ := hs
 have hbK : (b + 1) * 2 ≤ cap * 2 := Nat.mul_le_mul_right _ (by omega)
 have hf : a * 2 + (itc (atI L b)).length ≤ cur.size := by rw [itc_len]; omega
 rw [setCells_row hg hf (itc_one _)]
 refine ⟨_, setRow_heap w' g cur _ _ _ hg, ?_, by simp [ha], ?_, ?_⟩
 ·simp [itc_len, hcs]; omega
 ·rw [List.toList_toArray, ht, ← itcs_one1, itcs_app]
  have hl : (itcs (F ++ [atI L b])).length = (a + 1) * 2 := by rw [itcs_len]; simp [ha]
  rw [← hl, List.take_left' rfl]
 ·rw [List.toList_toArray]
  have hl : (cur.toList.take (a * 2) ++ itc (atI L b)).length = (a + 1) * 2 := by simp [itc_len, hcs]; omega
  have hdr : ∀ q, (a + 1) * 2 ≤ q → (cur.toList.take (a * 2) ++ itc (atI L b) ++ cur.toList.drop (a * 2 + (itc (atI L b)).length)).drop q = cur.toList.drop q := by
   intro q hq
   rw [List.drop_append, hl, List.drop_eq_nil_of_le (by omega), List.nil_append, List.drop_drop, itc_len]
   congr 1; omega
  have h1 : (a + 1) * 2 ≤ (b + 1) * 2 := Nat.mul_le_mul_right _ (by omega)
  have h2 : (a + 1) * 2 ≤ n * 2 := Nat.mul_le_mul_right _ (by omega)
  rw [hdr _ h1, hdr _ h2, hd]
theorem DelIn.lt {w : World} {g n cap a b : Nat} {L F : List It} (h : DelIn w g n cap a b L F) (hn : n ≤ cap) (i : Nat) (hi : i < n) : (∀ j, j < 2 → ∃ z, w.cell? ⟨g, i * 2 + j, none⟩ = some z) ∧ ∀ o, w.frozen? ⟨g, o, none⟩ = false := by
 obtain ⟨cur, hg, hcs, _⟩ := h
 have : (i + 1) * 2 ≤ cap * 2 := Nat.mul_le_mul_right _ (by omega)
 exact ⟨fun j hj => cell_some hg (by omega), fun o => frozen_of_heap hg o⟩
theorem wpList_clear_run (w : World) {ops : Array Oper} {rest : List Oper} {o : Oper} {a : Act} {Q : Exit → Act → World → Prop} (hgd : o.guard = none) (d : Operand) (t : TypeId)
    (ho : o.op = .call { callee := .builtin .clear, args := #[d], argTypes := #[t] }) (v : Value) (hd : a.eval d = v) {v' : Value} {w' : World}
    (hr : (Builtin.clear_ #[t] o.type #[v]).run Tryz.prog w = .ok v' w') (h : wpList Tryz.prog ops Q rest (a.put o.dst v') w') : wpList Tryz.prog ops Q (o :: rest) a w := by
 refine wpList_plain hgd fun _ hK => ?_
 unfold Oper.wp execOp
 simp only [ho, resolve, invoke, builtin, Sem.run_bind, Sem.run_pure, Result.andThen_ok, List.map_toArray, List.map_cons, List.map_nil, hd, hr]
 exact hK _ _ h
theorem item_new (w : World) (x : It) (g : Nat) (hg : w.heap.size = g) : ItIn (w.alloc (.cells (itc x).toArray 152)) g 0 x := by
 refine cells_in fun j u hj => ?_
 rw [cell_of_heap (alloc_heap w _ g hg), Nat.zero_add]
 simpa using hj
theorem DelIn.clear {w : World} {base g n cap a b : Nat} {L F : List It} (h : DelIn w g n cap a b L F) (hb : base ≤ g) (han : a < n) (hnc : n ≤ cap) (hcm : cap ≤ maxLen) : Own base (w.setCells g (a * 2) (Builtin.zeroCells #[.float .f64 0, .int .i64 0] (n - a)).toList) (.slice (some ⟨g, 0, none⟩) a cap) F := by
 obtain ⟨cur, hg, hcs, ha, ht, hd⟩ := h
 have hl : (Builtin.zeroCells #[.float .f64 0, .int .i64 0] (n - a)).toList.length = (n - a) * 2 := by rw [Array.length_toList, zeroCells_size]; rfl
 have hKn : a * 2 + (n - a) * 2 = n * 2 := by rw [← Nat.add_mul]; congr 1; omega
 have hnK : n * 2 ≤ cap * 2 := Nat.mul_le_mul_right _ hnc
 rw [setCells_row hg (by rw [hl]; omega) (zero_one _)]
 refine RowIs.own ⟨setRow_heap w g cur _ _ _ hg, ha, by omega, hcm, ?_, ?_⟩ hb
 ·rw [List.size_toArray, List.length_append, List.length_append, hl]; simp [hcs]; omega
 ·rw [List.toList_toArray, ht]
  have hl2 : (itcs F).length = a * 2 := by rw [itcs_len, ha]
  rw [← hl2, List.append_assoc, List.take_left' rfl]
attribute [local go_sem] run_store_float
end Go.Proofs.YtgeinnaljlajoaaGreat.Vx
namespace Go.Proofs.YtgeinnaljlajoaaGreat.Vx
set_option linter.unusedVariables false
set_option linter.unusedSimpArgs false
set_option maxRecDepth 20000
def kc (x : It) : Nat := Fl.code x.k
def withN (y : It) (m : Int) : It := ⟨y.k, m⟩
theorem kc_with (y : It) (m : Int) : kc (withN y m) = kc y := rfl
theorem n_with (y : It) (m : Int) : (withN y m).n = m := rfl
theorem with_n (y : It) : withN y y.n = y := rfl
def Asc (L : List It) : Prop := L.Pairwise fun x y => kc x < kc y
def pos (c : Nat) : List It → Nat
 | [] => 0
 | x :: t => if kc x < c then pos c t + 1 else 0
def putL (x : It) : List It → List It
 | [] => [x]
 | y :: t => if kc y < kc x then y :: putL x t else if kc y = kc x then withN y (max y.n x.n) :: t else x :: y :: t
def atL (c : Nat) : List It → Int
 | [] => 0
 | y :: t => if kc y = c then y.n else atL c t
theorem atI_zero (x : It) (t : List It) : atI (x :: t) 0 = x := rfl
theorem atI_succ (x : It) (t : List It) (i : Nat) : atI (x :: t) (i + 1) = atI t i := by simp [atI]
theorem pos_le (c : Nat) : ∀ L, pos c L ≤ L.length
 | [] => Nat.le_refl _
 | x :: t => by
  have := pos_le c t
  unfold pos
  split <;> simp <;> omega
theorem pos_lt (c : Nat) : ∀ (L : List It) (i : Nat), i < pos c L → kc (atI L i) < c
 | [], i, h => by simp [pos] at h
 | x :: t, i, h => by
  unfold pos at h
  split at h
  ·rename_i hx
   match i with
   | 0 => exact hx
   | i + 1 => rw [atI_succ]; exact pos_lt c t i (by omega)
  ·omega
theorem asc_ge {x : It} {t : List It} (h : Asc (x :: t)) (i : Nat) (hi : i < t.length) : kc x < kc (atI t i) := by
 rw [atI_get t i hi]
 exact (List.pairwise_cons.1 h).1 _ (List.getElem_mem hi)
theorem pos_ge (c : Nat) : ∀ (L : List It), Asc L → ∀ i, pos c L ≤ i → i < L.length → c ≤ kc (atI L i)
 | [], _, i, _, h => by simp at h
 | x :: t, ha, i, h, hl => by
  unfold pos at h
  split at h
  ·match i with
   | 0 => omega
   | i + 1 => rw [atI_succ]; exact pos_ge c t (List.pairwise_cons.1 ha).2 i (by omega) (by simpa using hl)
  ·rename_i hx
   match i with
   | 0 => exact Nat.le_of_not_lt hx
   | i + 1 =>
    rw [atI_succ]
    have := asc_ge ha i (by simpa using hl)
    omega
theorem put_set (x : It) : ∀ L, Asc L → pos (kc x) L < L.length → kc (atI L (pos (kc x) L)) = kc x → putL x L = L.set (pos (kc x) L) (withN (atI L (pos (kc x) L)) (max (atI L (pos (kc x) L)).n x.n))
 | [], _, h, _ => by simp at h
 | y :: t, ha, h, hk => by
  unfold pos at h hk ⊢
  unfold putL
  by_cases hy : kc y < kc x
  ·rw [if_pos hy] at h hk ⊢
   rw [if_pos hy, atI_succ, List.set_cons_succ]
   rw [atI_succ] at hk
   rw [← put_set x t (List.pairwise_cons.1 ha).2 (by simpa using h) hk]
  ·rw [if_neg hy] at h hk ⊢
   rw [atI_zero] at hk
   rw [if_neg hy, if_pos hk, atI_zero, List.set_cons_zero]
theorem put_ins (x : It) : ∀ L, Asc L → ¬ (pos (kc x) L < L.length ∧ kc (atI L (pos (kc x) L)) = kc x) → putL x L = L.take (pos (kc x) L) ++ x :: L.drop (pos (kc x) L)
 | [], _, _ => by simp [pos, putL]
 | y :: t, ha, h => by
  unfold pos at h ⊢
  unfold putL
  by_cases hy : kc y < kc x
  ·rw [if_pos hy] at h ⊢
   rw [if_pos hy]
   rw [atI_succ] at h
   rw [put_ins x t (List.pairwise_cons.1 ha).2 (fun e => h ⟨by simpa using e.1, e.2⟩)]
   simp
  ·rw [if_neg hy] at h ⊢
   rw [atI_zero] at h
   rw [if_neg hy, if_neg (fun e => h ⟨by simp, e⟩)]
   simp
theorem mem_put (x : It) : ∀ L z, z ∈ putL x L → z = x ∨ z ∈ L ∨ ∃ y ∈ L, kc y = kc x ∧ z = withN y (max y.n x.n)
 | [], z, h => by simp [putL] at h; exact .inl h
 | y :: t, z, h => by
  unfold putL at h
  split at h
  ·rcases List.mem_cons.1 h with rfl | h
   ·exact .inr (.inl (by simp))
   ·rcases mem_put x t z h with e | e | ⟨q, hq, e⟩
    ·exact .inl e
    ·exact .inr (.inl (by simp [e]))
    ·exact .inr (.inr ⟨q, by simp [hq], e⟩)
  ·split at h
   ·rename_i he
    rcases List.mem_cons.1 h with rfl | h
    ·exact .inr (.inr ⟨y, by simp, he, rfl⟩)
    ·exact .inr (.inl (by simp [h]))
   ·rcases List.mem_cons.1 h with rfl | h
    ·exact .inl rfl
    ·exact .inr (.inl h)
theorem put_lo (x : It) (c : Nat) (hc : c < kc x) : ∀ L, (∀ y ∈ L, c < kc y) → ∀ z ∈ putL x L, c < kc z := by
 intro L h z hz
 rcases mem_put x L z hz with rfl | e | ⟨y, hy, _, rfl⟩
 ·exact hc
 ·exact h z e
 ·rw [kc_with]; exact h y hy
theorem put_asc (x : It) : ∀ L, Asc L → Asc (putL x L)
 | [], _ => by simp [putL, Asc]
 | y :: t, ha => by
  have h1 := List.pairwise_cons.1 ha
  unfold putL
  split
  ·rename_i hy
   exact List.pairwise_cons.2 ⟨put_lo x (kc y) hy t h1.1, put_asc x t h1.2⟩
  ·split
   ·exact List.pairwise_cons.2 ⟨fun z hz => by rw [kc_with]; exact h1.1 z hz, h1.2⟩
   ·rename_i h2 h3
    refine List.pairwise_cons.2 ⟨fun z hz => ?_, ha⟩
    rcases List.mem_cons.1 hz with rfl | e
    ·omega
    ·have := h1.1 z e; omega
theorem atL_pos : ∀ (L : List It) (c : Nat), Asc L → atL c L = if pos c L < L.length ∧ kc (atI L (pos c L)) = c then (atI L (pos c L)).n else 0
 | [], c, _ => by simp [atL]
 | y :: t, c, ha => by
  have h1 := List.pairwise_cons.1 ha
  unfold atL pos
  by_cases hy : kc y < c
  ·rw [if_neg (by omega), if_pos hy, atI_succ, atL_pos t c h1.2]
   simp
  ·rw [if_neg hy, atI_zero]
   by_cases he : kc y = c
   ·simp [he]
   ·rw [if_neg he, if_neg (fun e => he e.2)]
    have : ∀ z ∈ t, c < kc z := fun z hz => by have := h1.1 z hz; omega
    clear h1 ha
    induction t with
    | nil => rfl
    | cons z r ih =>
     unfold atL
     rw [if_neg (by have := this z (by simp); omega)]
     exact ih fun q hq => this q (by simp [hq])
theorem atL_mem : ∀ (L : List It), Asc L → ∀ x ∈ L, atL (kc x) L = x.n
 | [], _, x, h => by simp at h
 | y :: t, ha, x, h => by
  have h1 := List.pairwise_cons.1 ha
  unfold atL
  rcases List.mem_cons.1 h with rfl | e
  ·rw [if_pos rfl]
  ·rw [if_neg (by have := h1.1 x e; omega)]
   exact atL_mem t h1.2 x e
theorem atL_none (c : Nat) : ∀ (L : List It), (∀ x ∈ L, kc x ≠ c) → atL c L = 0
 | [], _ => rfl
 | y :: t, h => by
  unfold atL
  rw [if_neg (h y (by simp))]
  exact atL_none c t fun x hx => h x (by simp [hx])
theorem keep_asc (m : Int) (L : List It) (h : Asc L) : Asc (keepL m L) := h.filter _
theorem mem_keep (m : Int) (L : List It) (x : It) : x ∈ keepL m L ↔ x ∈ L ∧ m < x.n := by simp [keepL]
theorem put_len (x : It) : ∀ L, (putL x L).length ≤ L.length + 1
 | [] => by simp [putL]
 | y :: t => by
  have := put_len x t
  unfold putL
  (repeat' split) <;> simp <;> omega
end Go.Proofs.YtgeinnaljlajoaaGreat.Vx
namespace Go.Proofs.YtgeinnaljlajoaaGreat.Vx
open Go.RowKit Go.Lib
set_option linter.unusedVariables false
set_option linter.unusedSimpArgs false
set_option maxRecDepth 20000
def TabAt (base : Nat) (w : World) (b : Nat) (most : Int) (v : Value) (L : List It) : Prop := base ≤ b ∧ w.cell? ⟨b, 0, none⟩ = some (.int .i64 most) ∧ w.cell? ⟨b, 1, none⟩ = some v ∧ w.frozen? ⟨b, 1, none⟩ = false ∧ Own base w v L ∧ v.ownBlock ≠ some b
theorem TabAt.old {base : Nat} {w w' : World} {b : Nat} {most : Int} {v : Value} {L : List It} (h : TabAt base w b most v L) (u : Old w w') : TabAt base w' b most v L := ⟨h.1, u.keep h.2.1, u.keep h.2.2.1, u.keepF h.2.2.1 h.2.2.2.1, h.2.2.2.2.1.old u, h.2.2.2.2.2⟩
theorem TabAt.chg {base : Nat} {S : List Nat} {w w' : World} {b : Nat} {most : Int} {v : Value} {L : List It} (h : TabAt base w b most v L) (u : Chg S w w') (h1 : b ∉ S) (h2 : ∀ g, v.ownBlock = some g → g ∉ S) : TabAt base w' b most v L :=
 ⟨h.1, u.cell h.2.1 h1, u.cell h.2.2.1 h1, u.keepF h.2.2.1 h.2.2.2.1 h1, h.2.2.2.2.1.chg u h2, h.2.2.2.2.2⟩
theorem TabAt.lt {base : Nat} {w : World} {b : Nat} {most : Int} {v : Value} {L : List It} (h : TabAt base w b most v L) : b < w.heap.size := World.block_lt_of_cell? w _ h.2.1
def blks (b : Nat) (v : Value) : List Nat := b :: v.ownBlock.toList
theorem mem_blks {b : Nat} {v : Value} {k : Nat} : k ∈ blks b v ↔ k = b ∨ v.ownBlock = some k := by simp [blks, Option.mem_toList]
theorem TabAt.blk {base : Nat} {w : World} {b : Nat} {most : Int} {v : Value} {L : List It} (h : TabAt base w b most v L) : ∀ k, k ∈ blks b v → base ≤ k ∧ k < w.heap.size := by
 intro k hk
 rcases mem_blks.1 hk with rfl | e
 ·exact ⟨h.1, h.lt⟩
 ·exact h.2.2.2.2.1.lt k e
theorem TabAt.store {base : Nat} {w w' : World} {b : Nat} {most : Int} {v v' : Value} {L L' : List It} (h : TabAt base w b most v L) (c : Chg v.ownBlock.toList w w') (ho : Own base w' v' L') (hn : ∀ g, v'.ownBlock = some g → v.ownBlock = some g ∨ w.heap.size ≤ g) :
    TabAt base (w'.setCell ⟨b, 1, none⟩ v') b most v' L' ∧ Chg (blks b v) w (w'.setCell ⟨b, 1, none⟩ v') := by
 have hb : b ∉ v.ownBlock.toList := fun e => h.2.2.2.2.2 (by simpa [Option.mem_toList] using e)
 have hne : v'.ownBlock ≠ some b := fun e => by
  rcases hn b e with q | q
  ·exact h.2.2.2.2.2 q
  ·have := h.lt; omega
 have c0 := c.cell h.2.1 hb
 have c1 := c.cell h.2.2.1 hb
 have hC : Chg [b] w' (w'.setCell ⟨b, 1, none⟩ v') := Chg.set w' ⟨b, 1, none⟩ v' (by simp)
 refine ⟨⟨h.1, ?_, World.cell?_setCell_same _ _ _ c1, ?_, ho.chg hC (fun g hg => by simp; intro e; exact hne (by rw [← e]; exact hg)), hne⟩, ?_⟩
 ·rw [World.cell?_setCell_other _ _ _ _ (by simp)]; exact c0
 ·rw [World.frozen?_setCell]; exact c.keepF h.2.2.1 h.2.2.2.1 hb
 ·exact (c.mono fun k hk _ => by simp [blks]; exact .inr (by simpa using hk)).trans (hC.mono fun k hk _ => by simp at hk; simp [blks, hk])
def mostC (m : Int) : Int := max 0 (min m 64)
theorem tab_new (w : World) (m q : Int) {g : Nat} (hg : w.heap.size = g) (h : m = q) : TabAt g (w.alloc (.cells #[.int .i64 q, .slice none 0 0] 123)) g m (.slice none 0 0) [] := by
 subst hg h
 have hh := alloc_heap w (.cells #[.int .i64 m, .slice none 0 0] 123) _ rfl
 exact ⟨Nat.le_refl _, by rw [cell_of_heap hh]; rfl, by rw [cell_of_heap hh]; rfl, frozen_of_heap hh _, Own.nil _ _, by simp [Value.ownBlock]⟩
attribute [local go_sem] run_store_float
set_option maxHeartbeats 400000 in
theorem new_any (m : Int) (w : World) :
    Calls Tryz.prog 46 #[.int .i64 m] w fun e w' => e = .returned (.pointer (some ⟨w.heap.size, 0, none⟩)) ∧ TabAt w.heap.size w' w.heap.size (mostC m) (.slice none 0 0) [] ∧ Old w w' := by
 go_enter Tryz.func46, Tryz.ntmps46
 go_wp2
 all_goals go_ret
 all_goals exact ⟨rfl, tab_new w _ _ rfl (by unfold mostC; omega), (Old.refl w).alloc _⟩
set_option maxHeartbeats 400000 in
theorem clear_any (base b : Nat) (most : Int) (v : Value) (L : List It) (w : World) (h : TabAt base w b most v L) :
    Calls Tryz.prog 205 #[.pointer (some ⟨b, 0, none⟩)] w fun e w' => e = .returned (.tuple #[]) ∧ TabAt base w' b most (.slice none 0 0) [] ∧ Chg (blks b v) w w' := by
 have HE := hid (h.store (v' := .slice none 0 0) (L' := []) (Chg.refl _ w) (Own.nil _ _) (fun g hg => by simp [Value.ownBlock] at hg))
 obtain ⟨hb, h0, h1, hf, ho, hne⟩ := h
 clear ho
 go_enter Tryz.func205, Tryz.ntmps205
 go_wp2
 exact bodyPost_end (v := .tuple #[]) (by simp [results, Tryz.results205, go_sem]) rfl ⟨rfl, HE.out.1, HE.out.2⟩
end Go.Proofs.YtgeinnaljlajoaaGreat.Vx
namespace Go.Proofs.YtgeinnaljlajoaaGreat.Vx
open Go.RowKit Go.Lib
set_option linter.unusedVariables false
set_option linter.unusedSimpArgs false
set_option maxRecDepth 20000
def Good (L : List It) : Prop := Asc L ∧ ∀ x ∈ L, Fl.W x.k ∧ Fl.nan x.k = false ∧ Fl.canon x.k = x.k ∧ 1 ≤ x.n ∧ x.n ≤ 1099511627776
theorem Good.at {L : List It} (h : Good L) (i : Nat) (hi : i < L.length) : Fl.W (atI L i).k ∧ Fl.nan (atI L i).k = false ∧ Fl.canon (atI L i).k = (atI L i).k ∧ 1 ≤ (atI L i).n ∧ (atI L i).n ≤ 1099511627776 := by
 rw [atI_get L i hi]; exact h.2 _ (List.getElem_mem hi)
def there (c : Nat) (L : List It) : Bool := decide (pos c L < L.length) && decide (kc (atI L (pos c L)) = c)
abbrev F1 (kb tb b g n cap i key : Nat) (x : It) (w : World) : Prop := w.cell? ⟨kb, 0, none⟩ = some (.float .f64 key) ∧ w.cell? ⟨tb, 0, none⟩ = some (.pointer (some ⟨b, 0, none⟩)) ∧ w.cell? ⟨b, 1, none⟩ = some (.slice (some ⟨g, 0, none⟩) n cap) ∧ w.cell? ⟨g, i * 2, none⟩ = some (.float .f64 x.k)
theorem F1.old {kb tb b g n cap i key : Nat} {x : It} {w w' : World} (u : Old w w') (h : F1 kb tb b g n cap i key x w) : F1 kb tb b g n cap i key x w' := ⟨u.keep h.1, u.keep h.2.1, u.keep h.2.2.1, u.keep h.2.2.2⟩
theorem cmp_old (a b : Nat) (ha : Fl.W a) (hb : Fl.W b) (w : World) : Calls Tryz.prog 130 #[.float .f64 a, .float .f64 b] w fun e w' => e = .returned (.int .i64 (Fl.cmpc a b)) ∧ Old w w' := (cmp_any a b ha hb w).mono fun e w' h => ⟨h.1, by rw [h.2]; exact Old.refl _⟩
attribute [local go_sem] run_bits run_frombits run_store_float
set_option maxHeartbeats 1000000 in
theorem find1_any (base b kb tb : Nat) (most : Int) (v : Value) (L : List It) (key i : Nat) (hk : Fl.W key) (w : World) (h : TabAt base w b most v L) (hL : L.length ≤ 1000000) (hi : i < L.length) (hx : Fl.W (atI L i).k) (h1 : w.cell? ⟨kb, 0, none⟩ = some (.float .f64 key)) (h2 : w.cell? ⟨tb, 0, none⟩ = some (.pointer (some ⟨b, 0, none⟩))) :
    Calls Tryz.prog 129 #[.int .i64 (i : Nat), .pointer (some ⟨kb, 0, none⟩), .pointer (some ⟨tb, 0, none⟩)] w fun e w' => e = .returned (.int .i64 (Fl.cmpc key (atI L i).k)) ∧ Old w w' := by
 obtain ⟨hb, h0, hv, hf, ho, hne⟩ := h
 obtain ⟨g, cap, rfl, hgb, hgl, hit, hfz⟩ := ho.shape (by omega)
 obtain ⟨c0, c1⟩ := hit i hi
 have l1 : (0 : Int) ≤ (i : Int) := by omega
 have l2 : (i : Int) < ((L.length : Nat) : Int) := by omega
 have hbN : L.length ≤ 9223372036854775807 := by omega
 have HS := hid (show F1 kb tb b g L.length cap i key (atI L i) w from ⟨h1, h2, hv, c0⟩)
 clear ho hit hfz h0 hf c0 c1 h1 h2 hv
 go_enter Tryz.func129, Tryz.ntmps129
 go_upto_region 1 with fail
 go_region_held3 (F1 kb tb b g L.length cap i key (atI L i)) (first | assumption | exact HS.out | exact F1.old ((Old.refl w).drew) HS.out | (refine F1.old ?_ HS.out; assumption)) (first | (go_at_call 130; refine (cmp_old _ _ hk hx _).mono ?_; rintro e w1 ⟨rfl, u1⟩; have U1 : Old w w1 := ((Old.refl w).drew).trans u1))
 all_goals go_wp2
 all_goals go_ret
 all_goals exact ⟨rfl, U1⟩
set_option maxHeartbeats 1000000 in
theorem find_t (base b : Nat) (most : Int) (v : Value) (L : List It) (key : Nat) (hk : Fl.W key) (w : World) (h : TabAt base w b most v L) (hG : Good L) (hL : L.length ≤ 1000000) :
    Calls Tryz.prog 110 #[.pointer (some ⟨b, 0, none⟩), .float .f64 key] w fun e w' => e = .returned (.tuple #[.int .i64 (pos (Fl.code key) L : Nat), .bool (there (Fl.code key) L)]) ∧ Old w w' := by
 have hO : Old w ((w.alloc (.cells #[.pointer (some ⟨b, 0, none⟩)] 52)).alloc (.cells #[.float .f64 key] 37)) := ((Old.refl w).alloc _).alloc _
 have e1 : ((w.alloc (.cells #[.pointer (some ⟨b, 0, none⟩)] 52)).alloc (.cells #[.float .f64 key] 37)).cell? ⟨w.heap.size, 0, none⟩ = some (.pointer (some ⟨b, 0, none⟩)) := by simp
 have e2 : ((w.alloc (.cells #[.pointer (some ⟨b, 0, none⟩)] 52)).alloc (.cells #[.float .f64 key] 37)).cell? ⟨w.heap.size + 1, 0, none⟩ = some (.float .f64 key) := by simp
 have HO := hid hO
 have E1 := hid e1
 have E2 := hid e2
 have HT := hid (h.old hO)
 clear hO e1 e2 h
 have hN : L.length ≤ 4611686018427387903 := by omega
 go_enter Tryz.func110, Tryz.ntmps110
 go_upto_region 1 with fail
 generalize ((w.alloc (.cells #[.pointer (some ⟨b, 0, none⟩)] 52)).alloc (.cells #[.float .f64 key] 37)) = w2 at *
 have HF := hid (find_v L.length (fun i => Fl.cmpc key (atI L i).k) (pos (Fl.code key) L) (there (Fl.code key) L) (.pointer (some ⟨w.heap.size + 1, 0, none⟩)) (.pointer (some ⟨w.heap.size, 0, none⟩)) w2 hN (pos_le _ _)
  (fun i hi => by have := pos_lt _ L i hi; show (0 : Int) < Fl.cmpc key (atI L i).k; rw [Fl.cmpc_gt _ _ this]; decide)
  (fun i h1 h2 => by
   have := pos_ge _ L hG.1 i h1 h2
   have q := Fl.cmpc_cases key (atI L i).k
   show Fl.cmpc key (atI L i).k ≤ 0
   unfold kc at this
   omega)
  (by
   unfold there
   by_cases hp : pos (Fl.code key) L < L.length
   ·have q := Fl.cmpc_cases key (atI L (pos (Fl.code key) L)).k
    simp only [hp, decide_true, Bool.true_and]
    unfold kc
    congr 1
    apply propext
    constructor <;> intro e <;> omega
   ·simp [hp])
  (fun i hi W hW => find1_any base b (w.heap.size + 1) w.heap.size most v L key i hk W (HT.out.old hW) hL hi (hG.at i hi).1 (hW.keep E2.out) (hW.keep E1.out)))
 obtain ⟨hb, h0, hv, hf, ho, hne⟩ := HT.out
 obtain ⟨a, c, hva⟩ := ho.len
 subst hva
 have d1 := E1.out
 go_wp2_with (go_at_call 128; refine HF.out.mono ?_; rintro e w3 ⟨rfl, u3⟩; have U3 := hid u3; clear u3)
 exact bodyPost_ret (v := .tuple #[.int .i64 (pos (Fl.code key) L : Nat), .bool (there (Fl.code key) L)]) (by simp [results, Tryz.results110, go_sem]) rfl ⟨rfl, HO.out.trans U3.out⟩
set_option maxHeartbeats 1000000 in
theorem at_any (base b : Nat) (most : Int) (v : Value) (L : List It) (key : Nat) (hk : Fl.W key) (w : World) (h : TabAt base w b most v L) (hG : Good L) (hL : L.length ≤ 1000000) :
    Calls Tryz.prog 84 #[.pointer (some ⟨b, 0, none⟩), .float .f64 key] w fun e w' => e = .returned (.int .i64 (atL (Fl.code key) L)) ∧ Old w w' := by
 have HF := hid (find_t base b most v L key hk w h hG hL)
 have HA := hid (atL_pos L (Fl.code key) hG.1)
 have HT := hid h
 have hp := pos_le (Fl.code key) L
 by_cases ht : there (Fl.code key) L = true
 ·have hpl : pos (Fl.code key) L < L.length := by simp [there] at ht; exact ht.1
  have hkp : kc (atI L (pos (Fl.code key) L)) = Fl.code key := by simp [there] at ht; exact ht.2
  have HA2 := hid (show atL (Fl.code key) L = (atI L (pos (Fl.code key) L)).n by rw [HA.out, if_pos ⟨hpl, hkp⟩])
  rw [ht] at HF
  clear hkp hG h HA ht
  generalize pos (Fl.code key) L = p at *
  have l1 : (0 : Int) ≤ (p : Int) := by omega
  have l2 : (p : Int) < ((L.length : Nat) : Int) := by omega
  have hbN : L.length ≤ 9223372036854775807 := by omega
  go_enter Tryz.func84, Tryz.ntmps84
  go_upto_region 3 with (go_at_call 110; refine HF.out.mono ?_; rintro e w3 ⟨rfl, u3⟩; have U3 := hid u3; clear u3)
  obtain ⟨hb, h0, hv, hf, ho, hne⟩ := HT.out.old U3.out
  obtain ⟨g, cap, rfl, hgb, hgl, hit, hfz⟩ := ho.shape (by omega)
  obtain ⟨c0, c1⟩ := hit p hpl
  clear ho hit hfz
  go_wp2
  go_ret
  exact ⟨ret_i HA2.out.symm, U3.out⟩
 ·have ht2 : there (Fl.code key) L = false := by simpa using ht
  have HA2 := hid (show atL (Fl.code key) L = 0 by rw [HA.out, if_neg (fun e => ht (by simp [there, e.1, e.2]))])
  rw [ht2] at HF
  clear hG h HA ht ht2
  generalize pos (Fl.code key) L = p at *
  go_enter Tryz.func84, Tryz.ntmps84
  go_wp2_with (go_at_call 110; refine HF.out.mono ?_; rintro e w3 ⟨rfl, u3⟩; have U3 := hid u3; clear u3)
  go_ret
  exact ⟨ret_i HA2.out.symm, U3.out⟩
end Go.Proofs.YtgeinnaljlajoaaGreat.Vx
namespace Go.Proofs.YtgeinnaljlajoaaGreat.Vx
open Go.RowKit Go.Lib
set_option linter.unusedVariables false
set_option linter.unusedSimpArgs false
set_option maxRecDepth 20000
theorem stepCall1 {P : Program} {ops : Array Oper} {o : Oper} {a : Act} {w : World} {K : Act → World → Prop} {Q : Exit → Act → World → Prop} {E : Prop} (hg : o.guard = none) (F : FuncId) (x : Operand) (ts : Array TypeId)
    (hop : o.op = Op.call { callee := Callee.value (Operand.func F), args := #[x], argTypes := ts }) (u : Value) (hx : a.eval x = u) (hF : a.eval (Operand.func F) = .func (.func F) #[] #[])
    (henter : (callFunc F #[u]).run P w = .ok (.enter F #[u]) w)
    (hc : Calls P F #[u] w fun e w' => ∃ r, e = .returned r ∧ K (a.put o.dst r) w') :
    if Region.wanted o (yielded ops a.tmps) = true then Oper.wp P o a w K Q else E := by
 have hw : Region.wanted o (yielded ops a.tmps) = true := by simp [Region.wanted, hg]
 rw [if_pos hw]
 unfold Oper.wp
 simp [execOp, hop, resolve, invoke, hx, hF, Deferred.ofValue]
 rw [henter]
 refine hc.mono ?_
 rintro e w' ⟨r, rfl, hk⟩
 exact hk
theorem stepCall2 {P : Program} {ops : Array Oper} {o : Oper} {a : Act} {w : World} {K : Act → World → Prop} {Q : Exit → Act → World → Prop} {E : Prop} (hg : o.guard = none) (F : FuncId) (x y : Operand) (ts : Array TypeId)
    (hop : o.op = Op.call { callee := Callee.value (Operand.func F), args := #[x, y], argTypes := ts }) (u v : Value) (hx : a.eval x = u) (hy : a.eval y = v) (hF : a.eval (Operand.func F) = .func (.func F) #[] #[])
    (henter : (callFunc F #[u, v]).run P w = .ok (.enter F #[u, v]) w)
    (hc : Calls P F #[u, v] w fun e w' => ∃ r, e = .returned r ∧ K (a.put o.dst r) w') :
    if Region.wanted o (yielded ops a.tmps) = true then Oper.wp P o a w K Q else E := by
 have hw : Region.wanted o (yielded ops a.tmps) = true := by simp [Region.wanted, hg]
 rw [if_pos hw]
 unfold Oper.wp
 simp [execOp, hop, resolve, invoke, hx, hy, hF, Deferred.ofValue]
 rw [henter]
 refine hc.mono ?_
 rintro e w' ⟨r, rfl, hk⟩
 exact hk
theorem stepCall3 {P : Program} {ops : Array Oper} {o : Oper} {a : Act} {w : World} {K : Act → World → Prop} {Q : Exit → Act → World → Prop} {E : Prop} (hg : o.guard = none) (F : FuncId) (x y z : Operand) (ts : Array TypeId)
    (hop : o.op = Op.call { callee := Callee.value (Operand.func F), args := #[x, y, z], argTypes := ts }) (u v t : Value) (hx : a.eval x = u) (hy : a.eval y = v) (hz : a.eval z = t) (hF : a.eval (Operand.func F) = .func (.func F) #[] #[])
    (henter : (callFunc F #[u, v, t]).run P w = .ok (.enter F #[u, v, t]) w)
    (hc : Calls P F #[u, v, t] w fun e w' => ∃ r, e = .returned r ∧ K (a.put o.dst r) w') :
    if Region.wanted o (yielded ops a.tmps) = true then Oper.wp P o a w K Q else E := by
 have hw : Region.wanted o (yielded ops a.tmps) = true := by simp [Region.wanted, hg]
 rw [if_pos hw]
 unfold Oper.wp
 simp [execOp, hop, resolve, invoke, hx, hy, hz, hF, Deferred.ofValue]
 rw [henter]
 refine hc.mono ?_
 rintro e w' ⟨r, rfl, hk⟩
 exact hk
set_option maxHeartbeats 400000 in
theorem stepLoadS {ops : Array Oper} {o : Oper} {a : Act} {w : World} {K : Act → World → Prop} {Q : Exit → Act → World → Prop} {E : Prop} (hg : o.guard = none) (x : Operand) (hop : o.op = Op.load 121 x) (b off : Nat) (p : Option Addr) (n c : Nat)
    (hx : a.eval x = .pointer (some ⟨b, off, none⟩)) (hc : w.cell? ⟨b, off, none⟩ = some (.slice p n c)) (hK : K (a.put o.dst (.slice p n c)) w) :
    if Region.wanted o (yielded ops a.tmps) = true then Oper.wp Tryz.prog o a w K Q else E := by
 have hw : Region.wanted o (yielded ops a.tmps) = true := by simp [Region.wanted, hg]
 rw [if_pos hw]
 obtain ⟨d, q, t, ps, af, gd⟩ := o
 subst hop
 unfold Oper.wp execOp
 simp only [hx]
 go_simp
 exact hK
set_option maxHeartbeats 400000 in
theorem stepLoadN {ops : Array Oper} {o : Oper} {a : Act} {w : World} {K : Act → World → Prop} {Q : Exit → Act → World → Prop} {E : Prop} (hg : o.guard = none) (x : Operand) (hop : o.op = Op.load 2 x) (b off : Nat) (v : Int)
    (hx : a.eval x = .pointer (some ⟨b, off, none⟩)) (hc : w.cell? ⟨b, off, none⟩ = some (.int .i64 v)) (hK : K (a.put o.dst (.int .i64 v)) w) :
    if Region.wanted o (yielded ops a.tmps) = true then Oper.wp Tryz.prog o a w K Q else E := by
 have hw : Region.wanted o (yielded ops a.tmps) = true := by simp [Region.wanted, hg]
 rw [if_pos hw]
 obtain ⟨d, q, t, ps, af, gd⟩ := o
 subst hop
 unfold Oper.wp execOp
 simp only [hx]
 go_simp
 exact hK
set_option maxHeartbeats 400000 in
theorem stepStoreN {ops : Array Oper} {o : Oper} {a : Act} {w : World} {K : Act → World → Prop} {Q : Exit → Act → World → Prop} {E : Prop} (hg : o.guard = none) (x y : Operand) (hop : o.op = Op.store 2 x y) (m off : Nat) (v : Int)
    (hx : a.eval x = .pointer (some ⟨m, off, none⟩)) (hy : a.eval y = .int .i64 v) {z : Value} (hz : w.cell? ⟨m, off, none⟩ = some z) (hf : w.frozen? ⟨m, off, none⟩ = false)
    (hK : K (a.put o.dst undef) (w.setCell ⟨m, off, none⟩ (.int .i64 v))) :
    if Region.wanted o (yielded ops a.tmps) = true then Oper.wp Tryz.prog o a w K Q else E := by
 have hw : Region.wanted o (yielded ops a.tmps) = true := by simp [Region.wanted, hg]
 rw [if_pos hw]
 obtain ⟨d, q, t, ps, af, gd⟩ := o
 subst hop
 unfold Oper.wp execOp
 simp only [hx, hy]
 go_simp
 exact hK
set_option maxHeartbeats 400000 in
theorem stepStoreS {ops : Array Oper} {o : Oper} {a : Act} {w : World} {K : Act → World → Prop} {Q : Exit → Act → World → Prop} {E : Prop} (hg : o.guard = none) (x y : Operand) (hop : o.op = Op.store 121 x y) (m off : Nat) (p : Option Addr) (n c : Nat)
    (hx : a.eval x = .pointer (some ⟨m, off, none⟩)) (hy : a.eval y = .slice p n c) {z : Value} (hz : w.cell? ⟨m, off, none⟩ = some z) (hf : w.frozen? ⟨m, off, none⟩ = false)
    (hK : K (a.put o.dst undef) (w.setCell ⟨m, off, none⟩ (.slice p n c))) :
    if Region.wanted o (yielded ops a.tmps) = true then Oper.wp Tryz.prog o a w K Q else E := by
 have hw : Region.wanted o (yielded ops a.tmps) = true := by simp [Region.wanted, hg]
 rw [if_pos hw]
 obtain ⟨d, q, t, ps, af, gd⟩ := o
 subst hop
 unfold Oper.wp execOp
 simp only [hx, hy]
 go_simp
 exact hK
set_option maxHeartbeats 400000 in
theorem stepBuildI {ops : Array Oper} {o : Oper} {a : Act} {w : World} {K : Act → World → Prop} {Q : Exit → Act → World → Prop} {E : Prop} (hg : o.guard = none) (y : Operand) (hop : o.op = Op.buildSlice 121 1 #[(0, y)]) (x : It)
    (hx : a.eval y = .agg #[.float .f64 x.k, .int .i64 x.n])
    (hK : ∀ m w', m = w.heap.size → w' = w.alloc (.cells (itc x).toArray 152) → K (a.put o.dst (.slice (some ⟨m, 0, none⟩) 1 1)) w') :
    if Region.wanted o (yielded ops a.tmps) = true then Oper.wp Tryz.prog o a w K Q else E := by
 have hw : Region.wanted o (yielded ops a.tmps) = true := by simp [Region.wanted, hg]
 rw [if_pos hw]
 obtain ⟨d, p, t, ps, af, gd⟩ := o
 subst hop
 unfold Oper.wp execOp
 simp only [List.map_toArray, List.map_cons, List.map_nil, hx]
 go_simp
 exact hK _ _ rfl rfl
theorem wantCall1 {P : Program} {ops : Array Oper} {o : Oper} {a : Act} {w : World} {K : Act → World → Prop} {Q : Exit → Act → World → Prop} {E : Prop} (hw : Region.wanted o (yielded ops a.tmps) = true) (F : FuncId) (x : Operand) (ts : Array TypeId)
    (hop : o.op = Op.call { callee := Callee.value (Operand.func F), args := #[x], argTypes := ts }) (v : Value) (hx : a.eval x = v) (hF : a.eval (Operand.func F) = .func (.func F) #[] #[])
    (henter : (callFunc F #[v]).run P w = .ok (.enter F #[v]) w)
    (hc : Calls P F #[v] w fun e w' => ∃ r, e = .returned r ∧ K (a.put o.dst r) w') :
    if Region.wanted o (yielded ops a.tmps) = true then Oper.wp P o a w K Q else E := by
 rw [if_pos hw]
 unfold Oper.wp
 simp [execOp, hop, resolve, invoke, hx, hF, Deferred.ofValue]
 rw [henter]
 refine hc.mono ?_
 rintro e w' ⟨r, rfl, hk⟩
 exact hk
theorem wantCall2 {P : Program} {ops : Array Oper} {o : Oper} {a : Act} {w : World} {K : Act → World → Prop} {Q : Exit → Act → World → Prop} {E : Prop} (hw : Region.wanted o (yielded ops a.tmps) = true) (F : FuncId) (x y : Operand) (ts : Array TypeId)
    (hop : o.op = Op.call { callee := Callee.value (Operand.func F), args := #[x, y], argTypes := ts }) (u v : Value) (hx : a.eval x = u) (hy : a.eval y = v) (hF : a.eval (Operand.func F) = .func (.func F) #[] #[])
    (henter : (callFunc F #[u, v]).run P w = .ok (.enter F #[u, v]) w)
    (hc : Calls P F #[u, v] w fun e w' => ∃ r, e = .returned r ∧ K (a.put o.dst r) w') :
    if Region.wanted o (yielded ops a.tmps) = true then Oper.wp P o a w K Q else E := by
 rw [if_pos hw]
 unfold Oper.wp
 simp [execOp, hop, resolve, invoke, hx, hy, hF, Deferred.ofValue]
 rw [henter]
 refine hc.mono ?_
 rintro e w' ⟨r, rfl, hk⟩
 exact hk
theorem ent_ins (args : Array Value) (w : World) : (callFunc 116 args).run Tryz.prog w = .ok (.enter 116 args) w := by kernel_rfl
theorem itcs_set (m : Int) : ∀ (L : List It) (p : Nat), p < L.length → itcs (L.set p (withN (atI L p) m)) = (itcs L).set (p * 2 + (2 - 1)) (.int .i64 m)
 | [], p, h => by simp at h
 | y :: t, 0, _ => by
  rw [List.set_cons_zero, itcs_cons, itcs_cons, atI_zero, Nat.zero_mul, Nat.zero_add, List.set_append_left _ _ (by rw [itc_len]; decide)]
  rfl
 | y :: t, p + 1, h => by
  rw [List.set_cons_succ, itcs_cons, itcs_cons, atI_succ, itcs_set m t p (by simpa using h), List.set_append_right _ _ (by rw [itc_len]; omega), itc_len]
  congr 2
  omega
theorem Own.setN {base : Nat} {w : World} {g n cap p : Nat} {L : List It} (h : Own base w (.slice (some ⟨g, 0, none⟩) n cap) L) (hp : p < L.length) (m : Int) : Own base (w.setCell ⟨g, p * 2 + (2 - 1), none⟩ (.int .i64 m)) (.slice (some ⟨g, 0, none⟩) n cap) (L.set p (withN (atI L p) m)) := by
 rcases h.2 with ⟨e, _⟩ | ⟨g', cap', cur, e, hb, hg, hnc, hcm, hcs, htk⟩
 ·cases e
 ·simp only [Value.slice.injEq, Option.some.injEq, Addr.mk.injEq] at e
  obtain ⟨⟨rfl, _, _⟩, rfl, rfl⟩ := e
  rw [setCell_eq_setRow w g _ cur _ _ _ hg]
  have hl : (L.set p (withN (atI L p) m)).length = L.length := List.length_set ..
  have hr : RowIs (w.setRow g (cur.setIfInBounds (p * 2 + (2 - 1)) (.int .i64 m))) g L.length cap (cur.setIfInBounds (p * 2 + (2 - 1)) (.int .i64 m)) (L.set p (withN (atI L p) m)) := by
   refine ⟨setRow_heap w g cur _ _ _ hg, hl.symm, hnc, hcm, by simp [hcs], ?_⟩
   rw [itcs_set m L p hp, ← htk, Array.toList_setIfInBounds, List.take_set]
  exact hr.own hb
end Go.Proofs.YtgeinnaljlajoaaGreat.Vx
