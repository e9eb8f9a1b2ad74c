/- Rows of items that the call owns; slices.Insert of one item; conditions: the lengths fit. -/
import Derived.Test.YtefffjlcfghniaaZa
import Derived.Lib.Overlaps
import Derived.Lib.AppendZerosOnto
import Derived.Lib.JoinLaws
import Derived.Lib.SliceRun
import Derived.Laws.Externs
import Derived.Laws.IdiomCopy
import Derived.Shelf.RegionOpenPlain
import Derived.Laws.NewBlocks
namespace Go.Proofs.Ytefffjlcfghniaa
open Go.RowKit Go.Lib
set_option linter.unusedVariables false
structure It where
  n : Int
  c : Int
  m : Int
def itc (x : It) : List Value := [.int .i64 x.n, .int .i64 x.c, .int .i64 x.m]
def itcs (L : List It) : List Value := L.flatMap itc
theorem flat_len {α : Type} (c : α → List Value) (k : Nat) (hk : ∀ x, (c x).length = k) : ∀ L : List α, (L.flatMap c).length = L.length * k
  | [] => by simp
  | x :: t => by rw [List.flatMap_cons, List.length_append, hk, flat_len c k hk t, List.length_cons, Nat.add_mul]; omega
theorem flat_get {α : Type} (c : α → List Value) (k : Nat) (hk : ∀ x, (c x).length = k) : ∀ (L : List α) (i j : Nat) (hi : i < L.length), j < k → (L.flatMap c)[i * k + j]? = (c L[i])[j]?
  | [], i, _, hi, _ => by simp at hi
  | x :: t, 0, j, _, hj => by
    rw [List.flatMap_cons, List.getElem?_append_left (by rw [hk]; omega)]; simp
  | x :: t, i + 1, j, hi, hj => by
    rw [List.flatMap_cons, List.getElem?_append_right (by rw [hk, Nat.add_mul]; omega), hk]
    rw [show (i + 1) * k + j - k = i * k + j by rw [Nat.add_mul]; omega]
    rw [flat_get c k hk t i j (by simpa using hi) hj]
    simp
theorem flat_take {α : Type} (c : α → List Value) (k : Nat) (hk : ∀ x, (c x).length = k) : ∀ (L : List α) (i : Nat), (L.flatMap c).take (i * k) = (L.take i).flatMap c
  | [], i => by simp
  | x :: t, 0 => by simp
  | x :: t, i + 1 => by
    rw [List.flatMap_cons, List.take_succ_cons, List.flatMap_cons, ← flat_take c k hk t i, List.take_append, hk, List.take_of_length_le (by rw [hk, Nat.add_mul]; omega), show (i + 1) * k - k = i * k by rw [Nat.add_mul]; omega]
theorem flat_drop {α : Type} (c : α → List Value) (k : Nat) (hk : ∀ x, (c x).length = k) : ∀ (L : List α) (i : Nat), (L.flatMap c).drop (i * k) = (L.drop i).flatMap c
  | [], i => by simp
  | x :: t, 0 => by simp
  | x :: t, i + 1 => by
    rw [List.flatMap_cons, List.drop_succ_cons, ← flat_drop c k hk t i, List.drop_append, hk, List.drop_eq_nil_of_le (by rw [hk, Nat.add_mul]; omega), show (i + 1) * k - k = i * k by rw [Nat.add_mul]; omega, List.nil_append]
theorem itc_len (x : It) : (itc x).length = 3 := rfl
theorem itcs_len (L : List It) : (itcs L).length = L.length * 3 := flat_len itc 3 itc_len L
theorem itcs_app (L M : List It) : itcs L ++ itcs M = itcs (L ++ M) := by simp [itcs]
theorem itcs_cons (x : It) (L : List It) : itcs (x :: L) = itc x ++ itcs L := by simp [itcs]
theorem itcs_one1 (x : It) : itcs [x] = itc x := by simp [itcs]
theorem itcs_take (L : List It) (i : Nat) : (itcs L).take (i * 3) = itcs (L.take i) := flat_take itc 3 itc_len L i
theorem itcs_drop (L : List It) (i : Nat) : (itcs L).drop (i * 3) = itcs (L.drop i) := flat_drop itc 3 itc_len L i
theorem itc_one (x : It) : ∀ u ∈ itc x, u.oneCell' = true := by
  intro u h
  simp [itc] at h
  rcases h with rfl | rfl | rfl <;> rfl
theorem itcs_one (L : List It) : ∀ u ∈ itcs L, u.oneCell' = true := by
  intro u hu
  obtain ⟨s, _, h⟩ := List.mem_flatMap.1 hu
  exact itc_one s u h
theorem infoIt : (Try.prog.info? 71).map (fun i => (i.zero, i.size, i.bytes)) = some (some (.agg #[.int .i64 0, .int .i64 0, .int .i64 0]), 3, 24) := by kernel_rfl
/-- The slice value v owns items among the blocks from base on. -/
def Own (base : Nat) (w : World) (v : Value) (L : List It) : Prop := w.ownsRow base 71 3 v L.length (itcs L)
theorem Own.old {base : Nat} {w w' : World} {v : Value} {L : List It} (h : Own base w v L) (u : Old w w') : Own base w' v L := by
  refine ⟨h.1, ?_⟩
  rcases h.2 with e | ⟨g, cap, cur, e, hb', hg, r⟩
  · exact .inl e
  · exact .inr ⟨g, cap, cur, e, hb', u.block hg, r⟩
theorem Own.chg {base : Nat} {S : List Nat} {w w' : World} {v : Value} {L : List It} (h : Own base w v L) (u : Chg S w w') (hn : ∀ g, v.ownBlock = some g → g ∉ S) : Own base w' v L := by
  refine ⟨h.1, ?_⟩
  rcases h.2 with e | ⟨g, cap, cur, rfl, hb', hg, r⟩
  · exact .inl e
  · exact .inr ⟨g, cap, cur, rfl, hb', u.heapAt hg (hn g rfl), r⟩
theorem Own.lt {base : Nat} {w : World} {v : Value} {L : List It} (h : Own base w v L) (g : Nat) (hg : v.ownBlock = some g) : base ≤ g ∧ g < w.heap.size := World.ownsRow.lt h g hg
theorem Own.nil (base : Nat) (w : World) : Own base w (.slice none 0 0) [] := World.ownsRow_nil w base _ 3
theorem Own.len {base : Nat} {w : World} {v : Value} {L : List It} (h : Own base w v L) : ∃ a c, v = .slice a L.length c := by
  rcases h.2 with ⟨rfl, e⟩ | ⟨g, cap, cur, rfl, _⟩
  · exact ⟨none, 0, by rw [e]⟩
  · exact ⟨_, _, rfl⟩
/-- A row as its block has it. -/
def RowIs (w : World) (g n cap : Nat) (cur : Array Value) (L : List It) : Prop := w.heap[g]? = some (.cells cur 71 (0, 0)) ∧ n = L.length ∧ n ≤ cap ∧ cap ≤ maxLen ∧ cur.size = cap * 3 ∧ cur.toList.take (n * 3) = itcs L
theorem RowIs.own {w : World} {base g n cap : Nat} {cur : Array Value} {L : List It} (h : RowIs w g n cap cur L) (hb : base ≤ g) : Own base w (.slice (some ⟨g, 0, none⟩) n cap) L := by
  obtain ⟨h1, rfl, h3, h4, h5, h6⟩ := h
  exact ⟨itcs_len L, .inr ⟨g, cap, cur, rfl, hb, h1, h3, h4, h5, h6⟩⟩
theorem cell_of_heap {w : World} {g : Nat} {cur : Array Value} {t : TypeId} (h : w.heap[g]? = some (.cells cur t (0, 0))) (j : Nat) : w.cell? ⟨g, j, none⟩ = cur[j]? := by
  simp [World.cell?, h]
theorem frozen_of_heap {w : World} {g : Nat} {cur : Array Value} {t : TypeId} (h : w.heap[g]? = some (.cells cur t (0, 0))) (j : Nat) : w.frozen? ⟨g, j, none⟩ = false := by
  simp [World.frozen?, h]
theorem RowIs.cells {w : World} {g n cap : Nat} {cur : Array Value} {L : List It} (h : RowIs w g n cap cur L) : (∀ j u, (itcs L)[j]? = some u → w.cell? ⟨g, j, none⟩ = some u) ∧ (∀ j, j < cap * 3 → (w.cell? ⟨g, j, none⟩).isSome = true) ∧ ∀ j, w.frozen? ⟨g, j, none⟩ = false := by
  obtain ⟨h1, rfl, h3, h4, h5, h6⟩ := h
  refine ⟨fun j u hj => ?_, fun j hj => ?_, fun j => frozen_of_heap h1 j⟩
  · rw [cell_of_heap h1]
    have hl : j < L.length * 3 := by rw [← itcs_len L]; exact (List.getElem?_eq_some_iff.1 hj).1
    rw [← h6, List.getElem?_take, if_pos hl] at hj
    rw [← Array.getElem?_toList]; exact hj
  · rw [cell_of_heap h1, Array.getElem?_eq_getElem (by omega)]; rfl
theorem setCells_row {w : World} {g o : Nat} {cur : Array Value} {t : TypeId} {vs : List Value} (hg : w.heap[g]? = some (.cells cur t (0, 0))) (hf : o + vs.length ≤ cur.size) (h1 : ∀ v ∈ vs, v.oneCell' = true) : w.setCells g o vs = w.setRow g (cur.toList.take o ++ vs ++ cur.toList.drop (o + vs.length)).toArray := by
  have a := run_storeCells_cells (P := Try.prog) g o vs 0 w (fun j hj => by rw [cell_of_heap hg, Array.getElem?_eq_getElem (by omega)]; rfl) (fun j hj => frozen_of_heap hg _) h1
  have b := run_storeCells_at (P := Try.prog) g o t vs 0 cur w hg (by omega) h1
  rw [a] at b
  simp only [Result.ok.injEq, true_and, Nat.add_zero] at b
  exact b
theorem setRow_other (w : World) (g k : Nat) (cs : Array Value) (h : k ≠ g) : (w.setRow g cs).heap[k]? = w.heap[k]? := by
  simp only [World.setRow, Array.getElem?_modify]
  rw [if_neg (fun e => h e.symm)]
theorem Chg.setRow (w : World) (g : Nat) (cs : Array Value) (S : List Nat) (h : g ∈ S) : Chg S w (w.setRow g cs) := ⟨rfl, rfl, rfl, by simp [World.setRow], fun k hk hn => setRow_other w g k cs (fun e => hn (by rw [e]; exact h))⟩
theorem Chg.alloc {S : List Nat} {a w : World} (h : Chg S a w) (o : Obj) : Chg S a (w.alloc o) := h.trans (Chg.ofOld ((Old.refl w).alloc o))
theorem Chg.drew {S : List Nat} {a w : World} (h : Chg S a w) : Chg S a w.drew := ⟨h.os, h.tape, h.output, h.size, h.block⟩
theorem wp_copy_runI (w : World) {o : Oper} {a : Act} {K : Act → World → Prop} {Q : Exit → Act → World → Prop} (d s : Operand) (t t' : TypeId)
    (ho : o.op = .call { callee := .builtin .copy, args := #[d, s], argTypes := #[t, t'] }) (v u : Value) (hd : a.eval d = v) (hs : a.eval s = u) {v' : Value} {w' : World}
    (hr : (Builtin.copy_ #[t, t'] o.type #[v, u]).run Try.prog w = .ok v' w') (h : K (a.put o.dst v') w') : o.wp Try.prog a w K Q := by
  unfold Oper.wp execOp
  simp only [ho, resolve, invoke, builtin, Sem.run_bind, Sem.run_pure, Result.andThen_ok, List.map_toArray, List.map_cons, List.map_nil, hd, hs, hr]
  exact h
theorem wpList_copy_runI (w : World) {ops : Array Oper} {rest : List Oper} {o : Oper} {a : Act} {Q : Exit → Act → World → Prop} (hgd : o.guard = none) (d s : Operand) (t t' : TypeId)
    (ho : o.op = .call { callee := .builtin .copy, args := #[d, s], argTypes := #[t, t'] }) (v u : Value) (hd : a.eval d = v) (hs : a.eval s = u) {v' : Value} {w' : World}
    (hr : (Builtin.copy_ #[t, t'] o.type #[v, u]).run Try.prog w = .ok v' w') (h : wpList Try.prog ops Q rest (a.put o.dst v') w') : wpList Try.prog ops Q (o :: rest) a w :=
  wpList_plain hgd fun _ hK => wp_copy_runI w d s t t' ho v u hd hs hr (hK _ _ h)
theorem step_copy_runI {ops : Array Oper} {o : Oper} {a : Act} {w : World} {K : Act → World → Prop} {Q : Exit → Act → World → Prop} {E : Prop}
    (hg : o.guard = none) (d x : Operand) (dT sT : TypeId) (hop : o.op = Op.call { callee := Callee.builtin Builtin.copy, args := #[d, x], argTypes := #[dT, sT] })
    (v u : Value) (hd : a.eval d = v) (hx : a.eval x = u) {v' : Value} {w' : World} (hr : (Builtin.copy_ #[dT, sT] o.type #[v, u]).run Try.prog w = .ok v' w') (hK : K (a.put o.dst v') w') :
    if Region.wanted o (yielded ops a.tmps) = true then Oper.wp Try.prog o a w K Q else E := by
  have hw : Region.wanted o (yielded ops a.tmps) = true := by simp [Region.wanted, hg]
  rw [if_pos hw]
  unfold Oper.wp
  simp [execOp, hop, resolve, invoke, builtin, hd, hx, hr, Result.andThen]
  exact hK
/-- copy of items, k cells each. -/
theorem run_copy_K (w : World) (ty : TypeId) (b o dLen dCap : Nat) (a : Addr) (sLen sCap q : Nat) (cs : List Value) (hq : q = Nat.min sLen dLen) (hn : cs.length = q * 3)
    (hsrc : ∀ j v, cs[j]? = some v → w.cell? (a.add j) = some v) (hc : ∀ j, j < cs.length → (w.cell? ⟨b, o + j, none⟩).isSome = true) (hf : ∀ j, j < cs.length → w.frozen? ⟨b, o + j, none⟩ = false) (h1 : ∀ v ∈ cs, v.oneCell' = true) :
    (Builtin.copy_ #[61, 61] ty #[.slice (some ⟨b, o, none⟩) dLen dCap, .slice (some a) sLen sCap]).run Try.prog w = .ok (goInt q) (w.setCells b o cs) := by
  have hl := run_loadCells_list (P := Try.prog) w a cs hsrc
  have hst := run_storeCells_cells (P := Try.prog) b o cs 0 w (by simpa using hc) (by simpa using hf) h1
  obtain ⟨i0, hi, hz0, hz1, hz2⟩ := info_parts infoIt
  rw [hn] at hl
  simp [Builtin.copy_, run_underlying Try.underlying61, Builtin.lenOf, Builtin.firstCells, sizeOf, typeInfo, hi, hz1, ← hq, hl, hst]
theorem ins_lists (A M X : List Value) (i m : Nat) (hi : i + m ≤ A.length) (hX : X.length = m) :
    (A.take (i + m) ++ M ++ A.drop (i + m + M.length)).take i ++ X ++ (A.take (i + m) ++ M ++ A.drop (i + m + M.length)).drop (i + X.length) = A.take i ++ X ++ M ++ A.drop (i + m + M.length) := by
  have hl : (A.take (i + m)).length = i + m := by rw [List.length_take]; omega
  rw [hX, List.append_assoc (A.take (i + m)), List.take_append, hl, show i - (i + m) = 0 by omega, List.take_zero, List.append_nil, List.take_take, show min i (i + m) = i by omega, List.drop_append, hl, Nat.sub_self, List.drop_zero, List.drop_eq_nil_of_le (by omega), List.nil_append]
  simp only [List.append_assoc]
end Go.Proofs.Ytefffjlcfghniaa
