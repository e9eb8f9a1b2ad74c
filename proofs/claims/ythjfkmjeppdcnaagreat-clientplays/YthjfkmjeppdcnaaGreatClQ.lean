/- Maps from numbers to submissions: looked up, written, counted, taken from; conditions: the keys are numbers of 64 bits. -/
import Derived.Test.YthjfkmjeppdcnaaGreatClE
import Derived.Maps.Keyed
import Derived.Maps.Own
namespace Go.Proofs.YthjfkmjeppdcnaaGreat
open Go.RowKit Go.Lib Go.Maps Go.MapKept
set_option linter.unusedVariables false
set_option linter.unusedSimpArgs false
set_option maxRecDepth 20000
def N64 (k : Int) : Prop := -9223372036854775808 ≤ k ∧ k ≤ 9223372036854775807
def enM (p : Int × Value) : Value × Value := (Value.int .i64 p.1, p.2)
def MapIs (w : World) (b : Nat) (M : List (Int × Value)) : Prop := ∃ es clock, w.heap[b]? = some (.map es clock) ∧ Stamped es clock ∧ es.toList.map (fun e => (e.key, e.val)) = M.map enM ∧ ∀ p ∈ M, N64 p.1
theorem MapIs.old {w w' : World} {b : Nat} {M : List (Int × Value)} (h : MapIs w b M) (u : Old w w') : MapIs w' b M := by
 obtain ⟨es, clock, h1, h2⟩ := h
 exact ⟨es, clock, u.block h1, h2⟩
theorem MapIs.chg {S : List Nat} {w w' : World} {b : Nat} {M : List (Int × Value)} (h : MapIs w b M) (u : Chg S w w') (hn : b ∉ S) : MapIs w' b M := by
 obtain ⟨es, clock, h1, h2⟩ := h
 exact ⟨es, clock, u.heapAt h1 hn, h2⟩
theorem MapIs.lt {w : World} {b : Nat} {M : List (Int × Value)} (h : MapIs w b M) : b < w.heap.size := by
 obtain ⟨es, clock, h1, h2⟩ := h
 exact heap_lt h1
def mget (k : Int) : List (Int × Value) → Option Value
 | [] => none
 | p :: t => if p.1 = k then some p.2 else mget k t
def mput (k : Int) (v : Value) : List (Int × Value) → List (Int × Value)
 | [] => [(k, v)]
 | p :: t => if p.1 = k then (k, v) :: t else p :: mput k v t
theorem lawK : Keyed Tryz.prog 2 := int_keyed Tryz.underlying2
theorem keyN {k : Int} (h : N64 k) : keyOf Tryz.prog 2 (.int .i64 k) = some (.int .i64 k) := by
 refine keyOf_int_mk Tryz.underlying2 ?_
 obtain ⟨h1, h2⟩ := h
 have e1 : IntKind.i64.min = -9223372036854775808 := by decide
 have e2 : IntKind.i64.max = 9223372036854775807 := by decide
 simp [Lit.wf, e1, e2, h1, h2]
theorem mget_mem : ∀ {M : List (Int × Value)} {k : Int} {v : Value}, mget k M = some v → (k, v) ∈ M
 | [], k, v, h => by cases h
 | p :: t, k, v, h => by
  unfold mget at h
  split at h
  ·rename_i q
   cases h
   rw [← q]
   exact List.mem_cons_self ..
  ·exact List.mem_cons_of_mem _ (mget_mem h)
theorem mget_none : ∀ {M : List (Int × Value)} {k : Int}, (∀ p ∈ M, p.1 ≠ k) → mget k M = none
 | [], k, _ => rfl
 | p :: t, k, h => by
  unfold mget
  rw [if_neg (h p (List.mem_cons_self ..))]
  exact mget_none fun q hq => h q (List.mem_cons_of_mem _ hq)
theorem mget_of : ∀ {M : List (Int × Value)} {k : Int} {v : Value}, (M.map (·.1)).Nodup → (k, v) ∈ M → mget k M = some v
 | [], k, v, _, h => by cases h
 | p :: t, k, v, hn, h => by
  unfold mget
  rcases List.mem_cons.1 h with q | q
  ·rw [← q, if_pos rfl]
  ·rw [List.map_cons, List.nodup_cons] at hn
   rw [if_neg (fun e => hn.1 (by rw [e]; exact List.mem_map.2 ⟨_, q, rfl⟩))]
   exact mget_of hn.2 q
theorem MapIs.nod {w : World} {b : Nat} {M : List (Int × Value)} (h : MapIs w b M) : (M.map (·.1)).Nodup := by
 obtain ⟨es, clock, h1, h2, h3, h4⟩ := h
 have e : es.toList.map (·.key) = M.map (fun p => Value.int .i64 p.1) := by
  have := congrArg (List.map Prod.fst) h3
  simpa [List.map_map, Function.comp_def, enM] using this
 have n := h2.2.2
 rw [e] at n
 unfold List.Nodup at n ⊢
 rw [List.pairwise_map] at n ⊢
 exact n.imp (fun h e => h (by rw [e]))
theorem ent_at {es : Array MapEntry} {M : List (Int × Value)} (h : es.toList.map (fun e => (e.key, e.val)) = M.map enM) {j : Nat} {e : MapEntry} (hj : es.toList[j]? = some e) : ∃ p, M[j]? = some p ∧ e.key = .int .i64 p.1 ∧ e.val = p.2 := by
 have q := congrArg (fun l => l[j]?) h
 simp only [List.getElem?_map, hj, Option.map_some] at q
 cases e1 : M[j]? with
 | none => rw [e1] at q; cases q
 | some p =>
  rw [e1] at q
  simp only [Option.map_some, Option.some.injEq, enM, Prod.mk.injEq] at q
  exact ⟨p, rfl, q.1, q.2⟩
theorem ent_mem {es : Array MapEntry} {M : List (Int × Value)} (h : es.toList.map (fun e => (e.key, e.val)) = M.map enM) {e : MapEntry} (he : e ∈ es.toList) : ∃ p ∈ M, e.key = .int .i64 p.1 ∧ e.val = p.2 := by
 obtain ⟨j, hj, e1⟩ := List.getElem_of_mem he
 obtain ⟨p, h1, h2⟩ := ent_at h (j := j) (e := e) (by rw [List.getElem?_eq_getElem hj, e1])
 exact ⟨p, List.mem_of_getElem? h1, h2⟩
theorem ent_of {es : Array MapEntry} {M : List (Int × Value)} (h : es.toList.map (fun e => (e.key, e.val)) = M.map enM) {p : Int × Value} (hp : p ∈ M) : ∃ e ∈ es.toList, e.key = .int .i64 p.1 ∧ e.val = p.2 := by
 have : enM p ∈ es.toList.map (fun e => (e.key, e.val)) := by rw [h]; exact List.mem_map.2 ⟨p, hp, rfl⟩
 obtain ⟨e, he, q⟩ := List.mem_map.1 this
 simp only [enM, Prod.mk.injEq] at q
 exact ⟨e, he, q.1, q.2⟩
theorem MapIs.keys {w : World} {b : Nat} {M : List (Int × Value)} {es : Array MapEntry} (h3 : es.toList.map (fun e => (e.key, e.val)) = M.map enM) (h4 : ∀ p ∈ M, N64 p.1) : ∀ e ∈ es.toList, ∃ l, keyOf Tryz.prog 2 e.key = some l := fun e he => by
 obtain ⟨p, hp, e1, _⟩ := ent_mem h3 he
 exact ⟨_, by rw [e1]; exact keyN (h4 p hp)⟩
theorem zeroRow (w : World) : (zeroValue 33).run Tryz.prog w = .ok (.agg #[.int .i64 0, .int .i64 0, .int .i64 0, .slice none 0 0, .slice none 0 0, .slice none 0 0]) w := by kernel_rfl
theorem MapIs.look {w : World} {b : Nat} {M : List (Int × Value)} (h : MapIs w b M) (c : Bool) {k : Int} (hk : N64 k) :
    (Instr.lookup 68 (.map (some b)) (.int .i64 k) c).run Tryz.prog w = .ok (if c then .tuple #[(mget k M).getD (.agg #[.int .i64 0, .int .i64 0, .int .i64 0, .slice none 0 0, .slice none 0 0, .slice none 0 0]), .bool (mget k M).isSome] else (mget k M).getD (.agg #[.int .i64 0, .int .i64 0, .int .i64 0, .slice none 0 0, .slice none 0 0, .slice none 0 0])) w := by
 have hn := h.nod
 obtain ⟨es, clock, h1, h2, h3, h4⟩ := h
 rcases lawK.find w (keyN hk) es.toList (MapIs.keys (w := w) (b := b) h3 h4) with ⟨q1, q2⟩ | ⟨j, e0, q1, q2, q3⟩
 ·have e : mget k M = none := mget_none fun p hp e => by
    obtain ⟨x, hx, e1, _⟩ := ent_of h3 hp
    exact q2 x hx (by rw [e1, e])
  rw [e]
  simp [Instr.lookup, run_underlying Tryz.underlying68, MapKept.run_getObj_map h1, lawK.check w _ (keyN hk), q1, zeroRow, Result.andThen]
 ·obtain ⟨p, p1, p2, p3⟩ := ent_at h3 q2
  have e : mget k M = some e0.val := by
   refine mget_of hn ?_
   rw [q3] at p2
   have ek : k = p.1 := by injection p2
   rw [p3, ek]
   exact List.mem_of_getElem? p1
  rw [e]
  simp [Instr.lookup, run_underlying Tryz.underlying68, MapKept.run_getObj_map h1, lawK.check w _ (keyN hk), q1, Result.andThen]
def putObj (w : World) (b : Nat) (o : Obj) : World := { w with heap := w.heap.setIfInBounds b o }
theorem Chg.putObj (w : World) (b : Nat) (o : Obj) (S : List Nat) (h : b ∈ S) : Chg S w (putObj w b o) :=
 ⟨rfl, rfl, rfl, by simp [Go.Proofs.YthjfkmjeppdcnaaGreat.putObj], fun k hk hn => by
  simp only [Go.Proofs.YthjfkmjeppdcnaaGreat.putObj, Array.getElem?_setIfInBounds]
  rw [if_neg (fun e => hn (by rw [← e]; exact h))]⟩
theorem mput_new : ∀ {M : List (Int × Value)} {k : Int} {v : Value}, (∀ p ∈ M, p.1 ≠ k) → mput k v M = M ++ [(k, v)]
 | [], k, v, _ => rfl
 | p :: t, k, v, h => by
  unfold mput
  rw [if_neg (h p (List.mem_cons_self ..)), mput_new fun q hq => h q (List.mem_cons_of_mem _ hq)]
  rfl
theorem mput_old : ∀ {M : List (Int × Value)} {k : Int} {v : Value} {j : Nat} {p : Int × Value}, (M.map (·.1)).Nodup → M[j]? = some p → p.1 = k → mput k v M = M.set j (k, v)
 | [], k, v, j, p, _, h, _ => by simp at h
 | a :: t, k, v, 0, p, hn, h, e => by
  simp at h
  subst h
  unfold mput
  rw [if_pos e]
  rfl
 | a :: t, k, v, j + 1, p, hn, h, e => by
  simp at h
  rw [List.map_cons, List.nodup_cons] at hn
  unfold mput
  rw [if_neg (fun q => hn.1 (by rw [q, ← e]; exact List.mem_map.2 ⟨p, List.mem_of_getElem? h, rfl⟩)), mput_old hn.2 h e]
  rfl
theorem MapIs.put {w : World} {b : Nat} {M : List (Int × Value)} (h : MapIs w b M) {k : Int} (hk : N64 k) (v : Value) :
    ∃ w', (Instr.mapUpdate 68 (.map (some b)) (.int .i64 k) v).run Tryz.prog w = .ok () w' ∧ MapIs w' b (mput k v M) ∧ Chg [b] w w' ∧ w'.heap.size = w.heap.size := by
 have hn := h.nod
 obtain ⟨es, clock, h1, h2, h3, h4⟩ := h
 rcases lawK.find w (keyN hk) es.toList (MapIs.keys (w := w) (b := b) h3 h4) with ⟨q1, q2⟩ | ⟨j, e0, q1, q2, q3⟩
 ·have hne : ∀ p ∈ M, p.1 ≠ k := fun p hp e => by
    obtain ⟨x, hx, e1, _⟩ := ent_of h3 hp
    exact q2 x hx (by rw [e1, e])
  refine ⟨putObj w b (.map (es.push ⟨.int .i64 k, v, clock⟩) (clock + 1)), ?_, ⟨es.push ⟨.int .i64 k, v, clock⟩, clock + 1, (heap_set h1).1, ?_, ?_, ?_⟩, Chg.putObj w b _ _ (List.mem_singleton.2 rfl), by simp [putObj]⟩
  ·simp [Instr.mapUpdate, run_underlying Tryz.underlying68, MapKept.run_getObj_map h1, lawK.check w false (keyN hk), q1, MapKept.run_setObj_map _ h1, Result.andThen, putObj]
  ·exact MapKept.stamped_push h2 q2
  ·rw [mput_new hne, Array.toList_push, List.map_append, List.map_append, h3]
   rfl
  ·rw [mput_new hne]
   intro p hp
   rcases List.mem_append.1 hp with q | q
   ·exact h4 p q
   ·simp at q; rw [q]; exact hk
 ·obtain ⟨p, p1, p2, p3⟩ := ent_at h3 q2
  have ek : p.1 = k := by rw [q3] at p2; injection p2 with _ e; exact e.symm
  have e5 : mput k v M = M.set j (k, v) := mput_old hn p1 ek
  refine ⟨putObj w b (.map (es.modify j fun e => { e with key := .int .i64 k, val := v }) clock), ?_, ⟨es.modify j fun e => { e with key := .int .i64 k, val := v }, clock, (heap_set h1).1, ?_, ?_, ?_⟩, Chg.putObj w b _ _ (List.mem_singleton.2 rfl), by simp [putObj]⟩
  ·have hj : es[j]? = some e0 := by simpa using q2
   simp [Instr.mapUpdate, run_underlying Tryz.underlying68, MapKept.run_getObj_map h1, lawK.check w false (keyN hk), q1, hj, q3, lawK.stays w (keyN hk), MapKept.run_setObj_map _ h1, Result.andThen, putObj]
  ·have hj : es[j]? = some e0 := by simpa using q2
   exact MapKept.stamped_modify h2 _ _ (fun _ _ => rfl) (fun e' _ he' => by rw [hj] at he'; cases he'; exact q3.symm)
  ·rw [e5, Array.toList_modify, Go.ChangeMaps.modify_eq_set _ _ _ _ q2, List.map_set, List.map_set, h3]
   rfl
  ·rw [e5]
   intro x hx
   rcases List.mem_or_eq_of_mem_set hx with q | q
   ·exact h4 x q
   ·rw [q]; exact hk
theorem mapErase {α β : Type} (f : α → β) : ∀ (l : List α) (j : Nat), (l.eraseIdx j).map f = (l.map f).eraseIdx j
 | [], _ => by simp
 | a :: l, 0 => by simp
 | a :: l, j + 1 => by rw [List.eraseIdx_cons_succ, List.map_cons, List.map_cons, List.eraseIdx_cons_succ, mapErase f l j]
def mdel (k : Int) (M : List (Int × Value)) : List (Int × Value) := M.filter fun p => decide (p.1 ≠ k)
theorem mdel_none {M : List (Int × Value)} {k : Int} (h : ∀ p ∈ M, p.1 ≠ k) : mdel k M = M := List.filter_eq_self.2 fun p hp => decide_eq_true (h p hp)
theorem mdel_old : ∀ {M : List (Int × Value)} {k : Int} {j : Nat} {p : Int × Value}, (M.map (·.1)).Nodup → M[j]? = some p → p.1 = k → mdel k M = M.eraseIdx j
 | [], k, j, p, _, h, _ => by simp at h
 | a :: t, k, 0, p, hn, h, e => by
  simp at h
  subst h
  rw [List.map_cons, List.nodup_cons] at hn
  unfold mdel
  rw [List.filter_cons_of_neg (by simp [e]), List.eraseIdx_cons_zero]
  exact mdel_none fun q hq z => hn.1 (by rw [e, ← z]; exact List.mem_map.2 ⟨q, hq, rfl⟩)
 | a :: t, k, j + 1, p, hn, h, e => by
  simp at h
  rw [List.map_cons, List.nodup_cons] at hn
  have hne : a.1 ≠ k := fun q => hn.1 (by rw [q, ← e]; exact List.mem_map.2 ⟨p, List.mem_of_getElem? h, rfl⟩)
  have ih := mdel_old hn.2 h e
  unfold mdel at ih ⊢
  rw [List.filter_cons_of_pos (by simp [hne]), ih, List.eraseIdx_cons_succ]
theorem MapIs.del {w : World} {b : Nat} {M : List (Int × Value)} (h : MapIs w b M) {k : Int} (hk : N64 k) (ty : TypeId) :
    ∃ w', (Builtin.delete_ #[68, 2] ty #[.map (some b), .int .i64 k]).run Tryz.prog w = .ok (.tuple #[]) w' ∧ MapIs w' b (mdel k M) ∧ Chg [b] w w' ∧ w'.heap.size = w.heap.size := by
 have hn := h.nod
 obtain ⟨es, clock, h1, h2, h3, h4⟩ := h
 rcases lawK.find w (keyN hk) es.toList (MapIs.keys (w := w) (b := b) h3 h4) with ⟨q1, q2⟩ | ⟨j, e0, q1, q2, q3⟩
 ·have hne : ∀ p ∈ M, p.1 ≠ k := fun p hp e => by
    obtain ⟨x, hx, e1, _⟩ := ent_of h3 hp
    exact q2 x hx (by rw [e1, e])
  refine ⟨putObj w b (.map es clock), ?_, ⟨es, clock, (heap_set h1).1, h2, by rw [mdel_none hne]; exact h3, by rw [mdel_none hne]; exact h4⟩, Chg.putObj w b _ _ (List.mem_singleton.2 rfl), by simp [putObj]⟩
  simp [Builtin.delete_, run_underlying Tryz.underlying68, MapKept.run_getObj_map h1, lawK.check w _ (keyN hk), q1, MapKept.run_setObj_map _ h1, Result.andThen, putObj]
 ·obtain ⟨p, p1, p2, p3⟩ := ent_at h3 q2
  have ek : p.1 = k := by rw [q3] at p2; injection p2 with _ e; exact e.symm
  have hjs : j < es.size := by have := (List.getElem?_eq_some_iff.1 q2).1; simpa using this
  have hsub : (es.eraseIdxIfInBounds j).toList = es.toList.eraseIdx j := by
   unfold Array.eraseIdxIfInBounds
   rw [dif_pos hjs]
   simp
  refine ⟨putObj w b (.map (es.eraseIdxIfInBounds j) clock), ?_, ⟨es.eraseIdxIfInBounds j, clock, (heap_set h1).1, MapKept.stamped_erase h2 j, ?_, ?_⟩, Chg.putObj w b _ _ (List.mem_singleton.2 rfl), by simp [putObj]⟩
  ·simp [Builtin.delete_, run_underlying Tryz.underlying68, MapKept.run_getObj_map h1, lawK.check w _ (keyN hk), q1, MapKept.run_setObj_map _ h1, Result.andThen, putObj]
  ·rw [mdel_old hn p1 ek, hsub, mapErase, mapErase, h3]
  ·intro x hx
   exact h4 x ((List.mem_filter.1 hx).1)
theorem MapIs.len {w : World} {b : Nat} {M : List (Int × Value)} (h : MapIs w b M) (ty : TypeId) : (Builtin.len_ #[68] ty #[.map (some b)]).run Tryz.prog w = .ok (.int .i64 (M.length : Nat)) w := by
 obtain ⟨es, clock, h1, h2, h3, h4⟩ := h
 have e : es.size = M.length := by have := congrArg List.length h3; simpa using this
 simp [Builtin.len_, run_underlying Tryz.underlying68, MapKept.run_getObj_map h1, Result.andThen, goInt, e]
end Go.Proofs.YthjfkmjeppdcnaaGreat
