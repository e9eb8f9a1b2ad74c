/- The document's files of layer 5, rows of them; conditions: the rows lie in memory. -/
import Derived.Test.YtfphopleniidfaaGreatDoorR5z
import Derived.Maps.AppendAt
namespace Go.Proofs.YtfphopleniidfaaGreatDoor
open Go.RowKit Go.Lib
set_option linter.unusedVariables false
set_option linter.unusedSimpArgs false
set_option maxRecDepth 20000
theorem box3_set {w : World} {b : Nat} {x y z p q r : Value} {T : TypeId} (h : w.heap[b]? = some (.cells #[x, y, z] T (0, 0))) : (((w.setCell ⟨b, 0, none⟩ p).setCell ⟨b, 1, none⟩ q).setCell ⟨b, 2, none⟩ r).heap[b]? = some (.cells #[p, q, r] T (0, 0)) := by
  have h1 := Go.Joins.block_setCell h p (i := 0)
  have h2 := Go.Joins.block_setCell h1 q (i := 1)
  exact Go.Joins.block_setCell h2 r (i := 2)
theorem set_other {w : World} {b k i : Nat} {v : Value} {o : Obj} (h : w.heap[k]? = some o) (hn : k ≠ b) : (w.setCell ⟨b, i, none⟩ v).heap[k]? = some o := by
  rw [Below.heap_setCell w ⟨b, i, none⟩ v k (fun e => hn e)]; exact h
theorem Old.set3 {a w : World} {b : Nat} {p q r : Value} (h : Old a w) (hb : a.heap.size ≤ b) : Old a (((w.setCell ⟨b, 0, none⟩ p).setCell ⟨b, 1, none⟩ q).setCell ⟨b, 2, none⟩ r) :=
  ((h.setCell (p := ⟨b, 0, none⟩) hb _).setCell (p := ⟨b, 1, none⟩) hb _).setCell (p := ⟨b, 2, none⟩) hb _
theorem chg3 (w : World) (b : Nat) (p q r : Value) : Chg [b] w (((w.setCell ⟨b, 0, none⟩ p).setCell ⟨b, 1, none⟩ q).setCell ⟨b, 2, none⟩ r) := ((Chg.set (S := [b]) w ⟨b, 0, none⟩ p (by simp)).trans (Chg.set (S := [b]) _ ⟨b, 1, none⟩ q (by simp))).trans (Chg.set (S := [b]) _ ⟨b, 2, none⟩ r (by simp))
theorem Chg.grown {T : List Nat} {w w' : World} {row : Option Nat} (g : w.grownBy w' row) (h : ∀ k, row = some k → k ∈ T) : Chg T w w' := ⟨g.os, g.tape, g.output, g.size, fun k hk hn => g.block k hk (fun e => hn (h k e.symm))⟩
theorem Chg.oldOf {S : List Nat} {w0 W W' : World} (c : Chg S W W') (u : Old w0 W) (h : ∀ k ∈ S, w0.heap.size ≤ k) : Old w0 W' := u.below (c.below _ h u.size)
theorem flat_len {α : Type} (c : α → List Value) (k : Nat) (hk : ∀ x, (c x).length = k) : ∀ L : List α, (L.flatMap c).length = L.length * k
  | [] => by simp
  | x :: t => by rw [List.flatMap_cons, List.length_append, hk, flat_len c k hk t, List.length_cons, Nat.add_mul]; omega
theorem flat_get {α : Type} (c : α → List Value) (k : Nat) (hk : ∀ x, (c x).length = k) : ∀ (L : List α) (i j : Nat) (hi : i < L.length), j < k → (L.flatMap c)[i * k + j]? = (c L[i])[j]?
  | [], i, _, hi, _ => by simp at hi
  | x :: t, 0, j, _, hj => by
    rw [List.flatMap_cons, List.getElem?_append_left (by rw [hk]; omega)]; simp
  | x :: t, i + 1, j, hi, hj => by
    rw [List.flatMap_cons, List.getElem?_append_right (by rw [hk, Nat.add_mul]; omega), hk]
    rw [show (i + 1) * k + j - k = i * k + j by rw [Nat.add_mul]; omega]
    rw [flat_get c k hk t i j (by simpa using hi) hj]
    simp
/-- A file of the document's: its name, where its two rows lie, their bytes. -/
structure Fi where
  nm : ByteArray
  na : Option Addr
  nc : Nat
  now : List Nat
  sa : Option Addr
  sc : Nat
  safe : List Nat
def Fi.vn (x : Fi) : Value := .slice x.na x.now.length x.nc
def Fi.vs (x : Fi) : Value := .slice x.sa x.safe.length x.sc
def Fi.p (x : Fi) : ByteArray × PF := (x.nm, ⟨x.now, x.safe⟩)
def Fi.ag (x : Fi) : Value := .agg #[.string x.nm, .slice x.na x.now.length x.nc, .slice x.sa x.safe.length x.sc]
def fic (x : Fi) : List Value := [.string x.nm, .slice x.na x.now.length x.nc, .slice x.sa x.safe.length x.sc]
def fics (X : List Fi) : List Value := X.flatMap fic
theorem fic_len (x : Fi) : (fic x).length = 3 := rfl
theorem fics_len (X : List Fi) : (fics X).length = X.length * 3 := flat_len fic 3 fic_len X
theorem fics_app (X Y : List Fi) : fics X ++ fics Y = fics (X ++ Y) := by simp [fics]
theorem fics_one1 (x : Fi) : fics [x] = fic x := by simp [fics]
theorem fic_one (x : Fi) : ∀ u ∈ fic x, u.oneCell' = true := by
  intro u h
  simp [fic] at h
  rcases h with rfl | rfl | rfl <;> rfl
theorem fics_one (X : List Fi) : ∀ u ∈ fics X, u.oneCell' = true := by
  intro u hu
  obtain ⟨s, _, h⟩ := List.mem_flatMap.1 hu
  exact fic_one s u h
theorem infoFi : (Tryz.prog.info? 51).map (fun i => (i.zero, i.size, i.bytes)) = some (some (.agg #[.string ByteArray.empty, .slice none 0 0, .slice none 0 0]), 3, 64) := by kernel_rfl
/-- A row of files that is owned. -/
def OwnR (base : Nat) (w : World) (v : Value) (X : List Fi) : Prop := w.ownsRow base 51 3 v X.length (fics X)
theorem OwnR.old {base : Nat} {w w' : World} {v : Value} {X : List Fi} (h : OwnR base w v X) (u : Old w w') : OwnR base w' v X := by
  refine ⟨h.1, ?_⟩
  rcases h.2 with e | ⟨g, cap, cur, e, hb', hg, r⟩
  · exact .inl e
  · exact .inr ⟨g, cap, cur, e, hb', u.block hg, r⟩
theorem OwnR.chg {base : Nat} {S : List Nat} {w w' : World} {v : Value} {X : List Fi} (h : OwnR base w v X) (u : Chg S w w') (hn : ∀ g, v.ownBlock = some g → g ∉ S) : OwnR base w' v X := by
  refine ⟨h.1, ?_⟩
  rcases h.2 with e | ⟨g, cap, cur, rfl, hb', hg, r⟩
  · exact .inl e
  · exact .inr ⟨g, cap, cur, rfl, hb', u.heapAt hg (hn g rfl), r⟩
theorem OwnR.kp {base : Nat} {A : List Nat} {w w' : World} {v : Value} {X : List Fi} (h : OwnR base w v X) (u : Kp A w w') (hn : ∀ g, v.ownBlock = some g → g ∈ A) : OwnR base w' v X := by
  refine ⟨h.1, ?_⟩
  rcases h.2 with e | ⟨g, cap, cur, rfl, hb', hg, r⟩
  · exact .inl e
  · exact .inr ⟨g, cap, cur, rfl, hb', by rw [u.2 g (hn g rfl) (heap_lt hg)]; exact hg, r⟩
theorem OwnR.mono {base b' : Nat} {w : World} {v : Value} {X : List Fi} (h : OwnR base w v X) (hb : b' ≤ base) : OwnR b' w v X := by
  refine ⟨h.1, ?_⟩
  rcases h.2 with e | ⟨g, cap, cur, e, hb', r⟩
  · exact .inl e
  · exact .inr ⟨g, cap, cur, e, Nat.le_trans hb hb', r⟩
theorem OwnR.lt {base : Nat} {w : World} {v : Value} {X : List Fi} (h : OwnR base w v X) (g : Nat) (hg : v.ownBlock = some g) : base ≤ g ∧ g < w.heap.size := World.ownsRow.lt h g hg
theorem OwnR.nil (base : Nat) (w : World) : OwnR base w (.slice none 0 0) [] := World.ownsRow_nil w base _ 3
theorem OwnR.len {base : Nat} {w : World} {v : Value} {X : List Fi} (h : OwnR base w v X) : ∃ a c, v = .slice a X.length c := by
  rcases h.2 with ⟨rfl, e⟩ | ⟨g, cap, cur, rfl, _⟩
  · exact ⟨none, 0, by rw [e]⟩
  · exact ⟨_, _, rfl⟩
/-- A row's block. -/
theorem OwnR.cases {base : Nat} {w : World} {v : Value} {X : List Fi} (h : OwnR base w v X) : (v = .slice none 0 0 ∧ X = []) ∨ ∃ g cap cur, v = .slice (some ⟨g, 0, none⟩) X.length cap ∧ base ≤ g ∧ w.heap[g]? = some (.cells cur 51 (0, 0)) ∧ X.length ≤ cap ∧ cap ≤ maxLen ∧ cur.size = cap * 3 ∧ cur.toList.take (X.length * 3) = fics X := by
  rcases h.2 with ⟨e, h0⟩ | ⟨g, cap, cur, e, h1⟩
  · exact .inl ⟨e, List.length_eq_zero_iff.1 h0⟩
  · exact .inr ⟨g, cap, cur, e, h1⟩
theorem ownR_of {base : Nat} {w : World} {g cap : Nat} {cur : Array Value} {X : List Fi} (hb : base ≤ g) (hg : w.heap[g]? = some (.cells cur 51 (0, 0))) (h1 : X.length ≤ cap) (h2 : cap ≤ maxLen) (h3 : cur.size = cap * 3) (h4 : cur.toList.take (X.length * 3) = fics X) : OwnR base w (.slice (some ⟨g, 0, none⟩) X.length cap) X :=
  ⟨fics_len X, .inr ⟨g, cap, cur, rfl, hb, hg, h1, h2, h3, h4⟩⟩
theorem OwnR.at {base : Nat} {w : World} {v : Value} {X : List Fi} (h : OwnR base w v X) (i : Nat) (hi : i < X.length) : ∃ g c, v = .slice (some ⟨g, 0, none⟩) X.length c ∧ X.length ≤ c ∧ c ≤ 9223372036854775807 ∧ (w.cell? ⟨g, i * 3, none⟩ = some (.string X[i].nm) ∧ w.cell? ⟨g, i * 3 + 1, none⟩ = some (.slice X[i].na X[i].now.length X[i].nc) ∧ w.cell? ⟨g, i * 3 + 2, none⟩ = some (.slice X[i].sa X[i].safe.length X[i].sc)) := by
  rcases h.cases with ⟨_, rfl⟩ | ⟨g, cap, cur, rfl, hb, hg, h1, h2, h3, h4⟩
  · simp at hi
  · unfold maxLen at h2
    have q : ∀ j, j < 3 → w.cell? ⟨g, i * 3 + j, none⟩ = (fic X[i])[j]? := fun j hj => by
      rw [Go.Joins.cell_of_block hg, ← Array.getElem?_toList]
      have q2 : (cur.toList.take (X.length * 3))[i * 3 + j]? = cur.toList[i * 3 + j]? := by rw [List.getElem?_take, if_pos (by omega)]
      rw [← q2, h4]
      exact flat_get fic 3 fic_len X i j hi hj
    exact ⟨g, cap, rfl, h1, by omega, ⟨q 0 (by omega), q 1 (by omega), q 2 (by omega)⟩⟩
/-- append of one file. -/
theorem wp_appR {ops : Array Oper} {rest : List Oper} {o : Oper} {a : Act} {Q : Exit → Act → World → Prop} {w : World} (hgd : o.guard = none) (s x : Operand)
    (ho : o.op = .call { callee := .builtin .append, args := #[s, x], argTypes := #[30, 30] }) (base : Nat) (v : Value) (X : List Fi) (g : Nat) (y : Fi)
    (hs : a.eval s = v) (hx : a.eval x = .slice (some ⟨g, 0, none⟩) 1 1) (hown : OwnR base w v X) (hc : w.heap[g]? = some (.cells #[.string y.nm, .slice y.na y.now.length y.nc, .slice y.sa y.safe.length y.sc] 51 (0, 0))) (hb : X.length + 1 ≤ 1000000) (hbase : base ≤ w.heap.size)
    (h : ∀ v' w', OwnR base w' v' (X ++ [y]) → Chg v.ownBlock.toList w w' → wpList Tryz.prog ops Q rest (a.put o.dst v') w') : wpList Tryz.prog ops Q (o :: rest) a w := by
  obtain ⟨i0, hi, hz0, hz1, hz2⟩ := info_parts infoFi
  refine wpList_append_own_at w hgd s x 30 ho base 51 i0 _ 3 64 Tryz.underlying30 hi hz0 hz1 hz2 rfl (by decide) v X.length (fics X) hs hown ⟨g, 0, none⟩ 1 1 (fics [y]) hx rfl ?_ (fics_one _) (by unfold maxLen; omega) (by omega) hbase ?_
  · intro j u hj
    rw [Go.WideShapes.add_plain, Nat.zero_add, Go.Joins.cell_of_block hc, ← hj, fics_one1, ← Array.getElem?_toList]
    rfl
  · intro v' w' h1 h2 h3 h4
    exact h v' w' (by unfold OwnR; rw [fics_app] at h1; simpa using h1) (Chg.grown h2 (fun k e => Option.mem_toList.2 e))
theorem OwnR.empty (w : World) (g : Nat) (hg : w.heap.size = g) : OwnR w.heap.size (w.alloc (.cells #[] 51)) (.slice (some ⟨g, 0, none⟩) 0 0) [] := by
  subst hg
  exact ownR_of (X := []) (cap := 0) (Nat.le_refl _) (alloc_at w (.cells #[] 51)) (by simp) (by unfold maxLen; omega) rfl rfl
/-- The blocks of the document's files. -/
def docB (v : Value) (Y : List Fi) : List Nat := v.ownBlock.toList ++ Y.flatMap fun y => y.vn.ownBlock.toList ++ y.vs.ownBlock.toList
theorem docB_mem {v : Value} {Y : List Fi} {g : Nat} : g ∈ docB v Y ↔ v.ownBlock = some g ∨ ∃ y ∈ Y, y.vn.ownBlock = some g ∨ y.vs.ownBlock = some g := by
  unfold docB
  rw [List.mem_append, Option.mem_toList, List.mem_flatMap]
  constructor
  · rintro (h | ⟨y, hy, h⟩)
    · exact .inl h
    · rw [List.mem_append, Option.mem_toList, Option.mem_toList] at h
      exact .inr ⟨y, hy, h⟩
  · rintro (h | ⟨y, hy, h⟩)
    · exact .inl h
    · exact .inr ⟨y, hy, by rw [List.mem_append, Option.mem_toList, Option.mem_toList]; exact h⟩
/-- One file's rows. -/
def FiAt (W : World) (y : Fi) : Prop := Own W y.vn y.now ∧ Own W y.vs y.safe ∧ y.now.length ≤ 65536 ∧ y.safe.length ≤ 65536
theorem FiAt.old {W W' : World} {y : Fi} (h : FiAt W y) (u : Old W W') : FiAt W' y := ⟨h.1.old u, h.2.1.old u, h.2.2⟩
theorem FiAt.kp {A : List Nat} {W W' : World} {y : Fi} (h : FiAt W y) (u : Kp A W W') (hn : ∀ g, y.vn.ownBlock = some g ∨ y.vs.ownBlock = some g → g ∈ A) : FiAt W' y := ⟨h.1.kp u (fun g e => hn g (.inl e)), h.2.1.kp u (fun g e => hn g (.inr e)), h.2.2⟩
/-- The document's disk: its files. -/
structure DocAt (W : World) (v : Value) (Y : List Fi) : Prop where
  row : OwnR 0 W v Y
  byt : ∀ y ∈ Y, FiAt W y
theorem DocAt.old {W W' : World} {v : Value} {Y : List Fi} (h : DocAt W v Y) (u : Old W W') : DocAt W' v Y := ⟨h.row.old u, fun y hy => (h.byt y hy).old u⟩
theorem DocAt.kp {A : List Nat} {W W' : World} {v : Value} {Y : List Fi} (h : DocAt W v Y) (u : Kp A W W') (hn : ∀ g ∈ docB v Y, g ∈ A) : DocAt W' v Y :=
  ⟨h.row.kp u (fun g e => hn g (docB_mem.2 (.inl e))), fun y hy => (h.byt y hy).kp u (fun g e => hn g (docB_mem.2 (.inr ⟨y, hy, e⟩)))⟩
theorem DocAt.lt {W : World} {v : Value} {Y : List Fi} (h : DocAt W v Y) : ∀ g ∈ docB v Y, g < W.heap.size := fun g hg => by
  rcases docB_mem.1 hg with e | ⟨y, hy, e | e⟩
  · exact (h.row.lt g e).2
  · exact (h.byt y hy).1.lt g e
  · exact (h.byt y hy).2.1.lt g e
theorem DocAt.nil (W : World) : DocAt W (.slice none 0 0) [] := ⟨OwnR.nil _ _, fun y h => by cases h⟩
/-- Strings. -/
theorem bl_eq : ∀ (x y : List UInt8), Op.bytesLess x y = decide (x < y)
  | [], [] => by simp [Op.bytesLess]
  | _ :: _, [] => by simp [Op.bytesLess]
  | [], _ :: _ => by simp [Op.bytesLess]
  | a :: x, b :: y => by
    rw [Op.bytesLess, bl_eq x y]
    by_cases h : a < b
    · simp [h, List.cons_lt_cons_iff]
    · by_cases e : a = b
      · subst e; simp [List.cons_lt_cons_iff]
      · simp [h, e, List.cons_lt_cons_iff]
end Go.Proofs.YtfphopleniidfaaGreatDoor
