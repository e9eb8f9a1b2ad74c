/- Letters in memory, rows of letters, a net; conditions: they lie in memory. -/
import Derived.Test.YtejeihbcakojeaaN1
namespace Go.Proofs.Ytejeihbcakojeaa
open Go.RowKit Go.Lib
set_option linter.unusedVariables false
set_option linter.unusedSimpArgs false
set_option maxRecDepth 20000
/-- A letter: from, to, where its bytes lie, its bytes. -/
structure Lt where
  f : Int
  t : Int
  a : Option Addr
  c : Nat
  L : List Nat
def Lt.v (x : Lt) : Value := .slice x.a x.L.length x.c
abbrev PL := Int × Int × List Nat
def Lt.p (x : Lt) : PL := (x.f, x.t, x.L)
def ltc (x : Lt) : List Value := [.int .i64 x.f, .int .i64 x.t, .slice x.a x.L.length x.c]
def ltcs (X : List Lt) : List Value := X.flatMap ltc
theorem flat_len {α : Type} (c : α → List Value) (k : Nat) (hk : ∀ x, (c x).length = k) : ∀ L : List α, (L.flatMap c).length = L.length * k
  | [] => by simp
  | x :: t => by rw [List.flatMap_cons, List.length_append, hk, flat_len c k hk t, List.length_cons, Nat.add_mul]; omega
theorem flat_get {α : Type} (c : α → List Value) (k : Nat) (hk : ∀ x, (c x).length = k) : ∀ (L : List α) (i j : Nat) (hi : i < L.length), j < k → (L.flatMap c)[i * k + j]? = (c L[i])[j]?
  | [], i, _, hi, _ => by simp at hi
  | x :: t, 0, j, _, hj => by
    rw [List.flatMap_cons, List.getElem?_append_left (by rw [hk]; omega)]; simp
  | x :: t, i + 1, j, hi, hj => by
    rw [List.flatMap_cons, List.getElem?_append_right (by rw [hk, Nat.add_mul]; omega), hk]
    rw [show (i + 1) * k + j - k = i * k + j by rw [Nat.add_mul]; omega]
    rw [flat_get c k hk t i j (by simpa using hi) hj]
    simp
theorem flat_take {α : Type} (c : α → List Value) (k : Nat) (hk : ∀ x, (c x).length = k) : ∀ (L : List α) (i : Nat), (L.flatMap c).take (i * k) = (L.take i).flatMap c
  | [], i => by simp
  | x :: t, 0 => by simp
  | x :: t, i + 1 => by
    rw [List.flatMap_cons, List.take_succ_cons, List.flatMap_cons, ← flat_take c k hk t i, List.take_append, hk, List.take_of_length_le (by rw [hk, Nat.add_mul]; omega), show (i + 1) * k - k = i * k by rw [Nat.add_mul]; omega]
theorem flat_drop {α : Type} (c : α → List Value) (k : Nat) (hk : ∀ x, (c x).length = k) : ∀ (L : List α) (i : Nat), (L.flatMap c).drop (i * k) = (L.drop i).flatMap c
  | [], i => by simp
  | x :: t, 0 => by simp
  | x :: t, i + 1 => by
    rw [List.flatMap_cons, List.drop_succ_cons, ← flat_drop c k hk t i, List.drop_append, hk, List.drop_eq_nil_of_le (by rw [hk, Nat.add_mul]; omega), show (i + 1) * k - k = i * k by rw [Nat.add_mul]; omega, List.nil_append]
theorem ltc_len (x : Lt) : (ltc x).length = 3 := rfl
theorem ltcs_len (X : List Lt) : (ltcs X).length = X.length * 3 := flat_len ltc 3 ltc_len X
theorem ltcs_app (X Y : List Lt) : ltcs X ++ ltcs Y = ltcs (X ++ Y) := by simp [ltcs]
theorem ltcs_one1 (x : Lt) : ltcs [x] = ltc x := by simp [ltcs]
theorem ltcs_take (X : List Lt) (i : Nat) : (ltcs X).take (i * 3) = ltcs (X.take i) := flat_take ltc 3 ltc_len X i
theorem ltcs_drop (X : List Lt) (i : Nat) : (ltcs X).drop (i * 3) = ltcs (X.drop i) := flat_drop ltc 3 ltc_len X i
theorem ltc_one (x : Lt) : ∀ u ∈ ltc x, u.oneCell' = true := by
  intro u h
  simp [ltc] at h
  rcases h with rfl | rfl | rfl <;> rfl
theorem ltcs_one (X : List Lt) : ∀ u ∈ ltcs X, u.oneCell' = true := by
  intro u hu
  obtain ⟨s, _, h⟩ := List.mem_flatMap.1 hu
  exact ltc_one s u h
theorem infoLt : (Try.prog.info? 30).map (fun i => (i.zero, i.size, i.bytes)) = some (some (.agg #[.int .i64 0, .int .i64 0, .slice none 0 0]), 3, 40) := by kernel_rfl
/-- A row of letters that is owned. -/
def OwnT (base : Nat) (w : World) (v : Value) (X : List Lt) : Prop := w.ownsRow base 30 3 v X.length (ltcs X)
theorem OwnT.old {base : Nat} {w w' : World} {v : Value} {X : List Lt} (h : OwnT base w v X) (u : Old w w') : OwnT base w' v X := by
  refine ⟨h.1, ?_⟩
  rcases h.2 with e | ⟨g, cap, cur, e, hb', hg, r⟩
  · exact .inl e
  · exact .inr ⟨g, cap, cur, e, hb', u.block hg, r⟩
theorem OwnT.chg {base : Nat} {S : List Nat} {w w' : World} {v : Value} {X : List Lt} (h : OwnT base w v X) (u : Chg S w w') (hn : ∀ g, v.ownBlock = some g → g ∉ S) : OwnT base w' v X := by
  refine ⟨h.1, ?_⟩
  rcases h.2 with e | ⟨g, cap, cur, rfl, hb', hg, r⟩
  · exact .inl e
  · exact .inr ⟨g, cap, cur, rfl, hb', u.heapAt hg (hn g rfl), r⟩
theorem OwnT.mono {base b' : Nat} {w : World} {v : Value} {X : List Lt} (h : OwnT base w v X) (hb : b' ≤ base) : OwnT b' w v X := by
  refine ⟨h.1, ?_⟩
  rcases h.2 with e | ⟨g, cap, cur, e, hb', r⟩
  · exact .inl e
  · exact .inr ⟨g, cap, cur, e, Nat.le_trans hb hb', r⟩
theorem OwnT.lt {base : Nat} {w : World} {v : Value} {X : List Lt} (h : OwnT base w v X) (g : Nat) (hg : v.ownBlock = some g) : base ≤ g ∧ g < w.heap.size := World.ownsRow.lt h g hg
theorem OwnT.nil (base : Nat) (w : World) : OwnT base w (.slice none 0 0) [] := World.ownsRow_nil w base _ 3
theorem OwnT.len {base : Nat} {w : World} {v : Value} {X : List Lt} (h : OwnT base w v X) : ∃ a c, v = .slice a X.length c := by
  rcases h.2 with ⟨rfl, e⟩ | ⟨g, cap, cur, rfl, _⟩
  · exact ⟨none, 0, by rw [e]⟩
  · exact ⟨_, _, rfl⟩
/-- A row's block. -/
theorem OwnT.cases {base : Nat} {w : World} {v : Value} {X : List Lt} (h : OwnT base w v X) : (v = .slice none 0 0 ∧ X = []) ∨ ∃ g cap cur, v = .slice (some ⟨g, 0, none⟩) X.length cap ∧ base ≤ g ∧ w.heap[g]? = some (.cells cur 30 (0, 0)) ∧ X.length ≤ cap ∧ cap ≤ maxLen ∧ cur.size = cap * 3 ∧ cur.toList.take (X.length * 3) = ltcs X := by
  rcases h.2 with ⟨e, h0⟩ | ⟨g, cap, cur, e, h1⟩
  · exact .inl ⟨e, List.length_eq_zero_iff.1 h0⟩
  · exact .inr ⟨g, cap, cur, e, h1⟩
theorem ownT_of {base : Nat} {w : World} {g cap : Nat} {cur : Array Value} {X : List Lt} (hb : base ≤ g) (hg : w.heap[g]? = some (.cells cur 30 (0, 0))) (h1 : X.length ≤ cap) (h2 : cap ≤ maxLen) (h3 : cur.size = cap * 3) (h4 : cur.toList.take (X.length * 3) = ltcs X) : OwnT base w (.slice (some ⟨g, 0, none⟩) X.length cap) X :=
  ⟨ltcs_len X, .inr ⟨g, cap, cur, rfl, hb, hg, h1, h2, h3, h4⟩⟩
theorem OwnT.at {base : Nat} {w : World} {v : Value} {X : List Lt} (h : OwnT base w v X) (i : Nat) (hi : i < X.length) : ∃ g c, v = .slice (some ⟨g, 0, none⟩) X.length c ∧ X.length ≤ c ∧ c ≤ 9223372036854775807 ∧ (w.cell? ⟨g, i * 3, none⟩ = some (.int .i64 X[i].f) ∧ w.cell? ⟨g, i * 3 + 1, none⟩ = some (.int .i64 X[i].t) ∧ w.cell? ⟨g, i * 3 + 2, none⟩ = some X[i].v) ∧ ∀ j, w.frozen? ⟨g, j, none⟩ = false := by
  rcases h.cases with ⟨_, rfl⟩ | ⟨g, cap, cur, rfl, hb, hg, h1, h2, h3, h4⟩
  · simp at hi
  · unfold maxLen at h2
    have q : ∀ j, j < 3 → w.cell? ⟨g, i * 3 + j, none⟩ = (ltc X[i])[j]? := fun j hj => by
      rw [Go.Joins.cell_of_block hg, ← Array.getElem?_toList]
      have q2 : (cur.toList.take (X.length * 3))[i * 3 + j]? = cur.toList[i * 3 + j]? := by rw [List.getElem?_take, if_pos (by omega)]
      rw [← q2, h4]
      exact flat_get ltc 3 ltc_len X i j hi hj
    exact ⟨g, cap, rfl, h1, by omega, ⟨q 0 (by omega), q 1 (by omega), q 2 (by omega)⟩, fun j => Go.Joins.unfrozen_of_block hg j⟩
/-- A net: its block, how many may be, where its letters lie, they. -/
structure Nt where
  nb : Nat
  most : Nat
  a : Option Addr
  c : Nat
  X : List Lt
def Nt.v (d : Nt) : Value := .slice d.a d.X.length d.c
structure NtAt (w : World) (d : Nt) : Prop where
  blk : w.heap[d.nb]? = some (.cells #[.int .i64 (d.most : Nat), d.v] 57 (0, 0))
  row : OwnT 0 w d.v d.X
  byt : ∀ x ∈ d.X, Own w x.v x.L ∧ x.L.length ≤ 140737488355328
  le : d.X.length ≤ d.most
  few : d.most ≤ 1000
def Nt.bs (d : Nt) : List Nat := d.nb :: d.v.ownBlock.toList
theorem Nt.mem {d : Nt} {k : Nat} : k ∈ d.bs ↔ k = d.nb ∨ d.v.ownBlock = some k := by
  unfold Nt.bs
  rw [List.mem_cons, Option.mem_toList]
theorem NtAt.lt {w : World} {d : Nt} (h : NtAt w d) : ∀ k ∈ d.bs, k < w.heap.size := fun k hk => by
  rcases Nt.mem.1 hk with rfl | e
  · exact heap_lt h.blk
  · exact (h.row.lt k e).2
theorem neTN : (30 : TypeId) ≠ 57 := by decide
theorem neTB : (30 : TypeId) ≠ 5 ∧ (57 : TypeId) ≠ 5 := by decide
/-- A block of another type is not the net's. -/
theorem NtAt.apart {w : World} {d : Nt} (h : NtAt w d) {k : Nat} {cur : Array Value} {T : TypeId} {fr : Nat × Nat} (hk : w.heap[k]? = some (.cells cur T fr)) (h1 : T ≠ 30) (h2 : T ≠ 57) : k ∉ d.bs := fun e => by
  rcases Nt.mem.1 e with rfl | e
  · rw [h.blk] at hk; cases hk; exact h2 rfl
  · rcases h.row.cases with ⟨q, _⟩ | ⟨g, cap, c2, q, _, hg, _⟩
    · rw [q] at e; cases e
    · rw [q] at e; cases e; rw [hg] at hk; cases hk; exact h1 rfl
theorem NtAt.ne {w : World} {d : Nt} (h : NtAt w d) : d.v.ownBlock ≠ some d.nb := fun e => by
  rcases h.row.cases with ⟨q, _⟩ | ⟨g, cap, c2, q, _, hg, _⟩
  · rw [q] at e; cases e
  · rw [q] at e; cases e; have := h.blk; rw [hg] at this; simp at this
theorem NtAt.chg {S : List Nat} {w w' : World} {d : Nt} (h : NtAt w d) (u : Chg S w w') (h1 : d.nb ∉ S) (h2 : ∀ g, d.v.ownBlock = some g → g ∉ S) (h3 : ∀ x ∈ d.X, ∀ g, x.v.ownBlock = some g → g ∉ S) : NtAt w' d :=
  ⟨u.heapAt h.blk h1, h.row.chg u h2, fun x hx => ⟨(h.byt x hx).1.chg u (h3 x hx), (h.byt x hx).2⟩, h.le, h.few⟩
theorem NtAt.old {w w' : World} {d : Nt} (h : NtAt w d) (u : Old w w') : NtAt w' d := h.chg (Chg.ofOld (S := []) u) (by simp) (by simp) (by simp)
theorem NtAt.cells {w : World} {d : Nt} (h : NtAt w d) : w.cell? ⟨d.nb, 0, none⟩ = some (.int .i64 (d.most : Nat)) ∧ w.cell? ⟨d.nb, 1, none⟩ = some (.slice d.a d.X.length d.c) ∧ w.frozen? ⟨d.nb, 0, none⟩ = false ∧ w.frozen? ⟨d.nb, 1, none⟩ = false :=
  ⟨by rw [Go.Joins.cell_of_block h.blk]; rfl, by rw [Go.Joins.cell_of_block h.blk]; rfl, Go.Joins.unfrozen_of_block h.blk 0, Go.Joins.unfrozen_of_block h.blk 1⟩
/-- A byte row lies in a block that isn't the net's. -/
theorem Own.off {w : World} {d : Nt} {v : Value} {L : List Nat} (o : Own w v L) (h : NtAt w d) : ∀ g, v.ownBlock = some g → g ∉ d.bs := fun g e => by
  rcases o.cases with ⟨q, _⟩ | ⟨g', cap, cur, q, hg, _⟩
  · rw [q] at e; cases e
  · rw [q] at e; cases e; exact h.apart hg (by decide) (by decide)
/-- The net's row is another, or another one's. -/
theorem NtAt.put {w w' : World} {d : Nt} (h : NtAt w d) (a : Option Addr) (c : Nat) (X : List Lt) (u : Chg d.bs w w') (hb : w'.heap[d.nb]? = some (.cells #[.int .i64 (d.most : Nat), .slice a X.length c] 57 (0, 0))) (hr : OwnT 0 w' (.slice a X.length c) X) (hX : ∀ x ∈ X, x ∈ d.X ∨ (Own w' x.v x.L ∧ x.L.length ≤ 140737488355328)) (hl : X.length ≤ d.most) : NtAt w' { d with a := a, c := c, X := X } :=
  ⟨hb, hr, fun x hx => by
    rcases hX x hx with q | q
    · exact ⟨(h.byt x q).1.chg u ((h.byt x q).1.off h), (h.byt x q).2⟩
    · exact q, hl, h.few⟩
set_option maxHeartbeats 400000 in
set_option maxRecDepth 20000 in
theorem has_yes (d : Nt) (i : Nat) (w : World) (h : NtAt w d) (hi : i < d.X.length) : Calls Try.prog 22 #[.pointer (some ⟨d.nb, 0, none⟩), .int .i64 (i : Nat)] w fun e w' => e = .returned (.bool true) ∧ w' = w := by
  obtain ⟨c0, c1, -, -⟩ := h.cells
  have l1 : (i : Int) < (d.X.length : Int) := by omega
  have l0 : (0 : Int) ≤ (i : Int) := by omega
  clear h
  generalize d.X.length = n at *
  go_enter Try.func22, Try.ntmps22
  go_wp2
  go_ret
  exact ⟨rfl, rfl⟩
set_option maxHeartbeats 400000 in
set_option maxRecDepth 20000 in
theorem has_no (d : Nt) (i : Int) (w : World) (h : NtAt w d) (hi : i < 0 ∨ (d.X.length : Int) ≤ i) : Calls Try.prog 22 #[.pointer (some ⟨d.nb, 0, none⟩), .int .i64 i] w fun e w' => e = .returned (.bool false) ∧ w' = w := by
  obtain ⟨c0, c1, -, -⟩ := h.cells
  clear h
  generalize d.X.length = n at *
  by_cases q : i < 0
  · have l0 : ¬ (0 : Int) ≤ i := by omega
    clear hi
    go_enter Try.func22, Try.ntmps22
    go_wp2
    go_ret
    exact ⟨rfl, rfl⟩
  · have l0 : (0 : Int) ≤ i := by omega
    have l1 : ¬ i < (n : Int) := by omega
    clear hi q
    go_enter Try.func22, Try.ntmps22
    go_wp2
    go_ret
    exact ⟨rfl, rfl⟩
set_option maxHeartbeats 400000 in
set_option maxRecDepth 20000 in
theorem len_any (d : Nt) (w : World) (h : NtAt w d) : Calls Try.prog 11 #[.pointer (some ⟨d.nb, 0, none⟩)] w fun e w' => e = .returned (.int .i64 (d.X.length : Nat)) ∧ w' = w := by
  obtain ⟨c0, c1, -, -⟩ := h.cells
  clear h
  generalize d.X.length = n at *
  go_enter Try.func11, Try.ntmps11
  go_wp2
  go_ret
  exact ⟨rfl, rfl⟩
def mostN (m : Int) : Nat := (max 0 (min m 1000)).toNat
set_option maxHeartbeats 400000 in
set_option maxRecDepth 20000 in
theorem new_any (m : Int) (w : World) : Calls Try.prog 6 #[.int .i64 m] w fun e w' => ∃ d : Nt, e = .returned (.pointer (some ⟨d.nb, 0, none⟩)) ∧ NtAt w' d ∧ d.most = mostN m ∧ d.X = [] ∧ Old w w' ∧ ∀ k ∈ d.bs, w.heap.size ≤ k := by
  have hM : max 0 (min m 1000) = ((mostN m : Nat) : Int) := by unfold mostN; omega
  have hL := hid (show mostN m ≤ 1000 from by unfold mostN; omega)
  generalize mostN m = k at *
  go_enter Try.func6, Try.ntmps6
  go_wp2
  go_ret
  refine ⟨⟨w.heap.size, k, none, 0, []⟩, rfl, ⟨?_, OwnT.nil _ _, by simp, by simp, hL.out⟩, rfl, rfl, (Old.refl w).alloc _, fun x hx => ?_⟩
  · have := alloc_at w (.cells #[.int .i64 (k : Nat), .slice none 0 0] 57)
    simpa [hM, Nt.v] using this
  · rcases Nt.mem.1 hx with rfl | e
    · exact Nat.le_refl _
    · cases e
end Go.Proofs.Ytejeihbcakojeaa
