/- Rows of spans and of ranges that the call itself has made; conditions: the lengths fit. -/
import Derived.Test.YtbkbnfgjkefcmaaGreatMv
import Derived.Test.YtbkbnfgjkefcmaaGreatNn
import Derived.Laws.AppendOwnNone
import Derived.OneCell
import Derived.ArgAppend
import Derived.OwnWalk
import Derived.Deep.QuietTactic
import Derived.BigQuiet
import Derived.Deep.Draws
namespace Go.Proofs.YtbkbnfgjkefcmaaGreat
open Go.RowKit
set_option linter.unusedVariables false
/-- Nothing that was there has turned. -/
def Old (w w' : World) : Prop := Below w.heap.size w w'
theorem Old.refl (w : World) : Old w w := Below.refl _ _
theorem Old.trans {a b c : World} (h : Old a b) (k : Old b c) : Old a c := Below.trans h (Below.mono k h.size)
theorem Old.drew {a w : World} (h : Old a w) : Old a w.drew := Below.drew h
theorem Old.drewN {a w : World} (h : Old a w) (n : Nat) : Old a (w.drewN n) := below_drewN h n
theorem Old.alloc {a w : World} (h : Old a w) (o : Obj) : Old a (w.alloc o) := Below.alloc h h.size o
theorem Old.setCell {a w : World} (h : Old a w) {p : Addr} (hp : a.heap.size ≤ p.block) (u : Value) : Old a (w.setCell p u) := Below.setCell h hp u
theorem Up.old {a w : World} (h : Up a w) : Old a w := h.toBelow
theorem Old.below {a w w' : World} (h : Old a w) (k : Below a.heap.size w w') : Old a w' := Below.trans h k
theorem Old.keep {W w' : World} (h : Old W w') {p : Addr} {v : Value} (hc : W.cell? p = some v) : w'.cell? p = some v := by
  rw [Below.cell (p := p) h (World.block_lt_of_cell? W p hc)]; exact hc
theorem Old.keepF {W w' : World} (h : Old W w') {p : Addr} {v : Value} (hc : W.cell? p = some v) (hf : W.frozen? p = false) : w'.frozen? p = false := by
  rw [Below.frozen (p := p) h (World.block_lt_of_cell? W p hc)]; exact hf
structure Sp where
  a : Nat
  b : Nat
  p : Bool
  q : Bool
def spc (s : Sp) : List Value := [.float .f64 s.a, .float .f64 s.b, .bool s.p, .bool s.q]
def spcs (L : List Sp) : List Value := L.flatMap spc
def rgc (r : Nat × Nat) : List Value := [.int .u64 (r.1 : Nat), .int .u64 (r.2 : Nat)]
def rgcs (L : List (Nat × Nat)) : List Value := L.flatMap rgc
theorem flat_len {α : Type} (c : α → List Value) (k : Nat) (hk : ∀ x, (c x).length = k) : ∀ L : List α, (L.flatMap c).length = L.length * k
  | [] => by simp
  | x :: t => by rw [List.flatMap_cons, List.length_append, hk, flat_len c k hk t, List.length_cons, Nat.add_mul]; omega
theorem flat_get {α : Type} (c : α → List Value) (k : Nat) (hk : ∀ x, (c x).length = k) : ∀ (L : List α) (i j : Nat) (hi : i < L.length), j < k → (L.flatMap c)[i * k + j]? = (c L[i])[j]?
  | [], i, _, hi, _ => by simp at hi
  | x :: t, 0, j, _, hj => by
    rw [List.flatMap_cons, List.getElem?_append_left (by rw [hk]; omega)]; simp
  | x :: t, i + 1, j, hi, hj => by
    rw [List.flatMap_cons, List.getElem?_append_right (by rw [hk, Nat.add_mul]; omega), hk]
    rw [show (i + 1) * k + j - k = i * k + j by rw [Nat.add_mul]; omega]
    rw [flat_get c k hk t i j (by simpa using hi) hj]
    simp
theorem spcs_len (L : List Sp) : (spcs L).length = L.length * 4 := flat_len spc 4 (fun _ => rfl) L
theorem rgcs_len (L : List (Nat × Nat)) : (rgcs L).length = L.length * 2 := flat_len rgc 2 (fun _ => rfl) L
theorem spcs_app (L M : List Sp) : spcs L ++ spcs M = spcs (L ++ M) := by simp [spcs]
theorem rgcs_app (L M : List (Nat × Nat)) : rgcs L ++ rgcs M = rgcs (L ++ M) := by simp [rgcs]
theorem spcs_one (L : List Sp) : ∀ u ∈ spcs L, u.oneCell' = true := by
  intro u hu
  obtain ⟨s, _, h⟩ := List.mem_flatMap.1 hu
  simp [spc] at h
  rcases h with rfl | rfl | rfl | rfl <;> rfl
theorem rgcs_one (L : List (Nat × Nat)) : ∀ u ∈ rgcs L, u.oneCell' = true := by
  intro u hu
  obtain ⟨s, _, h⟩ := List.mem_flatMap.1 hu
  simp [rgc] at h
  rcases h with rfl | rfl <;> rfl
theorem infoSpanZ : (Tryz.prog.info? 67).map (fun i => (i.zero, i.size, i.bytes)) = some (some (.agg #[.float .f64 0, .float .f64 0, .bool false, .bool false]), 4, 24) := by kernel_rfl
theorem infoRangeZ : (Tryz.prog.info? 64).map (fun i => (i.zero, i.size, i.bytes)) = some (some (.agg #[.int .u64 0, .int .u64 0]), 2, 16) := by kernel_rfl
/-- The slice value v owns spans among the call's own blocks. -/
def OwnS (base : Nat) (w : World) (v : Value) (L : List Sp) : Prop := w.ownsRow base 67 4 v L.length (spcs L)
/-- The slice value v owns ranges among the call's own blocks. -/
def OwnG (base : Nat) (w : World) (v : Value) (L : List (Nat × Nat)) : Prop := w.ownsRow base 64 2 v L.length (rgcs L)
/-- A span lies at a place. -/
def SpIn (w : World) (b o : Nat) (s : Sp) : Prop := w.cell? ⟨b, o, none⟩ = some (.float .f64 s.a) ∧ w.cell? ⟨b, o + 1, none⟩ = some (.float .f64 s.b) ∧ w.cell? ⟨b, o + 2, none⟩ = some (.bool s.p) ∧ w.cell? ⟨b, o + 3, none⟩ = some (.bool s.q)
theorem SpIn.old {w w' : World} {b o : Nat} {s : Sp} (h : SpIn w b o s) (u : Old w w') : SpIn w' b o s := ⟨u.keep h.1, u.keep h.2.1, u.keep h.2.2.1, u.keep h.2.2.2⟩
def RgIn (w : World) (b o : Nat) (r : Nat × Nat) : Prop := w.cell? ⟨b, o, none⟩ = some (.int .u64 (r.1 : Nat)) ∧ w.cell? ⟨b, o + 1, none⟩ = some (.int .u64 (r.2 : Nat))
theorem spIn_new (w : World) (s : Sp) (g : Nat) (hg : w.heap.size = g) : ∀ i (hi : i < [s].length), SpIn (w.alloc (.cells #[.float .f64 s.a, .float .f64 s.b, .bool s.p, .bool s.q] 67)) g (0 + i * 4) [s][i] := by
  intro i hi
  obtain rfl : i = 0 := by simpa using hi
  subst hg
  simp [SpIn]
theorem rgIn_new (w : World) (r : Nat × Nat) (g : Nat) (hg : w.heap.size = g) : RgIn (w.alloc (.cells #[.int .u64 (r.1 : Nat), .int .u64 (r.2 : Nat)] 64)) g 0 r := by
  subst hg
  simp [RgIn]
theorem RgIn.old {w w' : World} {b o : Nat} {r : Nat × Nat} (h : RgIn w b o r) (u : Old w w') : RgIn w' b o r := ⟨u.keep h.1, u.keep h.2⟩
theorem own_old {base : Nat} {w w' : World} {t : TypeId} {k n : Nat} {xs : List Value} {v : Value} (h : w.ownsRow base t k v n xs) (u : Old w w') : w'.ownsRow base t k v n xs := by
  refine ⟨h.1, ?_⟩
  rcases h.2 with e | ⟨g, cap, cur, e, hb', hg, r⟩
  · exact .inl e
  · exact .inr ⟨g, cap, cur, e, hb', by rw [u.block g (lt_of_block hg)]; exact hg, r⟩
theorem OwnS.old {base : Nat} {w w' : World} {v : Value} {L : List Sp} (h : OwnS base w v L) (u : Old w w') : OwnS base w' v L := own_old h u
theorem OwnG.old {base : Nat} {w w' : World} {v : Value} {L : List (Nat × Nat)} (h : OwnG base w v L) (u : Old w w') : OwnG base w' v L := own_old h u
theorem OwnS.nil (base : Nat) (w : World) : OwnS base w (.slice none 0 0) [] := World.ownsRow_nil w base _ 4
theorem OwnG.nil (base : Nat) (w : World) : OwnG base w (.slice none 0 0) [] := World.ownsRow_nil w base _ 2
theorem OwnS.empty {base g : Nat} {w : World} (hb : base ≤ w.heap.size) (hg : w.heap.size = g) : OwnS base (w.alloc (.cells #[] 67)) (.slice (some ⟨g, 0, none⟩) 0 0) [] := by
  subst hg
  exact World.ownsRow_made w #[] 0 hb (by unfold maxLen; omega) rfl
theorem OwnG.empty {base g : Nat} {w : World} (hb : base ≤ w.heap.size) (hg : w.heap.size = g) : OwnG base (w.alloc (.cells #[] 64)) (.slice (some ⟨g, 0, none⟩) 0 0) [] := by
  subst hg
  exact World.ownsRow_made w #[] 0 hb (by unfold maxLen; omega) rfl
theorem OwnS.len {base : Nat} {w : World} {v : Value} {L : List Sp} (h : OwnS base w v L) : ∃ a c, v = .slice a L.length c := by
  rcases h.2 with ⟨rfl, e⟩ | ⟨g, cap, cur, rfl, _⟩
  · exact ⟨none, 0, by rw [e]⟩
  · exact ⟨_, _, rfl⟩
theorem OwnG.len {base : Nat} {w : World} {v : Value} {L : List (Nat × Nat)} (h : OwnG base w v L) : ∃ a c, v = .slice a L.length c := by
  rcases h.2 with ⟨rfl, e⟩ | ⟨g, cap, cur, rfl, _⟩
  · exact ⟨none, 0, by rw [e]⟩
  · exact ⟨_, _, rfl⟩
theorem OwnS.shape {base : Nat} {w : World} {v : Value} {L : List Sp} (h : OwnS base w v L) (hn : 0 < L.length) :
    ∃ g cap, v = .slice (some ⟨g, 0, none⟩) L.length cap ∧ base ≤ g ∧ g < w.heap.size ∧ L.length ≤ cap ∧ cap ≤ maxLen ∧ (∀ i (hi : i < L.length), SpIn w g (i * 4) L[i]) ∧ ∀ o, w.frozen? ⟨g, o, none⟩ = false := by
  have h2 := h
  unfold OwnS at h2
  rcases h2.2 with ⟨_, e⟩ | ⟨g, cap, cur, rfl, hb, hg, hnc, hcm, hcs, htk⟩
  · omega
  · refine ⟨g, cap, rfl, hb, lt_of_block hg, hnc, hcm, fun i hi => ?_, h2.frozenAt⟩
    have H : ∀ j, j < 4 → w.cell? ⟨g, i * 4 + j, none⟩ = (spc L[i])[j]? := fun j hj => by
      rw [h2.cellAt (i * 4 + j) (by omega)]; exact flat_get spc 4 (fun _ => rfl) L i j hi hj
    exact ⟨H 0 (by omega), H 1 (by omega), H 2 (by omega), H 3 (by omega)⟩
theorem OwnG.shape {base : Nat} {w : World} {v : Value} {L : List (Nat × Nat)} (h : OwnG base w v L) (hn : 0 < L.length) :
    ∃ g cap, v = .slice (some ⟨g, 0, none⟩) L.length cap ∧ base ≤ g ∧ g < w.heap.size ∧ (∀ i (hi : i < L.length), RgIn w g (i * 2) L[i]) := by
  have h2 := h
  unfold OwnG at h2
  rcases h2.2 with ⟨_, e⟩ | ⟨g, cap, cur, rfl, hb, hg, hnc, hcm, hcs, htk⟩
  · omega
  · refine ⟨g, cap, rfl, hb, lt_of_block hg, fun i hi => ?_⟩
    have H : ∀ j, j < 2 → w.cell? ⟨g, i * 2 + j, none⟩ = (rgc L[i])[j]? := fun j hj => by
      rw [h2.cellAt (i * 2 + j) (by omega)]; exact flat_get rgc 2 (fun _ => rfl) L i j hi hj
    exact ⟨H 0 (by omega), H 1 (by omega)⟩
/-- append of spans that lie somewhere. -/
theorem wp_appS {ops : Array Oper} {rest : List Oper} {o : Oper} {a : Act} {Q : Exit → Act → World → Prop} {w : World} (hgd : o.guard = none) (s x : Operand)
    (ho : o.op = .call { callee := .builtin .append, args := #[s, x], argTypes := #[29, 29] }) (base : Nat) (v : Value) (L M : List Sp) (g off c1 : Nat)
    (hs : a.eval s = v) (hx : a.eval x = .slice (some ⟨g, off, none⟩) M.length c1) (hown : OwnS base w v L) (hc : ∀ i (hi : i < M.length), SpIn w g (off + i * 4) M[i]) (hb : L.length + M.length ≤ 5864062014805) (hbase : base ≤ w.heap.size)
    (h : ∀ v' w', OwnS base w' v' (L ++ M) → Below base w w' → wpList Tryz.prog ops Q rest (a.put o.dst v') w') : wpList Tryz.prog ops Q (o :: rest) a w := by
  obtain ⟨i0, hi, hz0, hz1, hz2⟩ := info_parts infoSpanZ
  refine wpList_append_own w hgd s x 29 ho base 67 i0 _ 4 24 Tryz.underlying29 hi hz0 hz1 hz2 rfl (by decide) v L.length (spcs L) hs hown ⟨g, off, none⟩ M.length c1 (spcs M) hx (spcs_len M) ?_ (spcs_one M) (by unfold maxLen; omega) (by omega) hbase ?_
  · intro j u hj
    have hl := spcs_len M
    have hjl : j < M.length * 4 := by rw [← hl]; exact (List.getElem?_eq_some_iff.1 hj).1
    obtain ⟨q, r, hr, rfl⟩ : ∃ q r, r < 4 ∧ j = q * 4 + r := ⟨j / 4, j % 4, Nat.mod_lt _ (by decide), by omega⟩
    have hq : q < M.length := by omega
    rw [spcs, flat_get spc 4 (fun _ => rfl) M q r hq hr] at hj
    have k := hc q hq
    rw [Go.WideShapes.add_plain]
    match r, hr with
    | 0, _ => simp [spc] at hj; subst hj; exact k.1
    | 1, _ => simp [spc] at hj; subst hj; show w.cell? ⟨g, off + (q * 4 + 1), none⟩ = _; rw [← Nat.add_assoc]; exact k.2.1
    | 2, _ => simp [spc] at hj; subst hj; show w.cell? ⟨g, off + (q * 4 + 2), none⟩ = _; rw [← Nat.add_assoc]; exact k.2.2.1
    | 3, _ => simp [spc] at hj; subst hj; show w.cell? ⟨g, off + (q * 4 + 3), none⟩ = _; rw [← Nat.add_assoc]; exact k.2.2.2
  · intro v' w' h1 h2 h3
    exact h v' w' (by unfold OwnS; rw [spcs_app] at h1; simpa using h1) (Below.grown (Below.refl _ _) h2 hbase (fun k hk => (World.ownsRow.lt hown k hk).1))
theorem wp_appG {ops : Array Oper} {rest : List Oper} {o : Oper} {a : Act} {Q : Exit → Act → World → Prop} {w : World} (hgd : o.guard = none) (s x : Operand)
    (ho : o.op = .call { callee := .builtin .append, args := #[s, x], argTypes := #[72, 72] }) (base : Nat) (v : Value) (L : List (Nat × Nat)) (r : Nat × Nat) (g c1 : Nat)
    (hs : a.eval s = v) (hx : a.eval x = .slice (some ⟨g, 0, none⟩) 1 c1) (hown : OwnG base w v L) (hc : RgIn w g 0 r) (hb : L.length + 1 ≤ 8796093022208) (hbase : base ≤ w.heap.size)
    (h : ∀ v' w', OwnG base w' v' (L ++ [r]) → w.grownBy w' v.ownBlock → wpList Tryz.prog ops Q rest (a.put o.dst v') w') : wpList Tryz.prog ops Q (o :: rest) a w := by
  obtain ⟨i0, hi, hz0, hz1, hz2⟩ := info_parts infoRangeZ
  refine wpList_append_own w hgd s x 72 ho base 64 i0 _ 2 16 Tryz.underlying72 hi hz0 hz1 hz2 rfl (by decide) v L.length (rgcs L) hs hown ⟨g, 0, none⟩ 1 c1 (rgcs [r]) hx rfl ?_ (rgcs_one [r]) (by unfold maxLen; omega) (by omega) hbase ?_
  · intro j u hj
    rw [Go.WideShapes.add_plain]
    match j with
    | 0 => simp [rgcs, rgc] at hj; subst hj; exact hc.1
    | 1 => simp [rgcs, rgc] at hj; subst hj; exact hc.2
    | j + 2 => simp [rgcs, rgc] at hj
  · intro v' w' h1 h2 h3
    exact h v' w' (by unfold OwnG; rw [rgcs_app] at h1; simpa using h1) h2
theorem OwnS.mono {base b' : Nat} {w : World} {v : Value} {L : List Sp} (h : OwnS base w v L) (hb : b' ≤ base) : OwnS b' w v L := by
  refine ⟨h.1, ?_⟩
  rcases h.2 with e | ⟨g, cap, cur, e, hb', r⟩
  · exact .inl e
  · exact .inr ⟨g, cap, cur, e, by omega, r⟩
theorem OwnG.mono {base b' : Nat} {w : World} {v : Value} {L : List (Nat × Nat)} (h : OwnG base w v L) (hb : b' ≤ base) : OwnG b' w v L := by
  refine ⟨h.1, ?_⟩
  rcases h.2 with e | ⟨g, cap, cur, e, hb', r⟩
  · exact .inl e
  · exact .inr ⟨g, cap, cur, e, by omega, r⟩
/-- A row of spans, somewhere. -/
def SRow (w : World) (v : Value) (n : Nat) (f : Nat → Sp) : Prop := n ≤ 9223372036854775807 ∧ ∃ a c, v = .slice a n c ∧ ∀ i, i < n → ∃ b off, a = some ⟨b, off, none⟩ ∧ Fl.W (f i).a ∧ Fl.W (f i).b ∧ SpIn w b (off + i * 4) (f i)
theorem SRow.old {w w' : World} {v : Value} {n : Nat} {f : Nat → Sp} (h : SRow w v n f) (u : Old w w') : SRow w' v n f := by
  obtain ⟨hm, a, c, hv, hc⟩ := h
  exact ⟨hm, a, c, hv, fun i hi => by obtain ⟨b, off, q1, q2, q3, c0⟩ := hc i hi; exact ⟨b, off, q1, q2, q3, c0.old u⟩⟩
def atS (L : List Sp) (i : Nat) : Sp := (L[i]?).getD ⟨0, 0, false, false⟩
theorem atS_get (L : List Sp) (i : Nat) (h : i < L.length) : atS L i = L[i] := by simp [atS, h]
theorem OwnS.row {base : Nat} {w : World} {v : Value} {L : List Sp} (h : OwnS base w v L) (hW : ∀ s ∈ L, Fl.W s.a ∧ Fl.W s.b) (hl : L.length ≤ 9223372036854775807) : SRow w v L.length (atS L) := by
  refine ⟨hl, ?_⟩
  by_cases hn : 0 < L.length
  · obtain ⟨g, cap, hv, _, _, _, _, hc, _⟩ := h.shape hn
    refine ⟨_, _, hv, fun i hi => ⟨g, 0, rfl, ?_, ?_, ?_⟩⟩
    · rw [atS_get L i hi]; exact (hW _ (List.getElem_mem hi)).1
    · rw [atS_get L i hi]; exact (hW _ (List.getElem_mem hi)).2
    · rw [atS_get L i hi, Nat.zero_add]; exact hc i hi
  · obtain ⟨a, c, hv⟩ := h.len
    exact ⟨a, c, hv, fun i hi => absurd hi (by omega)⟩
end Go.Proofs.YtbkbnfgjkefcmaaGreat
