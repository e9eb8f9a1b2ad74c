/- flo.Sort and the document's Sort at every row of numbers, told alike; rows of numbers compared; conditions: the lengths fit. -/
import Derived.Test.YtbkbnfgjkefcmaaGreatSkm
import Derived.Test.YtbkbnfgjkefcmaaGreatWa
namespace Go.Proofs.YtbkbnfgjkefcmaaGreat
open Go.RowKit
set_option linter.unusedVariables false
attribute [local go_sem] run_bits run_frombits run_store_float eqF
/-- A row of the call's own that holds numbers. -/
def FOwn (base : Nat) (w : World) (v : Value) (L : List Nat) : Prop := ∃ (p : Option Addr) (c : Nat), v = .slice p L.length c ∧ (0 < L.length → ∃ g, p = some ⟨g, 0, none⟩ ∧ base ≤ g ∧ ∀ i (hi : i < L.length), w.cell? ⟨g, i, none⟩ = some (.float .f64 L[i]) ∧ w.frozen? ⟨g, i, none⟩ = false)
theorem FOwn.old {base : Nat} {w w' : World} {v : Value} {L : List Nat} (h : FOwn base w v L) (u : Old w w') : FOwn base w' v L := by
  obtain ⟨p, c, hv, hc⟩ := h
  exact ⟨p, c, hv, fun hl => by obtain ⟨g, e, hb, k⟩ := hc hl; exact ⟨g, e, hb, fun i hi => ⟨u.keep (k i hi).1, u.keepF (k i hi).1 (k i hi).2⟩⟩⟩
def atN (L : List Nat) (i : Nat) : Nat := (L[i]?).getD 0
theorem atN_get (L : List Nat) (i : Nat) (h : i < L.length) : atN L i = L[i] := by simp [atN, h]
theorem FOwn.row {base : Nat} {w : World} {v : Value} {L : List Nat} (h : FOwn base w v L) (hW : ∀ y ∈ L, Fl.W y) (hl : L.length ≤ 9223372036854775807) : FRow w v L.length (atN L) := by
  obtain ⟨p, c, hv, hc⟩ := h
  refine ⟨hl, p, c, hv, fun i hi => ?_⟩
  obtain ⟨g, e, _, k⟩ := hc (by omega)
  refine ⟨g, 0, e, ?_, ?_⟩
  · rw [atN_get L i hi]; exact hW _ (List.getElem_mem hi)
  · rw [atN_get L i hi, Nat.zero_add]; exact (k i hi).1
theorem FRow.cases {w : World} {v : Value} {n : Nat} {x : Nat → Nat} (h : FRow w v n x) : (n = 0 ∧ ∃ a c, v = .slice a 0 c) ∨ (0 < n ∧ ∃ b off c, v = .slice (some ⟨b, off, none⟩) n c ∧ ∀ i, i < n → Fl.W (x i) ∧ w.cell? ⟨b, off + i, none⟩ = some (.float .f64 (x i))) := by
  obtain ⟨_, a, c, rfl, hc⟩ := h
  by_cases h0 : n = 0
  · subst h0; exact .inl ⟨rfl, a, c, rfl⟩
  · obtain ⟨b, off, rfl, _⟩ := hc 0 (by omega)
    refine .inr ⟨by omega, b, off, c, rfl, fun i hi => ?_⟩
    obtain ⟨b', off', e, q⟩ := hc i hi
    cases e; exact q
theorem sortF_any (v : Value) (n : Nat) (x : Nat → Nat) (hn : n ≤ 17592186044000) (w : World) (hv : FRow w v n x) :
    Calls Tryz.prog 96 #[v] w fun e w' => ∃ v' : Value, e = .returned v' ∧ FOwn w.heap.size w' v' (Fl.sortL x n) ∧ Old w w' := by
  rcases hv.cases with ⟨rfl, a, c, rfl⟩ | ⟨h0, b, off, c, rfl, hc⟩
  · refine (floSort_none a c w).mono ?_
    rintro e w' ⟨⟨g, c2, rfl⟩, hu⟩
    exact ⟨_, rfl, ⟨g, c2, rfl, fun h => absurd h (by simp [Fl.sortL])⟩, hu⟩
  · refine (floSort_some b off n c x hn h0 w hc).mono ?_
    rintro e w' ⟨g, c2, rfl, hb, hk, hu⟩
    refine ⟨_, rfl, ⟨_, c2, rfl, fun _ => ⟨g, rfl, hb, fun i hi => ?_⟩⟩, hu⟩
    have := hk i hi
    rw [List.getElem?_eq_getElem hi] at this
    exact this
theorem OwnF.fown {base : Nat} {w : World} {v : Value} {L : List Nat} (h : OwnF base w v L) : FOwn base w v L := by
  have h2 := h
  unfold OwnF at h2
  rcases h2.2 with ⟨rfl, e⟩ | ⟨g, cap, cur, rfl, hb, hg, hnc, hcm, hcs, htk⟩
  · exact ⟨none, 0, by rw [e], fun hl => absurd hl (by omega)⟩
  · refine ⟨_, cap, rfl, fun _ => ⟨g, rfl, hb, fun i hi => ⟨?_, h2.frozenAt i⟩⟩⟩
    rw [h2.cellAt i (by omega)]
    simp [fls, hi]
theorem sortR_any (v : Value) (n : Nat) (x : Nat → Nat) (hn : n ≤ 17592186044000) (w : World) (hv : FRow w v n x) :
    Calls Tryz.prog 41 #[v] w fun e w' => ∃ v' : Value, e = .returned v' ∧ FOwn w.heap.size w' v' (Fl.sortL x n) ∧ Old w w' := by
  rcases hv.cases with ⟨rfl, a, c, rfl⟩ | ⟨h0, b, off, c, rfl, hc⟩
  · refine (refSort_none a c w).mono ?_
    rintro e w' ⟨⟨g, c2, rfl⟩, hu⟩
    exact ⟨_, rfl, ⟨g, c2, rfl, fun h => absurd h (by simp [Fl.sortL])⟩, hu⟩
  · refine (sort_any b off n c x hn w hc).mono ?_
    rintro e w' ⟨v', rfl, ho, hu⟩
    exact ⟨v', rfl, ho.fown, hu⟩
/-- Rows of the same numbers. -/
theorem sameF (v1 v2 : Value) (n : Nat) (x : Nat → Nat) (w : World) (h1 : FRow w v1 n x) (h2 : FRow w v2 n x) :
    Calls Tryz.prog 40 #[v1, v2] w fun e w' => e = .returned (.bool true) ∧ Old w w' := by
  have hm := h1.1
  rcases h1.cases with ⟨rfl, a, c, rfl⟩ | ⟨h0, b, off, c, rfl, hc⟩ <;> rcases h2.cases with ⟨e0, a', c', rfl⟩ | ⟨h0', b', off', c', rfl, hc'⟩
  · exact (sameKeys_none a a' c c' w).mono fun e w' h => ⟨h.1, by rw [h.2]; exact Old.refl _⟩
  · omega
  · omega
  · exact sameKeys_eq b off c b' off' c' n x (by unfold maxLen; omega) w (fun i hi => (hc i hi).2) (fun i hi => (hc' i hi).2)
/-- Sorting what is sorted. -/
theorem sortL_W (x : Nat → Nat) (n : Nat) (hx : ∀ i, i < n → Fl.W (x i)) : ∀ y ∈ Fl.sortL x n, Fl.W y := fun y hy => ((Fl.sortL_all x n hx n (Nat.le_refl _)).2.1 y hy).1
theorem sortL_again (x : Nat → Nat) (n : Nat) (hx : ∀ i, i < n → Fl.W (x i)) : Fl.sortL (atN (Fl.sortL x n)) (Fl.sortL x n).length = Fl.sortL x n := by
  have a := Fl.sortL_all x n hx n (Nat.le_refl _)
  have hw : ∀ i, i < (Fl.sortL x n).length → Fl.W (atN (Fl.sortL x n) i) := fun i hi => by rw [atN_get _ i hi]; exact (a.2.1 _ (List.getElem_mem hi)).1
  have b := Fl.sortL_all (atN (Fl.sortL x n)) (Fl.sortL x n).length hw _ (Nat.le_refl _)
  refine Fl.asc_eq _ _ b.1 a.1 fun z => ?_
  rw [b.2.2 z]
  constructor
  · rintro ⟨i, hi, rfl⟩
    rw [atN_get _ i hi, (a.2.1 _ (List.getElem_mem hi)).2]
    exact List.getElem_mem hi
  · intro hz
    obtain ⟨i, hi, rfl⟩ := List.getElem_of_mem hz
    exact ⟨i, hi, by rw [atN_get _ i hi, (a.2.1 _ (List.getElem_mem hi)).2]⟩
end Go.Proofs.YtbkbnfgjkefcmaaGreat
