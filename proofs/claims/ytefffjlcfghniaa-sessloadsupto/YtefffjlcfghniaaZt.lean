/- sess' tables, plain: what Put makes is a table again; no condition. -/
import Derived.Test.YtefffjlcfghniaaZs
namespace Go.Proofs.Ytefffjlcfghniaa
open Go.RowKit Go.Lib
set_option linter.unusedVariables false
set_option linter.unusedSimpArgs false
set_option maxRecDepth 20000
theorem TOk.none : TOk [] (fun _ => []) where
  many := by simp
  rng := fun k h => by cases h
  some := fun k h => by cases h
  rise := fun _ => List.Pairwise.nil
  seq := fun _ x h => by cases h
  win := fun _ x h => by cases h
  len := fun _ => by simp
theorem rise_last {L : List It} (h : Rise L) {x : It} (hx : x ∈ L) : x.n ≤ hiL L := by
  obtain ⟨i, hi, e⟩ := List.getElem_of_mem hx
  unfold hiL
  rw [if_neg (by omega), atI_get L _ (by omega)]
  by_cases q : i = L.length - 1
  · subst q; rw [e]; exact Int.le_refl _
  · have := List.pairwise_iff_getElem.1 h i (L.length - 1) hi (by omega) (by omega)
    rw [e] at this
    omega
theorem hi_of {L : List It} (h : Rise L) {x : It} (hx : x ∈ L) (hm : ∀ y ∈ L, y.n ≤ x.n) : hiL L = x.n := by
  obtain ⟨y, hy, e⟩ := hiL_mem (L := L) (fun e => by rw [e] at hx; cases hx)
  have a := hm y hy
  have b := rise_last h hx
  omega
theorem ins_mem {x y : It} {L : List It} : y ∈ insS x L ↔ y = x ∨ y ∈ L := by
  unfold insS
  rw [List.mem_append, List.mem_cons]
  constructor
  · rintro (q | q | q)
    · exact Or.inr (List.mem_of_mem_take q)
    · exact Or.inl q
    · exact Or.inr (List.mem_of_mem_drop q)
  · rintro (q | q)
    · exact Or.inr (Or.inl q)
    · rw [← List.take_append_drop (posS x.n L) L] at q
      rcases List.mem_append.1 q with r | r
      · exact Or.inl r
      · exact Or.inr (Or.inr r)
theorem found_no {q : Int} {L : List It} (hr : Rise L) (h : foundB q L = false) : ∀ y ∈ L, y.n ≠ q := by
  intro y hy e
  obtain ⟨i, hi, ei⟩ := List.getElem_of_mem hy
  have ea : atI L i = y := by rw [atI_get L i hi, ei]
  have h1 : posS q L ≤ i := Classical.byContradiction fun c => by have := posS_lt q L i (by omega); rw [ea] at this; omega
  unfold foundB at h
  rw [decide_eq_true (show posS q L < L.length by omega), Bool.true_and, decide_eq_false_iff_not] at h
  have h2 := posS_ge q L hr (posS q L) (Nat.le_refl _) (by omega)
  by_cases c : posS q L = i
  · rw [c, ea] at h; exact h e
  · have := List.pairwise_iff_getElem.1 hr (posS q L) i (by omega) hi (by omega)
    rw [ei] at this
    rw [atI_get L (posS q L) (by omega)] at h h2
    omega
theorem found_yes {q : Int} {L : List It} (hr : Rise L) {y : It} (hy : y ∈ L) (e : y.n = q) : foundB q L = true ∧ atI L (posS q L) = y := by
  obtain ⟨i, hi, ei⟩ := List.getElem_of_mem hy
  have ea : atI L i = y := by rw [atI_get L i hi, ei]
  have h1 : posS q L ≤ i := Classical.byContradiction fun c => by have := posS_lt q L i (by omega); rw [ea] at this; omega
  have h2 : i ≤ posS q L := Classical.byContradiction fun c => by
    have a := posS_ge q L hr (posS q L) (Nat.le_refl _) (by omega)
    have b := List.pairwise_iff_getElem.1 hr (posS q L) i (by omega) hi (by omega)
    rw [ei] at b
    rw [atI_get L (posS q L) (by omega)] at a
    omega
  have h3 : posS q L = i := by omega
  refine ⟨?_, by rw [h3, ea]⟩
  unfold foundB
  rw [h3, ea, decide_eq_true hi, decide_eq_true e]
  rfl
theorem ins_rise {x : It} {L : List It} (hr : Rise L) (hn : ∀ y ∈ L, y.n ≠ x.n) : Rise (insS x L) := by
  unfold Rise insS
  rw [List.pairwise_append]
  have hp := posS_le x.n L
  refine ⟨hr.sublist (List.take_sublist _ _), ?_, ?_⟩
  · rw [List.pairwise_cons]
    refine ⟨fun y hy => ?_, hr.sublist (List.drop_sublist _ _)⟩
    obtain ⟨j, hj, e⟩ := List.getElem_of_mem hy
    rw [List.length_drop] at hj
    rw [List.getElem_drop] at e
    have a := posS_ge x.n L hr (posS x.n L + j) (by omega) (by omega)
    rw [atI_get L _ (by omega), e] at a
    have b := hn y (List.mem_of_mem_drop hy)
    omega
  · intro a ha b hb
    obtain ⟨i, hi, ei⟩ := List.getElem_of_mem ha
    rw [List.length_take] at hi
    rw [List.getElem_take] at ei
    have c := posS_lt x.n L i (by omega)
    rw [atI_get L i (by omega), ei] at c
    rcases List.mem_cons.1 hb with q | q
    · rw [q]; exact c
    · obtain ⟨j, hj, e⟩ := List.getElem_of_mem q
      rw [List.length_drop] at hj
      rw [List.getElem_drop] at e
      have d := posS_ge x.n L hr (posS x.n L + j) (by omega) (by omega)
      rw [atI_get L _ (by omega), e] at d
      omega
theorem keep_mem {m : Int} {L : List It} {x : It} : x ∈ keepL m L ↔ x ∈ L ∧ m < x.n := by simp [keepL]
theorem keep_rise {m : Int} {L : List It} (h : Rise L) : Rise (keepL m L) := h.filter _
theorem keep_hi {m : Int} {L : List It} (h : Rise L) (hn : L ≠ []) (hm : m < hiL L) : hiL (keepL m L) = hiL L := by
  obtain ⟨y, hy, e⟩ := hiL_mem hn
  rw [e]
  exact hi_of (keep_rise h) (keep_mem.2 ⟨hy, by omega⟩) (fun z hz => by rw [← e]; exact rise_last h (keep_mem.1 hz).1)
theorem rise_len : ∀ (L : List It) (lo hi : Int), Rise L → (∀ x ∈ L, lo < x.n ∧ x.n ≤ hi) → (L.length : Int) ≤ max 0 (hi - lo)
  | [], lo, hi, _, _ => by simp; omega
  | x :: t, lo, hi, hr, h => by
    have hr2 := List.pairwise_cons.1 hr
    have a := h x (List.mem_cons_self ..)
    have b := rise_len t x.n hi hr2.2 (fun y hy => ⟨hr2.1 y hy, (h y (List.mem_cons_of_mem _ hy)).2⟩)
    simp
    omega
theorem ins_ne (x : It) (L : List It) : insS x L ≠ [] := fun e => by have := ins_len x L; rw [e] at this; simp at this
theorem next_hi {x : It} {L : List It} (hr : Rise L) (hn : ∀ y ∈ L, y.n ≠ x.n) : hiL (nextS x L) = hiL (insS x L) := keep_hi (ins_rise hr hn) (ins_ne x L) (by omega)
theorem putC_zero {ks : List Int} {L : Int → List It} {s : Int} {x : It} (h : putC ks L s x = 0) : lookC ks L s x.n = 0 ∧ (0 ≤ x.c ∧ x.c ≤ 999) ∧ 0 ≤ x.m ∧ x.m ≤ 1099511627776 := by
  unfold putC at h
  split at h
  · rename_i a
    split at h
    · cases h
    · rename_i b
      unfold outB at b
      simp at b
      exact ⟨a, by omega, by omega⟩
  · rename_i a; exact absurd h a
/-- What Put makes is a table. -/
theorem TOk.put {ks : List Int} {L : Int → List It} {s : Int} {x : It} (h : TOk ks L) (hc : putC ks L s x = 0) : TOk (putK ks s) (putL L s (nextS x (L s))) := by
  obtain ⟨hl, hcc, hm1, hm2⟩ := putC_zero hc
  obtain ⟨hfo, hsr, hqr, hkr, hwi⟩ := lookC_zero hl
  have hn := found_no (h.rise s) hfo
  have hri := ins_rise (h.rise s) hn
  have hnx := next_hi (h.rise s) hn
  have hin : ∀ y ∈ insS x (L s), 1 ≤ y.n ∧ y.n ≤ 1099511627776 := fun y hy => by
    rcases ins_mem.1 hy with q | q
    · rw [q]; exact hqr
    · exact h.seq s y q
  have hmem : ∀ k, k ∈ putK ks s → k = s ∨ k ∈ ks := fun k hk => by
    unfold putK at hk
    split at hk
    · exact Or.inr hk
    · rcases List.mem_append.1 hk with q | q
      · exact Or.inr q
      · simp at q; exact Or.inl q
  have hP : ∀ (P : List It → Prop), P (nextS x (L s)) → (∀ k, P (L k)) → ∀ k, P (putL L s (nextS x (L s)) k) := fun P a b k => by
    unfold putL
    split
    · exact a
    · exact b k
  refine ⟨?_, ?_, ?_, hP Rise (keep_rise hri) h.rise, hP (fun l => ∀ x ∈ l, 1 ≤ x.n ∧ x.n ≤ 1099511627776) (fun y hy => hin y (keep_mem.1 hy).1) h.seq, hP (fun l => ∀ x ∈ l, hiL l - 8 < x.n) (fun y hy => by rw [hnx]; exact (keep_mem.1 hy).2) h.win, hP (fun l => l.length ≤ 8) ?_ h.len⟩
  · unfold putK
    split
    · exact h.many
    · rename_i q
      rcases hkr with r | r
      · exact absurd r q
      · simp; omega
  · intro k hk
    rcases hmem k hk with q | q
    · rw [q]; exact hsr
    · exact h.rng k q
  · intro k hk
    unfold putL
    split
    · intro e
      obtain ⟨y, hy, ey⟩ := hiL_mem (ins_ne x (L s))
      have : y ∈ nextS x (L s) := keep_mem.2 ⟨hy, by omega⟩
      rw [e] at this
      cases this
    · rename_i q
      rcases hmem k hk with r | r
      · exact absurd r q
      · exact h.some k r
  · have := rise_len (nextS x (L s)) (hiL (insS x (L s)) - 8) (hiL (insS x (L s))) (keep_rise hri) (fun y hy => ⟨(keep_mem.1 hy).2, rise_last hri (keep_mem.1 hy).1⟩)
    omega
theorem ins_hi {x : It} {L : List It} (hr : Rise L) (hn : ∀ y ∈ L, y.n ≠ x.n) : hiL L ≤ hiL (insS x L) ∨ L = [] := by
  by_cases e : L = []
  · exact Or.inr e
  · obtain ⟨y, hy, ey⟩ := hiL_mem e
    left
    rw [ey]
    exact rise_last (ins_rise hr hn) (ins_mem.2 (Or.inr hy))
end Go.Proofs.Ytefffjlcfghniaa
