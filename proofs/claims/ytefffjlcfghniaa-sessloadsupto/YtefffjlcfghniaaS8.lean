/- The document's table of layer 13 and the program's: what each tells of the other; plain. -/
import Derived.Test.YtefffjlcfghniaaS7
import Derived.Test.YtefffjlcfghniaaZk
namespace Go.Proofs.Ytefffjlcfghniaa
open Go.RowKit Go.Lib
set_option linter.unusedVariables false
set_option linter.unusedSimpArgs false
set_option maxRecDepth 20000
/-- The document's items are what the table keeps, each once. -/
structure Rel (T : List Opv) (ks : List Int) (L : Int → List It) : Prop where
  once : T.Pairwise (· ≠ ·)
  of : ∀ o ∈ T, o.x ∈ L o.s ∧ o.s ∈ ks
  all : ∀ k, ∀ x ∈ L k, (⟨k, x⟩ : Opv) ∈ T
theorem Rel.nil : Rel [] [] (fun _ => []) := ⟨List.Pairwise.nil, fun o h => (by cases h), fun k x h => (by cases h)⟩
theorem opA_mem (T : List Opv) (i : Nat) (h : i < T.length) : opA T i ∈ T := by
  unfold opA
  rw [List.getD_eq_getElem?_getD, List.getElem?_eq_getElem h]
  exact List.getElem_mem h
theorem mem_opA {T : List Opv} {o : Opv} (h : o ∈ T) : ∃ i, i < T.length ∧ opA T i = o := by
  obtain ⟨i, hi, e⟩ := List.getElem_of_mem h
  exact ⟨i, hi, by unfold opA; rw [List.getD_eq_getElem?_getD, List.getElem?_eq_getElem hi]; exact e⟩
theorem once_len : ∀ (T M : List Opv), T.Pairwise (· ≠ ·) → (∀ x ∈ T, x ∈ M) → T.length ≤ M.length
  | [], _, _, _ => Nat.zero_le _
  | x :: T, M, hp, hs => by
    have hp' := List.pairwise_cons.1 hp
    obtain ⟨A, B, e⟩ := List.append_of_mem (hs x (by simp))
    have := once_len T (A ++ B) hp'.2 (fun y hy => by
      have h1 := hs y (List.mem_cons_of_mem _ hy)
      rw [e, List.mem_append, List.mem_cons] at h1
      rcases h1 with h1 | h1 | h1
      · exact List.mem_append_left _ h1
      · exact absurd h1.symm (hp'.1 y hy)
      · exact List.mem_append_right _ h1)
    rw [e]
    simp at this ⊢
    omega
theorem flat_le (L : Int → List It) (h : ∀ k, (L k).length ≤ 8) : ∀ ks : List Int, (ks.flatMap fun k => (L k).map fun x => (⟨k, x⟩ : Opv)).length ≤ 8 * ks.length
  | [] => by simp
  | k :: ks => by
    have := flat_le L h ks
    have := h k
    rw [List.flatMap_cons, List.length_append, List.length_map, List.length_cons]
    omega
theorem Rel.len {T : List Opv} {ks : List Int} {L : Int → List It} (h : Rel T ks L) (hk : TOk ks L) : T.length ≤ 128 := by
  have h1 := once_len T (ks.flatMap fun k => (L k).map fun x => (⟨k, x⟩ : Opv)) h.once (fun o ho => by
    obtain ⟨a, b⟩ := h.of o ho
    rw [List.mem_flatMap]
    exact ⟨o.s, b, List.mem_map.2 ⟨o.x, a, rfl⟩⟩)
  have h2 := flat_le L hk.len ks
  have h3 := hk.many
  omega
theorem hR_spec (id : Int) (T : List Opv) : ∀ k, (∀ i, i < k → (opA T i).s = id → (opA T i).x.n ≤ hR id T k) ∧ 0 ≤ hR id T k ∧ (hR id T k = 0 ∨ ∃ i, i < k ∧ (opA T i).s = id ∧ (opA T i).x.n = hR id T k)
  | 0 => ⟨fun i hi => by omega, Int.le_refl _, .inl rfl⟩
  | k + 1 => by
    obtain ⟨h1, h2, h3⟩ := hR_spec id T k
    unfold hR
    split
    · rename_i q
      refine ⟨fun i hi hs => ?_, by omega, .inr ⟨k, by omega, q.1, rfl⟩⟩
      by_cases e : i = k
      · rw [e]; exact Int.le_refl _
      · have := h1 i (by omega) hs
        omega
    · rename_i q
      refine ⟨fun i hi hs => ?_, h2, ?_⟩
      · by_cases e : i = k
        · subst e
          exact Int.not_lt.1 (fun z => q ⟨hs, z⟩)
        · exact h1 i (by omega) hs
      · rcases h3 with h3 | ⟨i, hi, r⟩
        · exact .inl h3
        · exact .inr ⟨i, by omega, r⟩
/-- The highest number is the same. -/
theorem Rel.hi {T : List Opv} {ks : List Int} {L : Int → List It} (h : Rel T ks L) (hk : TOk ks L) (id : Int) : hR id T T.length = hiL (L id) := by
  obtain ⟨h1, h2, h3⟩ := hR_spec id T T.length
  by_cases e : L id = []
  · have hz : hiL (L id) = 0 := by rw [e]; rfl
    rw [hz]
    rcases h3 with h3 | ⟨i, hi, hs, _⟩
    · exact h3
    · have := (h.of _ (opA_mem T i hi)).1
      rw [hs, e] at this
      cases this
  · obtain ⟨x, hx, ex⟩ := hiL_mem e
    obtain ⟨i, hi, ei⟩ := mem_opA (h.all id x hx)
    have a1 := h1 i hi (by rw [ei])
    rw [ei] at a1
    have a2 : x.n ≤ hR id T T.length := a1
    have a3 := hk.seq id x hx
    rcases h3 with h3 | ⟨j, hj, hs, he⟩
    · omega
    · have hm := (h.of _ (opA_mem T j hj)).1
      rw [hs] at hm
      have := rise_last (hk.rise id) hm
      omega
theorem Rel.sess {T : List Opv} {ks : List Int} {L : Int → List It} (h : Rel T ks L) (hk : TOk ks L) {O : List Int} (hO : SessR T O) : ∀ x, x ∈ O ↔ x ∈ ks := fun x => by
  rw [hO.mem]
  constructor
  · rintro ⟨i, hi, e⟩
    have := (h.of _ (opA_mem T i hi)).2
    rw [e] at this
    exact this
  · intro hx
    obtain ⟨y, hy⟩ := List.exists_mem_of_ne_nil _ (hk.some x hx)
    obtain ⟨i, hi, e⟩ := mem_opA (h.all x y hy)
    exact ⟨i, hi, by rw [e]⟩
theorem Rel.many {T : List Opv} {ks : List Int} {L : Int → List It} (h : Rel T ks L) (hk : TOk ks L) (hn : ks.Nodup) {O : List Int} (hO : SessR T O) : O.length = ks.length := by
  have hm := h.sess hk hO
  have hd : O.Nodup := hO.rise.imp (fun q => by omega)
  exact Nat.le_antisymm (nodup_len O ks hd (fun x hx => (hm x).1 hx)) (nodup_len ks O hn (fun x hx => (hm x).2 hx))
/-- Where a number is found. -/
theorem Rel.found {T : List Opv} {ks : List Int} {L : Int → List It} (h : Rel T ks L) (hk : TOk ks L) (s q : Int) : (∀ i, i < T.length → (opA T i).s = s → (opA T i).x.n = q → foundB q (L s) = true ∧ lookV L s q = ((opA T i).x.c, (opA T i).x.m)) ∧ ((∀ i, i < T.length → ¬ ((opA T i).s = s ∧ (opA T i).x.n = q)) → foundB q (L s) = false ∧ lookV L s q = (0, 0)) := by
  constructor
  · intro i hi hs hq
    have hm := (h.of _ (opA_mem T i hi)).1
    rw [hs] at hm
    obtain ⟨a, b⟩ := found_yes (hk.rise s) hm hq
    refine ⟨a, ?_⟩
    unfold lookV
    rw [if_pos a, b]
  · intro hn
    have a : foundB q (L s) = false := found_false fun y hy e => by
      obtain ⟨i, hi, ei⟩ := mem_opA (h.all s y hy)
      exact hn i hi ⟨by rw [ei], by rw [ei]; exact e⟩
    refine ⟨a, ?_⟩
    unfold lookV
    rw [if_neg (by rw [a]; decide)]
/-- The errors in the document's order come to the program's. -/
theorem Rel.code {T : List Opv} {ks : List Int} {L : Int → List It} (h : Rel T ks L) (hk : TOk ks L) (hnil : ∀ k, k ∉ ks → L k = []) (s q : Int) :
    lookC ks L s q = if (outB s 1 1099511627776 || outB q 1 1099511627776) = true then 43 else if hiL (L s) = 0 ∧ 16 ≤ ks.length then 131 else if 0 < hiL (L s) ∧ q ≤ hiL (L s) - 8 then 130 else if foundB q (L s) = true then 5 else 0 := by
  have hh := hk.hi s
  have hz : s ∈ ks ↔ hiL (L s) ≠ 0 := by
    constructor
    · intro hs e
      obtain ⟨x, hx, ex⟩ := hiL_mem (hk.some s hs)
      have := hk.seq s x hx
      omega
    · intro e
      by_cases q : s ∈ ks
      · exact q
      · exact absurd (by rw [hnil s q]; rfl) e
  unfold lookC
  cases hf : foundB q (L s) with
  | true =>
    have hx : ∃ y ∈ L s, y.n = q := by
      by_cases z : ∃ y ∈ L s, y.n = q
      · exact z
      · have := found_false (q := q) (L := L s) (fun y hy e => z ⟨y, hy, e⟩)
        rw [hf] at this
        cases this
    obtain ⟨y, hy, ey⟩ := hx
    have h1 := hk.seq s y hy
    have h2 := hk.win s y hy
    have hs : s ∈ ks := by
      by_cases q : s ∈ ks
      · exact q
      · rw [hnil s q] at hy; cases hy
    have h3 := hk.rng s hs
    have h4 := hz.1 hs
    have o1 : outB s 1 1099511627776 = false := by unfold outB; rw [Bool.or_eq_false_iff, decide_eq_false_iff_not, decide_eq_false_iff_not]; omega
    have o2 : outB q 1 1099511627776 = false := by unfold outB; rw [Bool.or_eq_false_iff, decide_eq_false_iff_not, decide_eq_false_iff_not]; omega
    rw [if_pos rfl, o1, o2, if_neg (by decide), if_neg (fun z => h4 z.1), if_neg (by omega), if_pos rfl]
  | false =>
    rw [if_neg (by decide)]
    by_cases o : (outB s 1 1099511627776 || outB q 1 1099511627776) = true
    · rw [if_pos o, if_pos o]
    · rw [if_neg o, if_neg o]
      have oq : 1 ≤ q := by
        rw [Bool.not_eq_true, Bool.or_eq_false_iff] at o
        have := o.2
        unfold outB at this
        rw [Bool.or_eq_false_iff, decide_eq_false_iff_not, decide_eq_false_iff_not] at this
        omega
      by_cases hs : s ∈ ks
      · have h4 := hz.1 hs
        have c1 : (!decide (s ∈ ks) && decide (16 ≤ ks.length)) = false := by simp [hs]
        simp only [c1, Bool.false_eq_true, if_false]
        rw [if_neg (show ¬ (hiL (L s) = 0 ∧ 16 ≤ ks.length) from fun y => h4 y.1)]
        by_cases z : q ≤ hiL (L s) - 8
        · rw [if_pos z, if_pos (show 0 < hiL (L s) ∧ q ≤ hiL (L s) - 8 from ⟨by omega, z⟩)]
        · rw [if_neg z, if_neg (show ¬ (0 < hiL (L s) ∧ q ≤ hiL (L s) - 8) from fun y => z y.2)]
      · have h4 : hiL (L s) = 0 := by
          by_cases e : hiL (L s) = 0
          · exact e
          · exact absurd (hz.2 e) hs
        simp only [Bool.false_eq_true, if_false]
        by_cases m : 16 ≤ ks.length
        · have c1 : (!decide (s ∈ ks) && decide (16 ≤ ks.length)) = true := by simp [hs, m]
          rw [if_pos c1, if_pos (show hiL (L s) = 0 ∧ 16 ≤ ks.length from ⟨h4, m⟩)]
        · have c1 : ¬ (!decide (s ∈ ks) && decide (16 ≤ ks.length)) = true := by simp [hs]; omega
          rw [if_neg c1, if_neg (show ¬ q ≤ hiL (L s) - 8 by omega), if_neg (show ¬ (hiL (L s) = 0 ∧ 16 ≤ ks.length) from fun y => m y.2), if_neg (show ¬ (0 < hiL (L s) ∧ q ≤ hiL (L s) - 8) by omega)]
end Go.Proofs.Ytefffjlcfghniaa
