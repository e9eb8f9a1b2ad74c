/- What is put in whatever order makes one row; a row's answers grow; no condition. -/
import Derived.Test.YtodoogcllahfgaaYl
namespace Go.Proofs.Ytodoogcllahfgaa
set_option linter.unusedVariables false
set_option linter.unusedSimpArgs false
set_option maxRecDepth 20000
theorem asc_one {L : List It} (h : Asc L) : ∀ x ∈ L, ∀ y ∈ L, kc x = kc y → x = y := by
  intro x hx y hy e
  obtain ⟨i, hi, rfl⟩ := List.getElem_of_mem hx
  obtain ⟨j, hj, rfl⟩ := List.getElem_of_mem hy
  have hp := List.pairwise_iff_getElem.1 h
  rcases Nat.lt_trichotomy i j with q | q | q
  · have := hp i j hi hj q; omega
  · subst q; rfl
  · have := hp j i hj hi q; omega
theorem asc_ext : ∀ {L M : List It}, Asc L → Asc M → (∀ z, z ∈ L ↔ z ∈ M) → L = M
  | [], [], _, _, _ => rfl
  | [], y :: t, _, _, h => by have := (h y).2 (by simp); simp at this
  | x :: s, [], _, _, h => by have := (h x).1 (by simp); simp at this
  | x :: s, y :: t, ha, hb, h => by
    have h1 := List.pairwise_cons.1 ha
    have h2 := List.pairwise_cons.1 hb
    have e : x = y := by
      rcases List.mem_cons.1 ((h x).1 (by simp)) with q | q
      · exact q
      · rcases List.mem_cons.1 ((h y).2 (by simp)) with r | r
        · exact r.symm
        · have := h2.1 x q; have := h1.1 y r; omega
    subst e
    rw [asc_ext h1.2 h2.2 fun z => ?_]
    constructor
    · intro hz
      rcases List.mem_cons.1 ((h z).1 (by simp [hz])) with q | q
      · subst q; have := h1.1 z hz; omega
      · exact q
    · intro hz
      rcases List.mem_cons.1 ((h z).2 (by simp [hz])) with q | q
      · subst q; have := h2.1 z hz; omega
      · exact q
theorem put_has (x : It) : ∀ (L : List It) (y : It), y ∈ L → ∃ z ∈ putL x L, kc z = kc y ∧ y.n ≤ z.n ∧ ∃ m, z = withN y m
  | [], y, h => by simp at h
  | q :: t, y, h => by
    unfold putL
    by_cases h1 : kc q < kc x
    · rw [if_pos h1]
      rcases List.mem_cons.1 h with rfl | e
      · exact ⟨y, by simp, rfl, Int.le_refl _, y.n, (with_n y).symm⟩
      · obtain ⟨z, hz, r⟩ := put_has x t y e
        exact ⟨z, by simp [hz], r⟩
    · rw [if_neg h1]
      by_cases h2 : kc q = kc x
      · rw [if_pos h2]
        rcases List.mem_cons.1 h with rfl | e
        · exact ⟨withN y (max y.n x.n), by simp, rfl, by rw [n_with]; omega, _, rfl⟩
        · exact ⟨y, by simp [e], rfl, Int.le_refl _, y.n, (with_n y).symm⟩
      · rw [if_neg h2]
        exact ⟨y, by simp [List.mem_cons.1 h], rfl, Int.le_refl _, y.n, (with_n y).symm⟩
theorem put_self (x : It) : ∀ (L : List It), ∃ z ∈ putL x L, kc z = kc x ∧ x.n ≤ z.n
  | [] => ⟨x, by simp [putL], rfl, Int.le_refl _⟩
  | q :: t => by
    unfold putL
    by_cases h1 : kc q < kc x
    · rw [if_pos h1]
      obtain ⟨z, hz, r⟩ := put_self x t
      exact ⟨z, by simp [hz], r⟩
    · rw [if_neg h1]
      by_cases h2 : kc q = kc x
      · rw [if_pos h2]; exact ⟨withN q (max q.n x.n), by simp, h2, by rw [n_with]; omega⟩
      · rw [if_neg h2]; exact ⟨x, by simp, rfl, Int.le_refl _⟩
/-- A row holds just what was put. -/
def Holds (g : Nat → It) (P : Nat → Prop) (L : List It) : Prop := (∀ x ∈ L, ∃ i, P i ∧ x = g i) ∧ ∀ i, P i → ∃ x ∈ L, kc x = kc (g i) ∧ (g i).n ≤ x.n
theorem Holds.nil (g : Nat → It) (P : Nat → Prop) (h : ∀ i, ¬ P i) : Holds g P [] := ⟨fun x hx => by simp at hx, fun i hi => absurd hi (h i)⟩
theorem Holds.skip {g : Nat → It} {P Q : Nat → Prop} {L : List It} (h : Holds g P L) (e : ∀ i, P i ↔ Q i) : Holds g Q L := ⟨fun x hx => by obtain ⟨i, hi, q⟩ := h.1 x hx; exact ⟨i, (e i).1 hi, q⟩, fun i hi => h.2 i ((e i).2 hi)⟩
theorem Holds.put {g : Nat → It} {P Q : Nat → Prop} {L : List It} (h : Holds g P L) (j : Nat) (e : ∀ i, Q i ↔ P i ∨ i = j) (hinj : ∀ y ∈ L, kc y = kc (g j) → withN y (g j).n = g j) : Holds g Q (putL (g j) L) := by
  refine ⟨fun x hx => ?_, fun i hi => ?_⟩
  · rcases mem_put (g j) L x hx with rfl | q | ⟨y, hy, hk, rfl⟩
    · exact ⟨j, (e j).2 (.inr rfl), rfl⟩
    · obtain ⟨i, hi, q⟩ := h.1 x q; exact ⟨i, (e i).2 (.inl hi), q⟩
    · by_cases hm : (g j).n ≤ y.n
      · obtain ⟨i, hi, q⟩ := h.1 y hy
        exact ⟨i, (e i).2 (.inl hi), by rw [show max y.n (g j).n = y.n by omega, with_n]; exact q⟩
      · exact ⟨j, (e j).2 (.inr rfl), by rw [show max y.n (g j).n = (g j).n by omega]; exact hinj y hy hk⟩
  · rcases (e i).1 hi with q | rfl
    · obtain ⟨x, hx, hk, hn⟩ := h.2 i q
      obtain ⟨z, hz, k2, n2, _⟩ := put_has (g j) L x hx
      exact ⟨z, hz, by omega, by omega⟩
    · exact put_self (g i) L
theorem Holds.one {g : Nat → It} {P : Nat → Prop} {L M : List It} (h : Holds g P L) (k : Holds g P M) (ha : Asc L) (hb : Asc M) (hinj : ∀ i j, P i → P j → kc (g i) = kc (g j) → withN (g i) (g j).n = g j) : L = M := by
  have H : ∀ (L M : List It), Holds g P L → Holds g P M → Asc L → ∀ x ∈ L, x ∈ M := by
    intro L M h k ha x hx
    obtain ⟨i, hi, rfl⟩ := h.1 x hx
    obtain ⟨y, hy, hk, hn⟩ := k.2 i hi
    obtain ⟨j, hj, rfl⟩ := k.1 y hy
    obtain ⟨z, hz, hk2, hn2⟩ := h.2 j hj
    have e := asc_one ha _ hz _ hx (by omega)
    subst e
    have hnn : (g i).n = (g j).n := by omega
    have := hinj i j hi hj (by omega)
    rw [← hnn, with_n] at this
    rw [this]; exact hy
  exact asc_ext ha hb fun z => ⟨H L M h k ha z, H M L k h hb z⟩
theorem atL_cases (c : Nat) : ∀ L : List It, (∃ x ∈ L, kc x = c ∧ atL c L = x.n) ∨ atL c L = 0
  | [] => .inr rfl
  | y :: t => by
    unfold atL
    by_cases h : kc y = c
    · rw [if_pos h]; exact .inl ⟨y, by simp, h, rfl⟩
    · rw [if_neg h]
      rcases atL_cases c t with ⟨x, hx, r⟩ | r
      · exact .inl ⟨x, by simp [hx], r⟩
      · exact .inr r
theorem atL_put (x : It) (L : List It) (ha : Asc L) (hp : ∀ y ∈ L, 0 ≤ y.n) (hx : 0 ≤ x.n) (c : Nat) : atL c L ≤ atL c (putL x L) := by
  have hpp : 0 ≤ atL c (putL x L) := by
    rcases atL_cases c (putL x L) with ⟨z, hz, _, e⟩ | e
    · rw [e]
      rcases mem_put x L z hz with rfl | q | ⟨y, hy, _, rfl⟩
      · exact hx
      · exact hp z q
      · rw [n_with]; have := hp y hy; omega
    · omega
  rcases atL_cases c L with ⟨y, hy, hk, e⟩ | e
  · obtain ⟨z, hz, hkz, hn, _⟩ := put_has x L y hy
    have := atL_mem _ (put_asc x L ha) z hz
    rw [hkz, hk] at this
    omega
  · omega
theorem atL_self (x : It) (L : List It) (ha : Asc L) : x.n ≤ atL (kc x) (putL x L) := by
  obtain ⟨z, hz, hk, hn⟩ := put_self x L
  have := atL_mem _ (put_asc x L ha) z hz
  rw [hk] at this
  omega
end Go.Proofs.Ytodoogcllahfgaa
