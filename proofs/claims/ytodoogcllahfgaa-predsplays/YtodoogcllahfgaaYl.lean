/- Rows of items in order, as lists: what is put, told, dropped; no condition. -/
import Derived.Test.YtodoogcllahfgaaYe
namespace Go.Proofs.Ytodoogcllahfgaa
set_option linter.unusedVariables false
set_option linter.unusedSimpArgs false
set_option maxRecDepth 20000
/-- An item's key, as one number. -/
def kc (x : It) : Nat := 18446744073709551616 * Fl.code x.a + Fl.code x.b
/-- An item with another number. -/
def withN (y : It) (m : Int) : It := ⟨y.a, y.b, y.p, y.q, m⟩
theorem kc_with (y : It) (m : Int) : kc (withN y m) = kc y := rfl
theorem n_with (y : It) (m : Int) : (withN y m).n = m := rfl
theorem with_n (y : It) : withN y y.n = y := rfl
def Asc (L : List It) : Prop := L.Pairwise fun x y => kc x < kc y
/-- How many stand ahead of a key. -/
def pos (c : Nat) : List It → Nat
  | [] => 0
  | x :: t => if kc x < c then pos c t + 1 else 0
def putL (x : It) : List It → List It
  | [] => [x]
  | y :: t => if kc y < kc x then y :: putL x t else if kc y = kc x then withN y (max y.n x.n) :: t else x :: y :: t
/-- A key's number; 0: none. -/
def atL (c : Nat) : List It → Int
  | [] => 0
  | y :: t => if kc y = c then y.n else atL c t
theorem atI_zero (x : It) (t : List It) : atI (x :: t) 0 = x := rfl
theorem atI_succ (x : It) (t : List It) (i : Nat) : atI (x :: t) (i + 1) = atI t i := by simp [atI]
theorem pos_le (c : Nat) : ∀ L, pos c L ≤ L.length
  | [] => Nat.le_refl _
  | x :: t => by
    have := pos_le c t
    unfold pos
    split <;> simp <;> omega
theorem pos_lt (c : Nat) : ∀ (L : List It) (i : Nat), i < pos c L → kc (atI L i) < c
  | [], i, h => by simp [pos] at h
  | x :: t, i, h => by
    unfold pos at h
    split at h
    · rename_i hx
      match i with
      | 0 => exact hx
      | i + 1 => rw [atI_succ]; exact pos_lt c t i (by omega)
    · omega
theorem asc_ge {x : It} {t : List It} (h : Asc (x :: t)) (i : Nat) (hi : i < t.length) : kc x < kc (atI t i) := by
  rw [atI_get t i hi]
  exact (List.pairwise_cons.1 h).1 _ (List.getElem_mem hi)
theorem pos_ge (c : Nat) : ∀ (L : List It), Asc L → ∀ i, pos c L ≤ i → i < L.length → c ≤ kc (atI L i)
  | [], _, i, _, h => by simp at h
  | x :: t, ha, i, h, hl => by
    unfold pos at h
    split at h
    · match i with
      | 0 => omega
      | i + 1 => rw [atI_succ]; exact pos_ge c t (List.pairwise_cons.1 ha).2 i (by omega) (by simpa using hl)
    · rename_i hx
      match i with
      | 0 => exact Nat.le_of_not_lt hx
      | i + 1 =>
        rw [atI_succ]
        have := asc_ge ha i (by simpa using hl)
        omega
theorem put_set (x : It) : ∀ L, Asc L → pos (kc x) L < L.length → kc (atI L (pos (kc x) L)) = kc x → putL x L = L.set (pos (kc x) L) (withN (atI L (pos (kc x) L)) (max (atI L (pos (kc x) L)).n x.n))
  | [], _, h, _ => by simp at h
  | y :: t, ha, h, hk => by
    unfold pos at h hk ⊢
    unfold putL
    by_cases hy : kc y < kc x
    · rw [if_pos hy] at h hk ⊢
      rw [if_pos hy, atI_succ, List.set_cons_succ]
      rw [atI_succ] at hk
      rw [← put_set x t (List.pairwise_cons.1 ha).2 (by simpa using h) hk]
    · rw [if_neg hy] at h hk ⊢
      rw [atI_zero] at hk
      rw [if_neg hy, if_pos hk, atI_zero, List.set_cons_zero]
theorem put_ins (x : It) : ∀ L, Asc L → ¬ (pos (kc x) L < L.length ∧ kc (atI L (pos (kc x) L)) = kc x) → putL x L = L.take (pos (kc x) L) ++ x :: L.drop (pos (kc x) L)
  | [], _, _ => by simp [pos, putL]
  | y :: t, ha, h => by
    unfold pos at h ⊢
    unfold putL
    by_cases hy : kc y < kc x
    · rw [if_pos hy] at h ⊢
      rw [if_pos hy]
      rw [atI_succ] at h
      rw [put_ins x t (List.pairwise_cons.1 ha).2 (fun e => h ⟨by simpa using e.1, e.2⟩)]
      simp
    · rw [if_neg hy] at h ⊢
      rw [atI_zero] at h
      rw [if_neg hy, if_neg (fun e => h ⟨by simp, e⟩)]
      simp
theorem mem_put (x : It) : ∀ L z, z ∈ putL x L → z = x ∨ z ∈ L ∨ ∃ y ∈ L, kc y = kc x ∧ z = withN y (max y.n x.n)
  | [], z, h => by simp [putL] at h; exact .inl h
  | y :: t, z, h => by
    unfold putL at h
    split at h
    · rcases List.mem_cons.1 h with rfl | h
      · exact .inr (.inl (by simp))
      · rcases mem_put x t z h with e | e | ⟨q, hq, e⟩
        · exact .inl e
        · exact .inr (.inl (by simp [e]))
        · exact .inr (.inr ⟨q, by simp [hq], e⟩)
    · split at h
      · rename_i he
        rcases List.mem_cons.1 h with rfl | h
        · exact .inr (.inr ⟨y, by simp, he, rfl⟩)
        · exact .inr (.inl (by simp [h]))
      · rcases List.mem_cons.1 h with rfl | h
        · exact .inl rfl
        · exact .inr (.inl h)
theorem put_lo (x : It) (c : Nat) (hc : c < kc x) : ∀ L, (∀ y ∈ L, c < kc y) → ∀ z ∈ putL x L, c < kc z := by
  intro L h z hz
  rcases mem_put x L z hz with rfl | e | ⟨y, hy, _, rfl⟩
  · exact hc
  · exact h z e
  · rw [kc_with]; exact h y hy
theorem put_asc (x : It) : ∀ L, Asc L → Asc (putL x L)
  | [], _ => by simp [putL, Asc]
  | y :: t, ha => by
    have h1 := List.pairwise_cons.1 ha
    unfold putL
    split
    · rename_i hy
      exact List.pairwise_cons.2 ⟨put_lo x (kc y) hy t h1.1, put_asc x t h1.2⟩
    · split
      · exact List.pairwise_cons.2 ⟨fun z hz => by rw [kc_with]; exact h1.1 z hz, h1.2⟩
      · rename_i h2 h3
        refine List.pairwise_cons.2 ⟨fun z hz => ?_, ha⟩
        rcases List.mem_cons.1 hz with rfl | e
        · omega
        · have := h1.1 z e; omega
theorem atL_pos : ∀ (L : List It) (c : Nat), Asc L → atL c L = if pos c L < L.length ∧ kc (atI L (pos c L)) = c then (atI L (pos c L)).n else 0
  | [], c, _ => by simp [atL]
  | y :: t, c, ha => by
    have h1 := List.pairwise_cons.1 ha
    unfold atL pos
    by_cases hy : kc y < c
    · rw [if_neg (by omega), if_pos hy, atI_succ, atL_pos t c h1.2]
      simp
    · rw [if_neg hy, atI_zero]
      by_cases he : kc y = c
      · simp [he]
      · rw [if_neg he, if_neg (fun e => he e.2)]
        have : ∀ z ∈ t, c < kc z := fun z hz => by have := h1.1 z hz; omega
        clear h1 ha
        induction t with
        | nil => rfl
        | cons z r ih =>
          unfold atL
          rw [if_neg (by have := this z (by simp); omega)]
          exact ih fun q hq => this q (by simp [hq])
theorem atL_mem : ∀ (L : List It), Asc L → ∀ x ∈ L, atL (kc x) L = x.n
  | [], _, x, h => by simp at h
  | y :: t, ha, x, h => by
    have h1 := List.pairwise_cons.1 ha
    unfold atL
    rcases List.mem_cons.1 h with rfl | e
    · rw [if_pos rfl]
    · rw [if_neg (by have := h1.1 x e; omega)]
      exact atL_mem t h1.2 x e
theorem atL_none (c : Nat) : ∀ (L : List It), (∀ x ∈ L, kc x ≠ c) → atL c L = 0
  | [], _ => rfl
  | y :: t, h => by
    unfold atL
    rw [if_neg (h y (by simp))]
    exact atL_none c t fun x hx => h x (by simp [hx])
theorem keep_asc (m : Int) (L : List It) (h : Asc L) : Asc (keepL m L) := h.filter _
theorem mem_keep (m : Int) (L : List It) (x : It) : x ∈ keepL m L ↔ x ∈ L ∧ m < x.n := by simp [keepL]
theorem put_len (x : It) : ∀ L, (putL x L).length ≤ L.length + 1
  | [] => by simp [putL]
  | y :: t => by
    have := put_len x t
    unfold putL
    (repeat' split) <;> simp <;> omega
end Go.Proofs.Ytodoogcllahfgaa
