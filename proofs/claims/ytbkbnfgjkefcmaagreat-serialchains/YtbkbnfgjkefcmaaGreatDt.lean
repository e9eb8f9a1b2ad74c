/- A row where neighbours that are the same go, from its beginning on, as plain facts; no condition. -/
import Derived.Test.YtbkbnfgjkefcmaaGreatDp
namespace Go.Proofs.YtbkbnfgjkefcmaaGreat
namespace Fl
/-- The first k numbers, each that is the same as the one ahead left out. -/
def dt (x : Nat → Nat) : Nat → List Nat
  | 0 => []
  | k + 1 => if k ≠ 0 ∧ x k = x (k - 1) then dt x k else dt x k ++ [x k]
theorem dt_len (x : Nat → Nat) : ∀ k, (dt x k).length ≤ k
  | 0 => Nat.le_refl _
  | k + 1 => by have := dt_len x k; unfold dt; split <;> simp <;> omega
theorem dt_last (x : Nat → Nat) : ∀ k, x k ∈ dt x (k + 1)
  | 0 => by simp [dt]
  | k + 1 => by
    unfold dt
    split
    · rename_i h
      have := dt_last x k
      simp at h
      rw [h]; exact this
    · simp
theorem dt_mem (x : Nat → Nat) : ∀ k z, z ∈ dt x k ↔ ∃ i, i < k ∧ z = x i
  | 0, z => by simp [dt]
  | k + 1, z => by
    have ih := dt_mem x k z
    unfold dt
    split
    · rename_i h
      rw [ih]
      constructor
      · rintro ⟨i, hi, e⟩; exact ⟨i, by omega, e⟩
      · rintro ⟨i, hi, e⟩
        by_cases h2 : i = k
        · subst h2; exact ⟨i - 1, by omega, by rw [e, h.2]⟩
        · exact ⟨i, by omega, e⟩
    · rw [List.mem_append, ih]
      constructor
      · rintro (⟨i, hi, e⟩ | e)
        · exact ⟨i, by omega, e⟩
        · simp at e; exact ⟨k, by omega, e⟩
      · rintro ⟨i, hi, e⟩
        by_cases h2 : i = k
        · subst h2; right; simp [e]
        · exact .inl ⟨i, by omega, e⟩
theorem dt_asc (x : Nat → Nat) (n : Nat) (hle : ∀ i, i + 1 < n → code (x i) ≤ code (x (i + 1))) (hinj : ∀ i j, i < n → j < n → code (x i) = code (x j) → x i = x j) : ∀ k, k ≤ n → Asc (dt x k)
  | 0, _ => List.Pairwise.nil
  | k + 1, hk => by
    have ih := dt_asc x n hle hinj k (by omega)
    unfold dt
    split
    · exact ih
    · rename_i h
      have hmono : ∀ j i, i ≤ j → j < n → code (x i) ≤ code (x j) := by
        intro j
        induction j with
        | zero => intro i hi _; obtain rfl : i = 0 := by omega
                  exact Nat.le_refl _
        | succ j ihj =>
          intro i hi hj
          by_cases e : i = j + 1
          · subst e; exact Nat.le_refl _
          · exact Nat.le_trans (ihj i (by omega) (by omega)) (hle j hj)
      refine List.pairwise_append.2 ⟨ih, by simp, fun a ha b hb => ?_⟩
      simp at hb
      subst hb
      obtain ⟨i, hi, rfl⟩ := (dt_mem x k a).1 ha
      have h1 := hmono k i (by omega) (by omega)
      by_cases e : code (x i) = code (x k)
      · exfalso
        have hk0 : k ≠ 0 := by omega
        have h2 := hmono (k - 1) i (by omega) (by omega)
        have h3 := hmono k (k - 1) (by omega) (by omega)
        exact h ⟨hk0, hinj k (k - 1) (by omega) (by omega) (by omega)⟩
      · omega
theorem dt_fresh (x : Nat → Nat) : ∀ k, (∀ i, 0 < i → i < k → x i ≠ x (i - 1)) → (dt x k).length = k ∧ ∀ i, i < k → (dt x k)[i]? = some (x i)
  | 0, _ => ⟨rfl, fun i hi => by omega⟩
  | k + 1, h => by
    obtain ⟨h1, h2⟩ := dt_fresh x k (fun i hi hk => h i hi (by omega))
    have e : dt x (k + 1) = dt x k ++ [x k] := by
      rw [dt, if_neg]
      rintro ⟨h3, h4⟩
      exact h k (by omega) (by omega) h4
    rw [e]
    refine ⟨by simp [h1], fun i hi => ?_⟩
    by_cases e2 : i < k
    · rw [List.getElem?_append_left (by omega)]; exact h2 i e2
    · obtain rfl : i = k := by omega
      rw [List.getElem?_append_right (by omega), h1]; simp
end Fl
end Go.Proofs.YtbkbnfgjkefcmaaGreat
