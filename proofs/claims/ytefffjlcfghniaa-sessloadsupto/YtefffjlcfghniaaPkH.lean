/- What is read as a number is a number's bytes; plain. -/
import Derived.Test.YtefffjlcfghniaaPkC
namespace Go.Proofs.Ytefffjlcfghniaa.Pk
set_option maxRecDepth 20000
open Go.ChangeShapes Go.WideShapes Go.RowKit Go.Joins
set_option linter.unusedVariables false
attribute [local go_sem] run_bits run_frombits run_store_float
theorem acc_shift (x : Nat → Nat) : ∀ k, acc x (k + 1) = x 0 % 128 + 128 * acc (sh 1 x) k
  | 0 => by simp [acc]
  | k + 1 => by
    have h := acc_shift x k
    show acc x (k + 1) + x (k + 1) % 128 * 128 ^ (k + 1) = x 0 % 128 + 128 * (acc (sh 1 x) k + sh 1 x k % 128 * 128 ^ k)
    rw [h, show sh 1 x k = x (k + 1) by simp [sh, Nat.add_comm], Nat.pow_succ, Nat.mul_add]
    have e : x (k + 1) % 128 * (128 ^ k * 128) = 128 * (x (k + 1) % 128 * 128 ^ k) := by rw [Nat.mul_comm (128 ^ k) 128, Nat.mul_left_comm]
    omega
theorem acc_pos (x : Nat → Nat) (i : Nat) (h : x i % 128 ≠ 0) : 0 < acc x (i + 1) := by
  show 0 < acc x i + x i % 128 * 128 ^ i
  have h1 : 0 < x i % 128 * 128 ^ i := Nat.mul_pos (by omega) (Nat.pow_pos (by omega))
  omega
theorem byL_succ (n : Nat) (x : Nat → Nat) : byL (n + 1) x = x 0 :: byL n (sh 1 x) := by
  unfold byL
  rw [List.range_succ_eq_map]
  simp [sh, Function.comp_def, Nat.add_comm]
theorem byL_add (a b : Nat) (x : Nat → Nat) : byL (a + b) x = byL a x ++ byL b (sh a x) := by
  apply List.ext_getElem?
  intro i
  by_cases h : i < a
  · rw [List.getElem?_append_left (by rw [byL_len]; exact h)]
    simp [byL, h, show i < a + b by omega]
  · rw [List.getElem?_append_right (by rw [byL_len]; omega), byL_len]
    by_cases h2 : i < a + b
    · simp [byL, h2, show i - a < b by omega, sh, show a + (i - a) = i by omega]
    · simp [byL, h2, show ¬ i - a < b by omega]
theorem grp_of : ∀ (i f : Nat) (x : Nat → Nat), i ≤ f → (∀ j, j < i → 128 ≤ x j ∧ x j < 256) → x i < 128 → (0 < i → x i ≠ 0) → grp f (acc x (i + 1)) = byL (i + 1) x
  | 0, f, x, _, _, h, _ => by
    have e : acc x 1 = x 0 := by simp [acc]; omega
    rw [e, grp_small f _ h]
    simp [byL]
  | i + 1, f, x, hf, hj, h, hz => by
    obtain ⟨f', rfl⟩ : ∃ f', f = f' + 1 := ⟨f - 1, by omega⟩
    have hs : ∀ j, sh 1 x j = x (j + 1) := fun j => by simp [sh, Nat.add_comm]
    have ih := grp_of i f' (sh 1 x) (by omega) (fun j hj2 => by rw [hs]; exact hj (j + 1) (by omega)) (by rw [hs]; exact h) (fun _ => by rw [hs]; exact hz (by omega))
    have hp := acc_pos (sh 1 x) i (by rw [hs]; have := hz (by omega); omega)
    have h0 := hj 0 (by omega)
    have e := acc_shift x (i + 1)
    rw [grp_big f' _ (by omega), byL_succ, ← ih]
    rw [show acc x (i + 1 + 1) % 128 + 128 = x 0 by omega, show acc x (i + 1 + 1) / 128 = acc (sh 1 x) (i + 1) by omega]
/-- What a number that is read looks like. -/
theorem ln_form (x : Nat → Nat) (n : Nat) : ∀ f k, k + f = 11 → (ln x n f k).2 ≠ 0 → (∀ j, j < k → 128 ≤ x j) → ∃ i, k ≤ i ∧ i < 10 ∧ i < n ∧ (∀ j, j < i → 128 ≤ x j) ∧ x i < 128 ∧ (0 < i → x i ≠ 0) ∧ ln x n f k = (unf (acc x (i + 1)), i + 1)
  | 0, k, _, h, _ => by simp [ln] at h
  | f + 1, k, hk, h, hj => by
    unfold ln at h ⊢
    by_cases h1 : k < n ∧ k < 10
    · rw [if_pos h1] at h ⊢
      by_cases h2 : 128 ≤ x k
      · rw [if_pos h2] at h ⊢
        obtain ⟨i, q1, q2⟩ := ln_form x n f (k + 1) (by omega) h (fun j hj2 => by
          by_cases e : j = k
          · subst e; exact h2
          · exact hj j (by omega))
        exact ⟨i, by omega, q2⟩
      · rw [if_neg h2] at h ⊢
        by_cases h3 : (0 < k ∧ x k = 0) ∨ (k = 9 ∧ 1 < x k)
        · rw [if_pos h3] at h; exact absurd rfl h
        · rw [if_neg h3] at h ⊢
          exact ⟨k, Nat.le_refl _, h1.2, h1.1, hj, by omega, fun h0 e => h3 (.inl ⟨h0, e⟩), rfl⟩
    · rw [if_neg h1] at h; exact absurd rfl h
theorem num_back (x : Nat → Nat) (n : Nat) (hx : ∀ i, i < n → x i < 256) (h : lnK x n ≠ 0) : numL (lnV x n) = byL (lnK x n) x := by
  obtain ⟨i, _, h1, h2, h3, h4, h5, h6⟩ := ln_form x n 11 0 rfl h (fun j hj => by omega)
  unfold lnV lnK numL
  rw [h6]
  simp only [fold_unf]
  exact grp_of i 10 x (by omega) (fun j hj => ⟨h3 j hj, hx j (by omega)⟩) h4 h5
theorem key_back (x : Nat → Nat) (hx : ∀ i, i < 8 → x i < 256) : keyL (lkC x 8) 8 = byL 8 x := by
  have h0 := hx 0 (by omega)
  have h1 := hx 1 (by omega)
  have h2 := hx 2 (by omega)
  have h3 := hx 3 (by omega)
  have h4 := hx 4 (by omega)
  have h5 := hx 5 (by omega)
  have h6 := hx 6 (by omega)
  have h7 := hx 7 (by omega)
  have e : byL 8 x = [x 0, x 1, x 2, x 3, x 4, x 5, x 6, x 7] := rfl
  rw [e]
  have ec : lkC x 8 = x 0 * 72057594037927936 + x 1 * 281474976710656 + x 2 * 1099511627776 + x 3 * 4294967296 + x 4 * 16777216 + x 5 * 65536 + x 6 * 256 + x 7 := by simp [lkC]; omega
  generalize lkC x 8 = c at *
  simp [keyL]
  omega
theorem lnV_in (x : Nat → Nat) (n : Nat) (hx : ∀ i, i < n → x i < 256) : -9223372036854775808 ≤ lnV x n ∧ lnV x n ≤ 9223372036854775807 := by
  have go : ∀ f k, k + f = 11 → -9223372036854775808 ≤ (ln x n f k).1 ∧ (ln x n f k).1 ≤ 9223372036854775807 := by
    intro f
    induction f with
    | zero => intro k _; unfold ln; exact ⟨by decide, by decide⟩
    | succ f ih =>
      intro k hk
      unfold ln
      split
      · split
        · exact ih (k + 1) (by omega)
        · split
          · exact ⟨by decide, by decide⟩
          · next h1 h2 h3 =>
            apply unf_in
            have ha := acc_lt x k
            show acc x k + x k % 128 * 128 ^ k < _
            by_cases h9 : k = 9
            · subst h9
              have : x 9 % 128 ≤ 1 := by omega
              have e : (128 : Nat) ^ 9 = 9223372036854775808 := by decide
              rw [e] at *
              have : x 9 % 128 * 9223372036854775808 ≤ 1 * 9223372036854775808 := Nat.mul_le_mul_right _ this
              omega
            · have hp : (128 : Nat) ^ (k + 1) ≤ 128 ^ 9 := Nat.pow_le_pow_right (by omega) (by omega)
              have e : (128 : Nat) ^ 9 = 9223372036854775808 := by decide
              have := acc_lt x (k + 1)
              have e2 : acc x (k + 1) = acc x k + x k % 128 * 128 ^ k := rfl
              omega
      · exact ⟨by decide, by decide⟩
  exact go 11 0 rfl
end Go.Proofs.Ytefffjlcfghniaa.Pk
