/- A number's groups of seven bits: how many, what they are, that they are read back; no condition but that the number has 64 bits. -/
import Derived.Test.YtpofccnifecpfaaEn
namespace Go.Proofs.Ytpofccnifecpfaa
theorem gd_cons (c : Nat) (M : List Nat) (j : Nat) : gd (c :: M) (j + 1) = gd M j := by simp [gd]
theorem grp_pos (f u : Nat) : 0 < (grp f u).length := by cases f with
  | zero => simp [grp]
  | succ f => unfold grp; split <;> simp
theorem grp_short : ∀ (f m u : Nat), 1 ≤ m → u < 128 ^ m → (grp f u).length ≤ m
  | 0, m, u, hm, _ => by simp [grp]; exact hm
  | f + 1, m, u, hm, hu => by
    unfold grp; split
    · simp; exact hm
    · next h =>
      have hm2 : m ≠ 1 := by intro e; subst e; simp at hu; omega
      obtain ⟨m', rfl⟩ : ∃ m', m = m' + 1 := ⟨m - 1, by omega⟩
      have h2 : u / 128 < 128 ^ m' := by rw [Nat.pow_succ] at hu; exact Nat.div_lt_of_lt_mul (by omega)
      have := grp_short f m' (u / 128) (by omega) h2
      simp; exact this
theorem grp_mono : ∀ (f u v : Nat), u ≤ v → (grp f u).length ≤ (grp f v).length
  | 0, _, _, _ => by simp [grp]
  | f + 1, u, v, h => by
    by_cases hu : u < 128
    · rw [grp_small _ _ hu]; exact grp_pos _ _
    · rw [grp_big f u hu, grp_big f v (by omega)]
      simp only [List.length_cons]
      have := grp_mono f (u / 128) (v / 128) (Nat.div_le_div_right h)
      omega
theorem div_pow (u j : Nat) : u / 128 / 128 ^ j = u / 128 ^ (j + 1) := by rw [Nat.div_div_eq_div_mul, Nat.pow_succ, Nat.mul_comm]
theorem grp_at : ∀ (f u : Nat), u < 128 ^ (f + 1) → (∀ j, j + 1 < (grp f u).length → gd (grp f u) j = u / 128 ^ j % 128 + 128) ∧ gd (grp f u) ((grp f u).length - 1) = u / 128 ^ ((grp f u).length - 1) ∧ u / 128 ^ ((grp f u).length - 1) < 128 ∧ (1 < (grp f u).length → u / 128 ^ ((grp f u).length - 1) ≠ 0)
  | 0, u, h => by
    refine ⟨fun j hj => by simp [grp] at hj, by simp [grp, gd], by simp [grp]; simpa using h, fun hl => by simp [grp] at hl⟩
  | f + 1, u, h => by
    by_cases hu : u < 128
    · rw [grp_small _ _ hu]
      exact ⟨fun j hj => by simp at hj, by simp [gd], by simpa using hu, fun hl => by simp at hl⟩
    · rw [grp_big f u hu]
      have h2 : u / 128 < 128 ^ (f + 1) := by rw [Nat.pow_succ] at h; exact Nat.div_lt_of_lt_mul (by omega)
      obtain ⟨A, B, C, D⟩ := grp_at f (u / 128) h2
      have hp := grp_pos f (u / 128)
      obtain ⟨l, hl⟩ : ∃ l, (grp f (u / 128)).length = l + 1 := ⟨(grp f (u / 128)).length - 1, by omega⟩
      simp only [List.length_cons, hl, Nat.add_sub_cancel] at *
      refine ⟨fun j hj => ?_, ?_, ?_, fun _ => ?_⟩
      · cases j with
        | zero => simp [gd]
        | succ j => rw [gd_cons, A j (by omega), div_pow]
      · rw [gd_cons, B, div_pow]
      · rw [← div_pow]; exact C
      · rw [← div_pow]
        by_cases h1 : 1 < l + 1
        · exact D h1
        · have : l = 0 := by omega
          subst this
          simp; omega
theorem grp_acc (f u : Nat) (h : u < 128 ^ (f + 1)) : ∀ k, k ≤ (grp f u).length → acc (gd (grp f u)) k = u % 128 ^ k := by
  obtain ⟨A, B, C, _⟩ := grp_at f u h
  intro k
  induction k with
  | zero => intro _; simp [acc, Nat.mod_one]
  | succ k ih =>
    intro hk
    show acc _ k + _ = _
    rw [ih (by omega), Nat.mod_pow_succ]
    have e : gd (grp f u) k % 128 = u / 128 ^ k % 128 := by
      by_cases h1 : k + 1 < (grp f u).length
      · rw [A k h1]; omega
      · have : k = (grp f u).length - 1 := by omega
        rw [this, B]
    rw [e, Nat.mul_comm]
theorem grp_total (f u : Nat) (h : u < 128 ^ (f + 1)) : u < 128 ^ (grp f u).length := by
  obtain ⟨_, _, C, _⟩ := grp_at f u h
  have hp := grp_pos f u
  generalize (grp f u).length = q at *
  obtain ⟨l, rfl⟩ : ∃ l, q = l + 1 := ⟨q - 1, by omega⟩
  simp only [Nat.add_sub_cancel] at C
  rw [Nat.pow_succ]
  exact (Nat.div_lt_iff_lt_mul (Nat.pow_pos (by omega))).1 C |> fun h => by rw [Nat.mul_comm]; exact h
theorem grp_read (u : Nat) (hu : u < 18446744073709551616) : ln (gd (grp 10 u)) (grp 10 u).length 11 0 = (unf u, (grp 10 u).length) := by
  have h : u < 128 ^ (10 + 1) := Nat.lt_of_lt_of_le hu (by decide)
  have hl : (grp 10 u).length ≤ 10 := grp_short 10 10 u (by omega) (Nat.lt_of_lt_of_le hu (by decide))
  have hp := grp_pos 10 u
  obtain ⟨A, B, C, D⟩ := grp_at 10 u h
  have ht := grp_total 10 u h
  have hacc := grp_acc 10 u h (grp 10 u).length (Nat.le_refl _)
  rw [Nat.mod_eq_of_lt ht] at hacc
  have go : ∀ k, k + 1 ≤ (grp 10 u).length → ln (gd (grp 10 u)) (grp 10 u).length 11 0 = ln (gd (grp 10 u)) (grp 10 u).length (11 - k) k := by
    intro k
    induction k with
    | zero => intro _; rfl
    | succ k ih =>
      intro hk
      rw [ih (by omega), ln_go _ _ k (by omega) (by omega) (by rw [A k (by omega)]; omega)]
  rw [go ((grp 10 u).length - 1) (by omega)]
  clear A go
  generalize (grp 10 u).length = q at *
  obtain ⟨l, rfl⟩ : ∃ l, q = l + 1 := ⟨q - 1, by omega⟩
  simp only [Nat.add_sub_cancel] at *
  rw [ln_end _ _ l (by omega) (by omega) (by rw [B]; omega) ?_, hacc]
  rw [B]
  rintro (⟨h1, h2⟩ | ⟨h1, h2⟩)
  · exact D (by omega) h2
  · subst h1
    have : u / 128 ^ 9 ≤ 1 := by
      have e : (128 : Nat) ^ 9 = 9223372036854775808 := by decide
      rw [e]; omega
    omega
theorem num_read (z : Int) (h1 : -9223372036854775808 ≤ z) (h2 : z ≤ 9223372036854775807) : lnV (gd (numL z)) (numL z).length = z ∧ lnK (gd (numL z)) (numL z).length = (numL z).length := by
  have h := grp_read (fold z) (fold_lt z h1 h2)
  unfold lnV lnK numL
  rw [h]
  exact ⟨unf_fold z, rfl⟩
theorem num_len (z : Int) (h1 : -9223372036854775808 ≤ z) (h2 : z ≤ 9223372036854775807) : 1 ≤ (numL z).length ∧ (numL z).length ≤ 10 :=
  ⟨grp_pos _ _, grp_short 10 10 _ (by omega) (Nat.lt_of_lt_of_le (fold_lt z h1 h2) (by decide))⟩
theorem num_at (z : Int) (h1 : -9223372036854775808 ≤ z) (h2 : z ≤ 9223372036854775807) (i : Nat) (hi : i < (numL z).length) : gd (numL z) i < 256 ∧ (128 ≤ gd (numL z) i ↔ i + 1 < (numL z).length) := by
  obtain ⟨A, B, C, _⟩ := grp_at 10 (fold z) (Nat.lt_of_lt_of_le (fold_lt z h1 h2) (by decide))
  unfold numL at *
  by_cases h : i + 1 < (grp 10 (fold z)).length
  · rw [A i h]; omega
  · have e : i = (grp 10 (fold z)).length - 1 := by omega
    rw [e, B]; omega
theorem num_low (z : Int) (h1 : -9223372036854775808 ≤ z) (h2 : z ≤ 9223372036854775807) : gd (numL z) 0 % 2 = if z < 0 then 1 else 0 := by
  obtain ⟨A, B, C, _⟩ := grp_at 10 (fold z) (Nat.lt_of_lt_of_le (fold_lt z h1 h2) (by decide))
  have hp := grp_pos 10 (fold z)
  have hf : fold z % 2 = if z < 0 then 1 else 0 := by unfold fold; split <;> split <;> omega
  unfold numL
  by_cases h : 0 + 1 < (grp 10 (fold z)).length
  · rw [A 0 h, ← hf]; simp; omega
  · have e : (grp 10 (fold z)).length - 1 = 0 := by omega
    rw [e] at B
    rw [B, ← hf]; simp
theorem num_one (z : Int) (h1 : -9223372036854775808 ≤ z) (h2 : z ≤ 9223372036854775807) : (numL z).length = 1 ↔ (-64 ≤ z ∧ z < 64) := by
  have hf : fold z < 128 ↔ (-64 ≤ z ∧ z < 64) := by unfold fold; split <;> omega
  unfold numL
  rw [← hf]
  constructor
  · intro h
    obtain ⟨_, _, C, _⟩ := grp_at 10 (fold z) (Nat.lt_of_lt_of_le (fold_lt z h1 h2) (by decide))
    rw [h] at C; simpa using C
  · intro h; rw [grp_small _ _ h]; rfl
theorem num_mono (y z : Int) (h : (0 ≤ y ∧ y ≤ z) ∨ (y < 0 ∧ z ≤ y)) : (numL y).length ≤ (numL z).length := by
  unfold numL
  apply grp_mono
  unfold fold
  split <;> split <;> omega
end Go.Proofs.Ytpofccnifecpfaa
