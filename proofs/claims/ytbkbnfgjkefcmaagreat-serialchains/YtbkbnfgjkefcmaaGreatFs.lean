/- The codes of the numbers next behind and next ahead, as plain facts; no condition but that bits are fewer than 2^64. -/
import Derived.Test.YtbkbnfgjkefcmaaGreatFl
namespace Go.Proofs.YtbkbnfgjkefcmaaGreat
namespace Fl
def nc (c : Nat) : Nat := if c = 0 then 4503599627370495 else if c = 9223372036854775806 then 9223372036854775808 else c + 1
def pc (c : Nat) : Nat := if c ≤ 4503599627370495 then 0 else if c = 9223372036854775808 then 9223372036854775806 else c - 1
theorem code_next (b : Nat) (hb : b < 18446744073709551616) (hi : b ≠ INF) : code (nextB b) = nc (code b) := by
  by_cases hn : nan b = true
  · rw [code_nan b hn]; unfold nextB; rw [if_pos hn]; decide +kernel
  · have hn' := nf b hn
    have h1 := code_pos b hb hn'
    have h2 := (isCode_iff _).1 (isCode_code b hb)
    rcases of_next b hb hn' hi with ⟨s1, s2⟩ | ⟨s1, s2, s3⟩
    · have := (isCode_iff _).1 s1
      rw [← s2, code_of _ (by omega) s1]; unfold nc; rw [if_neg (by omega), if_neg (by omega)]
    · have h3 : ¬ (code b + 1 = 0 ∨ 9223372036854775808 ≤ code b + 1 ∧ code b + 1 ≤ 18442240474082181120 ∨ 4503599627370495 ≤ code b + 1 ∧ code b + 1 < 9223372036854775807) := by
        rw [← isCode_iff, s1]; decide
      have h4 := code_inf_iff b hb
      have h5 : code b ≠ 18442240474082181120 := fun h => hi (h4.1 h)
      have h6 : code b = 9223372036854775806 := by omega
      rw [← s2, h6, code_of _ (by decide) (by decide +kernel)]; decide
theorem code_prev (b : Nat) (hb : b < 18446744073709551616) : code (prevB b) = pc (code b) := by
  by_cases hn : nan b = true
  · rw [code_nan b hn]; unfold prevB; rw [if_pos (.inl hn)]; decide +kernel
  · have hn' := nf b hn
    by_cases hi : b = S + INF
    · rw [(code_ninf_iff b hb).2 hi]; unfold prevB; rw [if_pos (.inr hi)]; decide +kernel
    · have h1 := code_pos b hb hn'
      have h2 := (isCode_iff _).1 (isCode_code b hb)
      have h4 := code_ninf_iff b hb
      have h5 : code b ≠ 4503599627370495 := fun h => hi (h4.1 h)
      rcases of_prev b hb hn' hi with ⟨s1, s2⟩ | ⟨s1, s2, s3⟩
      · have := (isCode_iff _).1 s1
        rw [← s2, code_of _ (by omega) s1]; unfold pc; rw [if_neg (by omega), if_neg (by omega)]
      · have h3 : ¬ (code b - 1 = 0 ∨ 9223372036854775808 ≤ code b - 1 ∧ code b - 1 ≤ 18442240474082181120 ∨ 4503599627370495 ≤ code b - 1 ∧ code b - 1 < 9223372036854775807) := by
          rw [← isCode_iff, s1]; decide
        have h6 : code b = 9223372036854775808 := by omega
        rw [← s2, h6, code_of _ (by decide) (by decide +kernel)]; decide
/-- A code is the first, or lies in one of two ranges. -/
theorem code_range (b : Nat) (hb : b < 18446744073709551616) : code b = 0 ∨ 9223372036854775808 ≤ code b ∧ code b ≤ 18442240474082181120 ∨ 4503599627370495 ≤ code b ∧ code b < 9223372036854775807 :=
  (isCode_iff _).1 (isCode_code b hb)
theorem nan_code (b : Nat) (hb : b < 18446744073709551616) : nan b = decide (code b = 0) := by
  by_cases hn : nan b = true
  · rw [hn, code_nan b hn]; rfl
  · have := code_pos b hb (nf b hn)
    rw [nf b hn]; symm; simp; omega
theorem cmpc_lt (a b : Nat) (h : code a < code b) : cmpc a b = -1 := by unfold cmpc; rw [if_pos h]
theorem cmpc_eq (a b : Nat) (h : code a = code b) : cmpc a b = 0 := by unfold cmpc; rw [if_neg (by omega), if_neg (by omega)]
theorem cmpc_gt (a b : Nat) (h : code b < code a) : cmpc a b = 1 := by unfold cmpc; rw [if_neg (by omega), if_pos h]
end Fl
end Go.Proofs.YtbkbnfgjkefcmaaGreat
