/- The number with which bytes begin, as pack.leadingNum reads it, in plain numbers and as a contract; condition: the row lies in memory. -/
import Derived.Test.YtbmbjadmojehiaaBy
import Derived.PlainAid
namespace Go.Proofs.Ytbmbjadmojehiaa
open Go.RowKit
set_option linter.unusedVariables false
/-- The groups of the first k bytes. -/
def acc (x : Nat → Nat) : Nat → Nat | 0 => 0 | k + 1 => acc x k + x k % 128 * 128 ^ k
theorem acc_lt (x : Nat → Nat) : ∀ k, acc x k < 128 ^ k
  | 0 => by show 0 < 1; decide
  | k + 1 => by
    have h := acc_lt x k
    have hm : x k % 128 < 128 := Nat.mod_lt _ (by omega)
    have h3 : x k % 128 * 128 ^ k ≤ 127 * 128 ^ k := Nat.mul_le_mul_right _ (by omega)
    show acc x k + x k % 128 * 128 ^ k < 128 ^ (k + 1)
    rw [Nat.pow_succ]; omega
def unf (u : Nat) : Int := if u % 2 = 0 then ((u / 2 : Nat) : Int) else -((u / 2 : Nat) : Int) - 1
/-- The number and how many bytes it has. -/
def ln (x : Nat → Nat) (n : Nat) : Nat → Nat → Int × Nat
  | 0, _ => (0, 0)
  | f + 1, i => if i < n ∧ i < 10 then (if 128 ≤ x i then ln x n f (i + 1) else if (0 < i ∧ x i = 0) ∨ (i = 9 ∧ 1 < x i) then (0, 0) else (unf (acc x (i + 1)), i + 1)) else (0, 0)
theorem ln_le (x : Nat → Nat) (n : Nat) : ∀ f i, (ln x n f i).2 ≤ n
  | 0, _ => Nat.zero_le _
  | f + 1, i => by
    unfold ln; split
    · split
      · exact ln_le x n f (i + 1)
      · split
        · exact Nat.zero_le _
        · show i + 1 ≤ n; omega
    · exact Nat.zero_le _
theorem unf_in (u : Nat) (h : u < 18446744073709551616) : -9223372036854775808 ≤ unf u ∧ unf u ≤ 9223372036854775807 := by
  unfold unf; split <;> omega
def lnV (x : Nat → Nat) (n : Nat) : Int := (ln x n 11 0).1
def lnK (x : Nat → Nat) (n : Nat) : Nat := (ln x n 11 0).2
theorem bits_step (a c i : Nat) (hi : i ≤ 9) (ha : a < 128 ^ i) (hc : c < 128) : ∃ U : Nat, bits .or .u64 (a : Int) ((c : Int) * 2 ^ (7 * i) % 18446744073709551616) = (U : Int) ∧ U < 18446744073709551616 ∧ (i ≤ 8 ∨ c ≤ 1 → U = a + c * 128 ^ i) := by
  have hp : (2 : Nat) ^ (7 * i) = 128 ^ i := by rw [Nat.pow_mul]
  have hb : (128 : Nat) ^ i ≤ 128 ^ 9 := Nat.pow_le_pow_right (by omega) hi
  have h9 : (128 : Nat) ^ 9 = 9223372036854775808 := by decide
  have e : ((c : Int) * 2 ^ (7 * i) % 18446744073709551616) = ((c * 128 ^ i % 18446744073709551616 : Nat) : Int) := by
    have : ((c : Int) * 2 ^ (7 * i)) = ((c * 2 ^ (7 * i) : Nat) : Int) := by simp
    rw [this, hp]; omega
  have hl : c * 128 ^ i % 18446744073709551616 < 18446744073709551616 := Nat.mod_lt _ (by omega)
  refine ⟨a ||| c * 128 ^ i % 18446744073709551616, by rw [e, u64_or_nat a _ (by omega) hl], Nat.or_lt_two_pow (n := 64) (by omega) hl, fun h => ?_⟩
  have hs : c * 128 ^ i < 18446744073709551616 := by
    rcases h with h | h
    · have hb8 : (128 : Nat) ^ i ≤ 128 ^ 8 := Nat.pow_le_pow_right (by omega) h
      have h8 : (128 : Nat) ^ 8 = 72057594037927936 := by decide
      have : c * 128 ^ i ≤ 127 * 128 ^ i := Nat.mul_le_mul_right _ (by omega)
      omega
    · have : c * 128 ^ i ≤ 1 * 128 ^ i := Nat.mul_le_mul_right _ h
      omega
  rw [Nat.mod_eq_of_lt hs, Nat.or_comm, nat_join (7 * i) _ a (by rw [← hp]; exact Nat.mul_mod_left _ _) (by rw [hp]; exact ha), Nat.add_comm]
theorem and128 (c : Nat) (hc : c < 256) : bits .and .u8 (c : Int) 128 = if 128 ≤ c then 128 else 0 := by
  have := u8_and_nat c 128 hc (by omega)
  rw [show ((128 : Nat) : Int) = 128 from rfl] at this
  rw [this, show (128 : Nat) = 2 ^ 7 from rfl, nat_bit]
  split
  · rw [show c / 2 ^ 7 = 1 by omega]; rfl
  · rw [show c / 2 ^ 7 = 0 by omega]; rfl
theorem ln_stop (x : Nat → Nat) (n f k : Nat) (h : ¬ (k < n ∧ k < 10)) : ln x n f k = (0, 0) := by
  cases f with
  | zero => rfl
  | succ f => unfold ln; rw [if_neg h]
theorem ln_go (x : Nat → Nat) (n k : Nat) (h1 : k < n) (h2 : k < 10) (h : 128 ≤ x k) : ln x n (11 - k) k = ln x n (11 - (k + 1)) (k + 1) := by
  rw [show 11 - k = (11 - (k + 1)) + 1 by omega]
  conv => lhs; unfold ln
  rw [if_pos ⟨h1, h2⟩, if_pos h]
theorem ln_bad (x : Nat → Nat) (n k : Nat) (h1 : k < n) (h2 : k < 10) (h : ¬ 128 ≤ x k) (hb : (0 < k ∧ x k = 0) ∨ (k = 9 ∧ 1 < x k)) : ln x n (11 - k) k = (0, 0) := by
  rw [show 11 - k = (11 - (k + 1)) + 1 by omega]
  unfold ln
  rw [if_pos ⟨h1, h2⟩, if_neg h, if_pos hb]
theorem ln_end (x : Nat → Nat) (n k : Nat) (h1 : k < n) (h2 : k < 10) (h : ¬ 128 ≤ x k) (hb : ¬ ((0 < k ∧ x k = 0) ∨ (k = 9 ∧ 1 < x k))) : ln x n (11 - k) k = (unf (acc x (k + 1)), k + 1) := by
  rw [show 11 - k = (11 - (k + 1)) + 1 by omega]
  unfold ln
  rw [if_pos ⟨h1, h2⟩, if_neg h, if_neg hb]
theorem xor_i64_zero (a : Nat) (h : a < 9223372036854775808) : bits .xor .i64 (a : Int) 0 = (a : Int) := by
  show IntKind.i64.wrap ((BitVec.ofInt 64 (a : Int) ^^^ BitVec.ofInt 64 0).toNat : Int) = _
  rw [show BitVec.ofInt 64 0 = 0#64 by decide, BitVec.xor_zero, BitVec.ofInt_natCast, BitVec.toNat_ofNat, Nat.mod_eq_of_lt (by omega)]
  simp [IntKind.wrap, IntKind.bits, IntKind.signed]; omega
theorem xor_i64_ones (a : Nat) (h : a < 9223372036854775808) : bits .xor .i64 (a : Int) (-1) = -(a : Int) - 1 := by
  show IntKind.i64.wrap ((BitVec.ofInt 64 (a : Int) ^^^ BitVec.ofInt 64 (-1)).toNat : Int) = _
  rw [show BitVec.ofInt 64 (-1) = BitVec.allOnes 64 by decide, BitVec.xor_allOnes, BitVec.toNat_not, BitVec.ofInt_natCast, BitVec.toNat_ofNat, Nat.mod_eq_of_lt (by omega)]
  simp [IntKind.wrap, IntKind.bits, IntKind.signed]; omega
theorem unf_bits (u : Nat) (hu : u < 18446744073709551616) : bits .xor .i64 ((u : Int) / 2) (wrap64 (-wrap64 (bits .and .u64 (u : Int) 1))) = unf u := by
  have ha := u64_and_nat u 1 hu (by omega)
  rw [nat_mask1] at ha
  rw [show ((1 : Nat) : Int) = 1 from rfl] at ha
  rw [ha, show ((u : Int) / 2) = ((u / 2 : Nat) : Int) by omega]
  unfold unf
  rcases Nat.mod_two_eq_zero_or_one u with h | h
  · rw [h, if_pos rfl, show wrap64 (-wrap64 ((0 : Nat) : Int)) = 0 by decide +kernel, xor_i64_zero _ (by omega)]
  · rw [h, if_neg (by omega), show wrap64 (-wrap64 ((1 : Nat) : Int)) = -1 by decide +kernel, xor_i64_ones _ (by omega)]

end Go.Proofs.Ytbmbjadmojehiaa
