/- Bits of 64-bit words: the topmost bit asked for, set, cleared; all bits turned; no condition but that the words fit. -/
import Derived.Laws.BitsAllLaws
namespace Go.Proofs.YtfphopleniidfaaGreatDoor
theorem and_top_lo (b : Nat) (h : b < 9223372036854775808) : bits .and .u64 (b : Int) 9223372036854775808 = 0 := by
  have := u64_and_nat b 9223372036854775808 (by omega) (by omega)
  rw [show ((9223372036854775808 : Nat) : Int) = 9223372036854775808 from rfl] at this
  rw [this, show (9223372036854775808 : Nat) = 2 ^ 63 from rfl, nat_bit]
  rw [show b / 2 ^ 63 = 0 from Nat.div_eq_of_lt (by simpa using h)]; rfl
theorem and_top_hi (b : Nat) (h : 9223372036854775808 ≤ b) (hb : b < 18446744073709551616) : bits .and .u64 (b : Int) 9223372036854775808 = 9223372036854775808 := by
  have := u64_and_nat b 9223372036854775808 (by omega) (by omega)
  rw [show ((9223372036854775808 : Nat) : Int) = 9223372036854775808 from rfl] at this
  rw [this, show (9223372036854775808 : Nat) = 2 ^ 63 from rfl, nat_bit]
  rw [show b / 2 ^ 63 = 1 by omega]; rfl
theorem or_top (b : Nat) (h : b < 9223372036854775808) : bits .or .u64 (b : Int) 9223372036854775808 = ((b + 9223372036854775808 : Nat) : Int) := by
  have := u64_or_nat b 9223372036854775808 (by omega) (by omega)
  rw [show ((9223372036854775808 : Nat) : Int) = 9223372036854775808 from rfl] at this
  rw [this, Nat.or_comm, nat_join 63 _ b rfl (by omega), Nat.add_comm]
theorem andNot_top (b : Nat) (hb : b < 18446744073709551616) : bits .andNot .u64 (b : Int) 9223372036854775808 = ((b % 9223372036854775808 : Nat) : Int) := by
  have := u64_andNot_nat b 9223372036854775808 hb (by omega)
  rw [show ((9223372036854775808 : Nat) : Int) = 9223372036854775808 from rfl] at this
  rw [this, show 18446744073709551615 - 9223372036854775808 = 2 ^ 63 - 1 from rfl, Nat.and_two_pow_sub_one_eq_mod]
theorem lo_of_and (b : Nat) (hb : b < 18446744073709551616) (h : (bits .and .u64 (b : Int) 9223372036854775808 == 0) = true) : b < 9223372036854775808 := by
  rcases Nat.lt_or_ge b 9223372036854775808 with h' | h'
  · exact h'
  · rw [and_top_hi b h' hb] at h; exact absurd h (by decide)
theorem hi_of_and (b : Nat) (h : (bits .and .u64 (b : Int) 9223372036854775808 == 0) = false) : 9223372036854775808 ≤ b := by
  rcases Nat.lt_or_ge b 9223372036854775808 with h' | h'
  · rw [and_top_lo b h'] at h; exact absurd h (by decide)
  · exact h'
theorem xor_max (b : Nat) (hb : b < 18446744073709551616) : bits .xor .u64 IntKind.u64.max (b : Int) = ((18446744073709551615 - b : Nat) : Int) := by
  have := u64_xor_nat 18446744073709551615 b (by omega) hb
  rw [show IntKind.u64.max = ((18446744073709551615 : Nat) : Int) by decide +kernel, this]
  congr 1
  have e : (BitVec.allOnes 64 ^^^ BitVec.ofNat 64 b).toNat = 18446744073709551615 - b := by
    rw [BitVec.allOnes_xor, BitVec.toNat_not, BitVec.toNat_ofNat, Nat.mod_eq_of_lt (by omega)]
  rw [← e, BitVec.toNat_xor, BitVec.toNat_allOnes, BitVec.toNat_ofNat, Nat.mod_eq_of_lt (by omega)]
end Go.Proofs.YtfphopleniidfaaGreatDoor
