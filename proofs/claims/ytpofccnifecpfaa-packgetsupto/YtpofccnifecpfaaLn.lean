/- The number with which bytes begin, as pack.leadingNum reads it, in plain numbers and as a contract; condition: the row lies in memory. -/
import Derived.Test.YtpofccnifecpfaaBy
import Derived.PlainAid
namespace Go.Proofs.Ytpofccnifecpfaa
open Go.RowKit
set_option linter.unusedVariables false
/-- The groups of the first k bytes. -/
def acc (x : Nat → Nat) : Nat → Nat | 0 => 0 | k + 1 => acc x k + x k % 128 * 128 ^ k
theorem acc_lt (x : Nat → Nat) : ∀ k, acc x k < 128 ^ k
  | 0 => by show 0 < 1; decide
  | k + 1 => by
    have h := acc_lt x k
    have hm : x k % 128 < 128 := Nat.mod_lt _ (by omega)
    have h3 : x k % 128 * 128 ^ k ≤ 127 * 128 ^ k := Nat.mul_le_mul_right _ (by omega)
    show acc x k + x k % 128 * 128 ^ k < 128 ^ (k + 1)
    rw [Nat.pow_succ]; omega
def unf (u : Nat) : Int := if u % 2 = 0 then ((u / 2 : Nat) : Int) else -((u / 2 : Nat) : Int) - 1
/-- The number and how many bytes it has. -/
def ln (x : Nat → Nat) (n : Nat) : Nat → Nat → Int × Nat
  | 0, _ => (0, 0)
  | f + 1, i => if i < n ∧ i < 10 then (if 128 ≤ x i then ln x n f (i + 1) else if (0 < i ∧ x i = 0) ∨ (i = 9 ∧ 1 < x i) then (0, 0) else (unf (acc x (i + 1)), i + 1)) else (0, 0)
theorem ln_le (x : Nat → Nat) (n : Nat) : ∀ f i, (ln x n f i).2 ≤ n
  | 0, _ => Nat.zero_le _
  | f + 1, i => by
    unfold ln; split
    · split
      · exact ln_le x n f (i + 1)
      · split
        · exact Nat.zero_le _
        · show i + 1 ≤ n; omega
    · exact Nat.zero_le _
theorem unf_in (u : Nat) (h : u < 18446744073709551616) : -9223372036854775808 ≤ unf u ∧ unf u ≤ 9223372036854775807 := by
  unfold unf; split <;> omega
def lnV (x : Nat → Nat) (n : Nat) : Int := (ln x n 11 0).1
def lnK (x : Nat → Nat) (n : Nat) : Nat := (ln x n 11 0).2
theorem bits_step (a c i : Nat) (hi : i ≤ 9) (ha : a < 128 ^ i) (hc : c < 128) : ∃ U : Nat, bits .or .u64 (a : Int) ((c : Int) * 2 ^ (7 * i) % 18446744073709551616) = (U : Int) ∧ U < 18446744073709551616 ∧ (i ≤ 8 ∨ c ≤ 1 → U = a + c * 128 ^ i) := by
  have hp : (2 : Nat) ^ (7 * i) = 128 ^ i := by rw [Nat.pow_mul]
  have hb : (128 : Nat) ^ i ≤ 128 ^ 9 := Nat.pow_le_pow_right (by omega) hi
  have h9 : (128 : Nat) ^ 9 = 9223372036854775808 := by decide
  have e : ((c : Int) * 2 ^ (7 * i) % 18446744073709551616) = ((c * 128 ^ i % 18446744073709551616 : Nat) : Int) := by
    have : ((c : Int) * 2 ^ (7 * i)) = ((c * 2 ^ (7 * i) : Nat) : Int) := by simp
    rw [this, hp]; omega
  have hl : c * 128 ^ i % 18446744073709551616 < 18446744073709551616 := Nat.mod_lt _ (by omega)
  refine ⟨a ||| c * 128 ^ i % 18446744073709551616, by rw [e, u64_or_nat a _ (by omega) hl], Nat.or_lt_two_pow (n := 64) (by omega) hl, fun h => ?_⟩
  have hs : c * 128 ^ i < 18446744073709551616 := by
    rcases h with h | h
    · have hb8 : (128 : Nat) ^ i ≤ 128 ^ 8 := Nat.pow_le_pow_right (by omega) h
      have h8 : (128 : Nat) ^ 8 = 72057594037927936 := by decide
      have : c * 128 ^ i ≤ 127 * 128 ^ i := Nat.mul_le_mul_right _ (by omega)
      omega
    · have : c * 128 ^ i ≤ 1 * 128 ^ i := Nat.mul_le_mul_right _ h
      omega
  rw [Nat.mod_eq_of_lt hs, Nat.or_comm, nat_join (7 * i) _ a (by rw [← hp]; exact Nat.mul_mod_left _ _) (by rw [hp]; exact ha), Nat.add_comm]
theorem and128 (c : Nat) (hc : c < 256) : bits .and .u8 (c : Int) 128 = if 128 ≤ c then 128 else 0 := by
  have := u8_and_nat c 128 hc (by omega)
  rw [show ((128 : Nat) : Int) = 128 from rfl] at this
  rw [this, show (128 : Nat) = 2 ^ 7 from rfl, nat_bit]
  split
  · rw [show c / 2 ^ 7 = 1 by omega]; rfl
  · rw [show c / 2 ^ 7 = 0 by omega]; rfl
theorem ln_stop (x : Nat → Nat) (n f k : Nat) (h : ¬ (k < n ∧ k < 10)) : ln x n f k = (0, 0) := by
  cases f with
  | zero => rfl
  | succ f => unfold ln; rw [if_neg h]
theorem ln_go (x : Nat → Nat) (n k : Nat) (h1 : k < n) (h2 : k < 10) (h : 128 ≤ x k) : ln x n (11 - k) k = ln x n (11 - (k + 1)) (k + 1) := by
  rw [show 11 - k = (11 - (k + 1)) + 1 by omega]
  conv => lhs; unfold ln
  rw [if_pos ⟨h1, h2⟩, if_pos h]
theorem ln_bad (x : Nat → Nat) (n k : Nat) (h1 : k < n) (h2 : k < 10) (h : ¬ 128 ≤ x k) (hb : (0 < k ∧ x k = 0) ∨ (k = 9 ∧ 1 < x k)) : ln x n (11 - k) k = (0, 0) := by
  rw [show 11 - k = (11 - (k + 1)) + 1 by omega]
  unfold ln
  rw [if_pos ⟨h1, h2⟩, if_neg h, if_pos hb]
theorem ln_end (x : Nat → Nat) (n k : Nat) (h1 : k < n) (h2 : k < 10) (h : ¬ 128 ≤ x k) (hb : ¬ ((0 < k ∧ x k = 0) ∨ (k = 9 ∧ 1 < x k))) : ln x n (11 - k) k = (unf (acc x (k + 1)), k + 1) := by
  rw [show 11 - k = (11 - (k + 1)) + 1 by omega]
  unfold ln
  rw [if_pos ⟨h1, h2⟩, if_neg h, if_neg hb]
theorem xor_i64_zero (a : Nat) (h : a < 9223372036854775808) : bits .xor .i64 (a : Int) 0 = (a : Int) := by
  show IntKind.i64.wrap ((BitVec.ofInt 64 (a : Int) ^^^ BitVec.ofInt 64 0).toNat : Int) = _
  rw [show BitVec.ofInt 64 0 = 0#64 by decide, BitVec.xor_zero, BitVec.ofInt_natCast, BitVec.toNat_ofNat, Nat.mod_eq_of_lt (by omega)]
  simp [IntKind.wrap, IntKind.bits, IntKind.signed]; omega
theorem xor_i64_ones (a : Nat) (h : a < 9223372036854775808) : bits .xor .i64 (a : Int) (-1) = -(a : Int) - 1 := by
  show IntKind.i64.wrap ((BitVec.ofInt 64 (a : Int) ^^^ BitVec.ofInt 64 (-1)).toNat : Int) = _
  rw [show BitVec.ofInt 64 (-1) = BitVec.allOnes 64 by decide, BitVec.xor_allOnes, BitVec.toNat_not, BitVec.ofInt_natCast, BitVec.toNat_ofNat, Nat.mod_eq_of_lt (by omega)]
  simp [IntKind.wrap, IntKind.bits, IntKind.signed]; omega
theorem unf_bits (u : Nat) (hu : u < 18446744073709551616) : bits .xor .i64 ((u : Int) / 2) (wrap64 (-wrap64 (bits .and .u64 (u : Int) 1))) = unf u := by
  have ha := u64_and_nat u 1 hu (by omega)
  rw [nat_mask1] at ha
  rw [show ((1 : Nat) : Int) = 1 from rfl] at ha
  rw [ha, show ((u : Int) / 2) = ((u / 2 : Nat) : Int) by omega]
  unfold unf
  rcases Nat.mod_two_eq_zero_or_one u with h | h
  · rw [h, if_pos rfl, show wrap64 (-wrap64 ((0 : Nat) : Int)) = 0 by decide +kernel, xor_i64_zero _ (by omega)]
  · rw [h, if_neg (by omega), show wrap64 (-wrap64 ((1 : Nat) : Int)) = -1 by decide +kernel, xor_i64_ones _ (by omega)]
set_option maxHeartbeats 400000 in
theorem unfolded_any (u : Nat) (hu : u < 18446744073709551616) (w : World) :
    Calls Try.prog 47 #[.int .u64 (u : Int)] w fun e w' => e = .returned (.int .i64 (unf u)) ∧ w' = w := by
  go_enter Try.func47, Try.ntmps47
  go_wp2
  go_ret
  exact ⟨ret_i (unf_bits u hu), rfl⟩
set_option maxHeartbeats 1000000 in
theorem leadingNum_some (b off n cap : Nat) (x : Nat → Nat) (hm : n ≤ maxLen) (w : World) (hc : ∀ i, i < n → x i < 256 ∧ w.cell? ⟨b, off + i, none⟩ = some (.int .u8 (x i : Int))) :
    Calls Try.prog 35 #[.slice (some ⟨b, off, none⟩) n cap] w fun e w' => e = .returned (.tuple #[.int .i64 (lnV x n), .int .i64 (lnK x n : Nat)]) ∧ w' = w := by
  unfold maxLen at hm
  have HC := hid hc
  clear hc
  have HG : Hid (lnV x n = (ln x n 11 0).1 ∧ lnK x n = (ln x n 11 0).2) := ⟨rfl, rfl⟩
  generalize lnV x n = V at *
  generalize lnK x n = K at *
  go_enter Try.func35, Try.ntmps35
  go_wp2
  go_loop [4, 5] (fun u i => ∃ (k U : Nat), k ≤ 10 ∧ i = .int .i64 (k : Nat) ∧ u = .int .u64 (U : Int) ∧ U < 18446744073709551616 ∧ (k ≤ 9 → U = acc x k) ∧ V = (ln x n (11 - k) k).1 ∧ K = (ln x n (11 - k) k).2) (fun _ i => 10 - (intOf i).toNat)
  case atStart => exact ⟨0, 0, by omega, rfl, rfl, by omega, fun _ => rfl, HG.out.1, HG.out.2⟩
  case round =>
    obtain ⟨k, U, hk, rfl, rfl, hU, hacc, hV, hK⟩ := hrel
    have HA := hid hacc
    have H1 := hid hV
    have H2 := hid hK
    clear hacc hV hK HG
    by_cases hlt : k < n ∧ k < 10
    · obtain ⟨hx, hcell⟩ := HC.out k hlt.1
      obtain ⟨hl1, hl2⟩ := hlt
      clear HC
      have e0 : bits .andNot .u8 (x k : Int) 128 = ((x k % 128 : Nat) : Int) := by
        have := u8_andNot_nat (x k) 128 hx (by omega)
        rw [show 255 - 128 = 2 ^ 7 - 1 from rfl, Nat.and_two_pow_sub_one_eq_mod] at this
        exact this
      have hU9 := HA.out (by omega)
      subst hU9
      obtain ⟨U', eU, hU', hUe⟩ := bits_step (acc x k) (x k % 128) k (by omega) (acc_lt x k) (Nat.mod_lt _ (by omega))
      rw [show ((x k % 128 : Nat) : Int) * 2 ^ (7 * k) % 18446744073709551616 = IntKind.u64.wrap ((x k : Int) % 128 * 2 ^ (7 * k)) by simp [IntKind.wrap, IntKind.bits, IntKind.signed]] at eU
      have HU := hid hUe
      have e1 := and128 (x k) hx
      clear hUe HA
      by_cases h128 : 128 ≤ x k
      · rw [if_pos h128] at e1
        have HL := hid (ln_go x n k hl1 hl2 h128)
        clear h128
        have HAcc : Hid (acc x (k + 1) = acc x k + x k % 128 * 128 ^ k) := rfl
        generalize acc x k = A at *
        go_wp2
        go_round
        case rel => exact ⟨k + 1, U', by omega, by go_num, rfl, hU', fun h9 => by rw [HU.out (.inl (by omega)), HAcc.out], by rw [← HL.out]; exact H1.out, by rw [← HL.out]; exact H2.out⟩
        case measure => simp [intOf]; omega
      · rw [if_neg h128] at e1
        by_cases hb : (0 < k ∧ x k = 0) ∨ (k = 9 ∧ 1 < x k)
        · have hz := ln_bad x n k hl1 hl2 h128 hb
          have hV := H1.out
          have hK := H2.out
          rw [hz] at hV hK
          subst hV hK
          clear hz H1 H2 h128
          generalize acc x k = A at *
          by_cases h0 : 0 < k ∧ x k = 0
          · obtain ⟨h0a, h0b⟩ := h0
            have t1 : decide ((0 : Int) < (k : Int)) = true := by rw [decide_eq_true_eq]; omega
            have t2 : ((x k : Int) == 0) = true := by rw [h0b]; rfl
            clear hb h0b
            go_wp2
            go_ret2
            exact ⟨rfl, rfl⟩
          · have h9 : k = 9 ∧ 1 < x k := by rcases hb with h | h; exact absurd h h0; exact h
            obtain ⟨h9a, h9b⟩ := h9
            have t1 : ((k : Int) == 9) = true := by rw [h9a]; rfl
            have t2 : decide ((1 : Int) < (x k : Int)) = true := by rw [decide_eq_true_eq]; omega
            have t3 : ((x k : Int) == 0) = false := by rw [beq_eq_false_iff_ne]; omega
            have t4 : decide ((0 : Int) < (k : Int)) = true := by rw [decide_eq_true_eq]; omega
            have hk0 : 0 < k := by omega
            clear hb h0 h9a h9b
            go_wp2
            go_ret2
            exact ⟨rfl, rfl⟩
        · have hz := ln_end x n k hl1 hl2 h128 hb
          have hV := H1.out
          have hK := H2.out
          rw [hz] at hV hK
          have hUa : U' = acc x (k + 1) := by
            rw [HU.out (by omega)]; rfl
          subst hV hK
          have HUa := hid hUa
          have t9 : ¬ ((k : Int) = 9) ∨ x k ≤ 1 := by omega
          have HN := hid hb
          clear hz H1 H2 h128 HU hUa hb
          generalize acc x k = A at *
          rcases Nat.eq_zero_or_pos k with h0 | h0
          · have hk0 : ¬ 0 < k := by omega
            have t1 : ((k : Int) == 9) = false := by rw [beq_eq_false_iff_ne]; omega
            clear h0 t9
            go_wp2_with (go_at_call 47; refine (unfolded_any U' hU' _).mono ?_; rintro e w' ⟨rfl, rfl⟩)
            go_ret2
            exact ⟨by rw [HUa.out]; rfl, rfl⟩
          · have t3 : ((x k : Int) == 0) = false := by rw [beq_eq_false_iff_ne]; have := HN.out; omega
            by_cases h9 : k = 9
            · have t1 : ((k : Int) == 9) = true := by rw [h9]; rfl
              have t2 : decide ((1 : Int) < (x k : Int)) = false := by rw [decide_eq_false_iff_not]; have := HN.out; omega
              clear h9 t9
              go_wp2_with (go_at_call 47; refine (unfolded_any U' hU' _).mono ?_; rintro e w' ⟨rfl, rfl⟩)
              go_ret2
              exact ⟨by rw [HUa.out]; rfl, rfl⟩
            · have t1 : ((k : Int) == 9) = false := by rw [beq_eq_false_iff_ne]; omega
              clear t9
              go_wp2_with (go_at_call 47; refine (unfolded_any U' hU' _).mono ?_; rintro e w' ⟨rfl, rfl⟩)
              go_ret2
              exact ⟨by rw [HUa.out]; rfl, rfl⟩
    · have hz := ln_stop x n (11 - k) k hlt
      have hV := H1.out
      have hK := H2.out
      rw [hz] at hV hK
      subst hV hK
      clear hz
      go_wp2
      all_goals go_ret2
      all_goals exact ⟨rfl, rfl⟩
set_option maxHeartbeats 400000 in
theorem leadingNum_none (a : Option Addr) (c : Nat) (w : World) :
    Calls Try.prog 35 #[.slice a 0 c] w fun e w' => e = .returned (.tuple #[.int .i64 0, .int .i64 0]) ∧ w' = w := by
  go_enter Try.func35, Try.ntmps35
  go_wp2
  refine wp_loop_rounds 1 ?_
  rw [rounds_succ]
  go_wp2
  go_ret2
  exact ⟨rfl, rfl⟩
set_option maxHeartbeats 400000 in
theorem leadingNum_any (v : Value) (n : Nat) (x : Nat → Nat) (w : World) (hv : ByRow w v n x) :
    Calls Try.prog 35 #[v] w fun e w' => e = .returned (.tuple #[.int .i64 (lnV x n), .int .i64 (lnK x n : Nat)]) ∧ w' = w := by
  rcases hv with ⟨rfl, a, c, rfl, _⟩ | ⟨hn, hm, b, off, cap, rfl, hc, _⟩
  · have h := ln_stop x 0 11 0 (by omega)
    rw [show lnV x 0 = 0 by unfold lnV; rw [h], show lnK x 0 = 0 by unfold lnK; rw [h]]
    exact leadingNum_none a c w
  · exact leadingNum_some b off n cap x hm w hc
end Go.Proofs.Ytpofccnifecpfaa
