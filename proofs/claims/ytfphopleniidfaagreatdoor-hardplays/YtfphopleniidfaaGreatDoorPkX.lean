/- The sum of bytes (CRC-32C), reckoned in plain numbers: bit by bit and by four bits, and that a turned byte turns it; no condition. -/
import Derived.Test.YtfphopleniidfaaGreatDoorPkC
namespace Go.Proofs.YtfphopleniidfaaGreatDoor.Crc
set_option maxRecDepth 20000
def poly : Nat := 2197175160
/-- One bit's step. -/
def st1 (s : Nat) : Nat := if s % 2 = 1 then (s / 2) ^^^ poly else s / 2
def tab : Nat → Nat
  | 0 => 0 | 1 => 274646895 | 2 => 549293790 | 3 => 820201905 | 4 => 1098587580 | 5 => 1361435347 | 6 => 1640403810 | 7 => 1905808397 | 8 => 2197175160 | 9 => 2460548119 | 10 => 2722870694 | 11 => 2987750089 | 12 => 3280807620 | 13 => 3553878443 | 14 => 3811616794 | 15 => 4084100981 | _ => 0
def st4 (s : Nat) : Nat := (s / 16) ^^^ tab (s % 16)
theorem tab_lt (n : Nat) : tab n < 4294967296 := by unfold tab; split <;> omega
theorem xor_div2 (a b : Nat) : (a ^^^ b) / 2 = (a / 2) ^^^ (b / 2) := by
  have := Nat.shiftRight_xor_distrib (a := a) (b := b) (i := 1)
  simpa [Nat.shiftRight_eq_div_pow] using this
theorem xor_mod2 (a b : Nat) : (a ^^^ b) % 2 = (a % 2 + b % 2) % 2 := by
  have := Nat.xor_mod_two_pow (a := a) (b := b) (n := 1)
  simp only [Nat.pow_one] at this
  rw [this]
  rcases Nat.mod_two_eq_zero_or_one a with h | h <;> rcases Nat.mod_two_eq_zero_or_one b with k | k <;> rw [h, k] <;> rfl
theorem st1_xor (a b : Nat) : st1 (a ^^^ b) = st1 a ^^^ st1 b := by
  unfold st1
  have hm := xor_mod2 a b
  have hd := xor_div2 a b
  rcases Nat.mod_two_eq_zero_or_one a with h | h <;> rcases Nat.mod_two_eq_zero_or_one b with k | k
  · rw [if_neg (by omega), if_neg (by omega), if_neg (by omega), hd]
  · rw [if_pos (by omega), if_neg (by omega), if_pos (by omega), hd, Nat.xor_assoc]
  · rw [if_pos (by omega), if_pos (by omega), if_neg (by omega), hd]
    rw [Nat.xor_assoc, Nat.xor_assoc, Nat.xor_comm poly]
  · rw [if_neg (by omega), if_pos (by omega), if_pos (by omega), hd]
    rw [Nat.xor_assoc, Nat.xor_comm poly, Nat.xor_assoc, Nat.xor_self, Nat.xor_zero]
theorem st1_lt (s : Nat) (h : s < 4294967296) : st1 s < 4294967296 := by
  unfold st1
  split
  · exact Nat.xor_lt_two_pow (n := 32) (by omega) (by unfold poly; omega)
  · omega
theorem st4_lt (s : Nat) (h : s < 4294967296) : st4 s < 4294967296 :=
  Nat.xor_lt_two_pow (n := 32) (by omega) (tab_lt _)
theorem split16 (s : Nat) : s = (16 * (s / 16)) ^^^ (s % 16) := by
  apply Nat.eq_of_testBit_eq
  intro i
  rw [Nat.testBit_xor, show (16 : Nat) = 2 ^ 4 by rfl, Nat.testBit_two_pow_mul, Nat.testBit_mod_two_pow, Nat.testBit_div_two_pow]
  by_cases h : i < 4
  · simp [h, Nat.not_le.2 h]
  · have h' : 4 ≤ i := by omega
    simp [h', Nat.not_lt.2 h', show i - 4 + 4 = i by omega]
theorem st1_even (n : Nat) : st1 (2 * n) = n := by unfold st1; rw [if_neg (by omega)]; omega
theorem st4_eq (s : Nat) : st4 s = st1 (st1 (st1 (st1 s))) := by
  conv => rhs; rw [split16 s]
  rw [st1_xor, st1_xor, st1_xor, st1_xor, show 16 * (s / 16) = 2 * (2 * (2 * (2 * (s / 16)))) by omega, st1_even, st1_even, st1_even, st1_even]
  unfold st4
  congr 1
  have h : s % 16 < 16 := Nat.mod_lt _ (by omega)
  generalize s % 16 = r at h
  have all : ∀ r, r < 16 → tab r = st1 (st1 (st1 (st1 r))) := by decide +kernel
  exact all r h
theorem xor_can {a b : Nat} (h : a ^^^ b = 0) : a = b := by
  have := congrArg (· ^^^ b) h
  simpa [Nat.xor_assoc] using this
theorem xor_left {a b c : Nat} (h : a ^^^ b = a ^^^ c) : b = c := by
  have := congrArg (a ^^^ ·) h
  simpa [← Nat.xor_assoc] using this
theorem xor_right {a b c : Nat} (h : b ^^^ a = c ^^^ a) : b = c := by
  rw [Nat.xor_comm b, Nat.xor_comm c] at h; exact xor_left h
theorem st1_inj {a b : Nat} (ha : a < 4294967296) (hb : b < 4294967296) (h : st1 a = st1 b) : a = b := by
  have hx : a ^^^ b < 4294967296 := Nat.xor_lt_two_pow (n := 32) ha hb
  have h0 : st1 (a ^^^ b) = 0 := by rw [st1_xor, h, Nat.xor_self]
  have hz : a ^^^ b = 0 := by
    unfold st1 at h0
    split at h0
    · have h2 := congrArg (fun n => n.testBit 31) h0
      simp only [Nat.testBit_xor, Nat.zero_testBit] at h2
      rw [Nat.testBit_lt_two_pow (show (a ^^^ b) / 2 < 2 ^ 31 by omega)] at h2
      exact absurd h2 (by decide)
    · omega
  exact xor_can hz
/-- A byte's step. -/
def step (s c : Nat) : Nat := st4 (st4 (s ^^^ c))
theorem step_lt (s c : Nat) (h : s < 4294967296) (hc : c < 256) : step s c < 4294967296 := st4_lt _ (st4_lt _ (Nat.xor_lt_two_pow (n := 32) h (by omega)))
theorem step_inj {a b c d : Nat} (ha : a < 4294967296) (hb : b < 4294967296) (hc : c < 256) (hd : d < 256) (h : step a c = step b d) : a ^^^ c = b ^^^ d := by
  have h1 : a ^^^ c < 4294967296 := Nat.xor_lt_two_pow (n := 32) ha (by omega)
  have h2 : b ^^^ d < 4294967296 := Nat.xor_lt_two_pow (n := 32) hb (by omega)
  unfold step at h
  rw [st4_eq (st4 (a ^^^ c)), st4_eq (a ^^^ c), st4_eq (st4 (b ^^^ d)), st4_eq (b ^^^ d)] at h
  generalize a ^^^ c = x at *
  generalize b ^^^ d = y at *
  have L := fun n (hn : n < 4294967296) => st1_lt n hn
  refine st1_inj h1 h2 (st1_inj ?_ ?_ (st1_inj ?_ ?_ (st1_inj ?_ ?_ (st1_inj ?_ ?_ (st1_inj ?_ ?_ (st1_inj ?_ ?_ (st1_inj ?_ ?_ h)))))))
  all_goals repeat (first | assumption | apply st1_lt)
/-- The state behind the first k bytes. -/
def run (x : Nat → Nat) : Nat → Nat | 0 => 4294967295 | k + 1 => step (run x k) (x k)
theorem run_lt (x : Nat → Nat) (n : Nat) (h : ∀ i, i < n → x i < 256) : ∀ k, k ≤ n → run x k < 4294967296
  | 0, _ => by show 4294967295 < _; decide
  | k + 1, hk => step_lt _ _ (run_lt x n h k (by omega)) (h k (by omega))
theorem run_congr (x y : Nat → Nat) : ∀ k, (∀ i, i < k → x i = y i) → run x k = run y k
  | 0, _ => rfl
  | k + 1, h => by unfold run; rw [run_congr x y k (fun i hi => h i (by omega)), h k (by omega)]
/-- Where one byte is another one, the state is another one. -/
theorem run_turn (x y : Nat → Nat) (n j : Nat) (hx : ∀ i, i < n → x i < 256) (hy : ∀ i, i < n → y i < 256) (hj : j < n) (hd : x j ≠ y j) (he : ∀ i, i < n → i ≠ j → x i = y i) : ∀ k, j < k → k ≤ n → run x k ≠ run y k := by
  intro k
  induction k with
  | zero => intro h; omega
  | succ k ih =>
    intro h1 h2 heq
    have a := run_lt x n hx k (by omega)
    have b := run_lt y n hy k (by omega)
    have e := step_inj a b (hx k (by omega)) (hy k (by omega)) heq
    by_cases hk : k = j
    · subst hk
      rw [run_congr x y k (fun i hi => he i (by omega) (by omega))] at e
      exact hd (xor_left e)
    · rw [he k (by omega) hk] at e
      exact ih (by omega) (by omega) (xor_right e)
/-- The sum. -/
def sum (x : Nat → Nat) (n : Nat) : Nat := 4294967295 - run x n
/-- The document's inner loop, behind k bits. -/
def bits8 (s c : Nat) : Nat → Nat | 0 => s | k + 1 => if (bits8 s c k) % 2 ≠ (c / 2 ^ k) % 2 then (bits8 s c k / 2) ^^^ poly else bits8 s c k / 2
theorem bits8_lt (s c : Nat) (h : s < 4294967296) : ∀ k, bits8 s c k < 4294967296
  | 0 => h
  | k + 1 => by
    have := bits8_lt s c h k
    unfold bits8; split
    · exact Nat.xor_lt_two_pow (n := 32) (by omega) (by unfold poly; omega)
    · omega
theorem bits8_st (s c : Nat) : ∀ k, bits8 s c k ^^^ (c / 2 ^ k) = Nat.repeat st1 k (s ^^^ c)
  | 0 => by simp [bits8, Nat.repeat]
  | k + 1 => by
    show _ = st1 (Nat.repeat st1 k (s ^^^ c))
    rw [← bits8_st s c k]
    have e : c / 2 ^ (k + 1) = (c / 2 ^ k) / 2 := by rw [Nat.pow_succ, Nat.div_div_eq_div_mul]
    rw [e]
    show (if (bits8 s c k) % 2 ≠ (c / 2 ^ k) % 2 then (bits8 s c k / 2) ^^^ poly else bits8 s c k / 2) ^^^ _ = _
    generalize bits8 s c k = r
    generalize c / 2 ^ k = d
    unfold st1
    have hm := xor_mod2 r d
    have hd := xor_div2 r d
    by_cases h : r % 2 = d % 2
    · rw [if_neg (by omega), if_neg (by omega), hd]
    · rw [if_pos h, if_pos (by omega), hd, Nat.xor_assoc, Nat.xor_assoc, Nat.xor_comm poly]
theorem bits8_step (s c : Nat) (hc : c < 256) : bits8 s c 8 = step s c := by
  have h := bits8_st s c 8
  rw [show c / 2 ^ 8 = 0 by omega, Nat.xor_zero] at h
  rw [h]
  unfold step
  rw [st4_eq, st4_eq (s ^^^ c)]
  rfl
end Go.Proofs.YtfphopleniidfaaGreatDoor.Crc
namespace Go.Proofs.YtfphopleniidfaaGreatDoor.Pk
set_option maxRecDepth 20000
open Go.RowKit
/-- The table lies in memory. -/
def Tab (w : World) : Prop := ∀ j, j < 16 → w.cell? ⟨0, j, none⟩ = some (.int .u32 (Crc.tab j : Nat))
theorem Tab.up {w w' : World} (h : Tab w) (u : Up w w') : Tab w' := fun j hj => u.keep (h j hj)
theorem u32_shr4 (s : Nat) : (s : Int) / 16 = ((s / 16 : Nat) : Int) := by omega
theorem xor_max32 (b : Nat) (hb : b < 4294967296) : bits .xor .u32 IntKind.u32.max (b : Int) = ((4294967295 - b : Nat) : Int) := by
  have := u32_xor_nat 4294967295 b (by omega) hb
  rw [show IntKind.u32.max = ((4294967295 : Nat) : Int) by decide +kernel, this]
  congr 1
  have e : (BitVec.allOnes 32 ^^^ BitVec.ofNat 32 b).toNat = 4294967295 - b := by
    rw [BitVec.allOnes_xor, BitVec.toNat_not, BitVec.toNat_ofNat, Nat.mod_eq_of_lt (by omega)]
  rw [← e, BitVec.toNat_xor, BitVec.toNat_allOnes, BitVec.toNat_ofNat, Nat.mod_eq_of_lt (by omega)]
set_option maxHeartbeats 400000 in
set_option maxRecDepth 20000 in
theorem sum_some (b off n cap : Nat) (x : Nat → Nat) (hm : n ≤ maxLen) (w : World) (ht : Tab w) (hc : ∀ i, i < n → x i < 256 ∧ w.cell? ⟨b, off + i, none⟩ = some (.int .u8 (x i : Int))) :
    Calls Tryz.prog 77 #[.slice (some ⟨b, off, none⟩) n cap] w fun e w' => e = .returned (.int .u32 (Crc.sum x n : Nat)) ∧ w' = w := by
  unfold maxLen at hm
  have HC := hid hc
  have HT := hid ht
  have HL := hid (Crc.run_lt x n (fun i hi => (hc i hi).1))
  clear hc ht
  go_enter Tryz.func77, Tryz.ntmps77
  go_wp2
  go_loop [3, 8] (fun s i => ∃ k : Nat, k ≤ n ∧ i = .int .i64 (k : Nat) ∧ s = .int .u32 (Crc.run x k : Nat)) (fun _ i => n - (intOf i).toNat)
  case atStart => exact ⟨0, by omega, rfl, rfl⟩
  case round =>
    obtain ⟨k, hk, rfl, rfl⟩ := hrel
    by_cases hlt : k < n
    · obtain ⟨hx, hcell⟩ := HC.out k hlt
      have hl := HL.out k hk
      have e1 : bits .xor .u32 (Crc.run x k : Int) (x k : Int) = ((Crc.run x k ^^^ x k : Nat) : Int) := u32_xor_nat _ _ hl (by omega)
      have hs1 : Crc.run x k ^^^ x k < 4294967296 := Nat.xor_lt_two_pow (n := 32) hl (by omega)
      have HU : Hid (Crc.run x (k + 1) = Crc.st4 (Crc.st4 (Crc.run x k ^^^ x k))) := rfl
      generalize hS : Crc.run x k ^^^ x k = S at *
      have e2 : bits .and .u32 (S : Int) 15 = ((S % 16 : Nat) : Int) := by have := u32_and_nat S 15 hs1 (by omega); rw [nat_mask4] at this; exact this
      have t2 := HT.out (S % 16) (Nat.mod_lt _ (by omega))
      have b2 : S % 16 < 16 := Nat.mod_lt _ (by omega)
      have e3 : bits .xor .u32 ((S : Int) / 16) (Crc.tab (S % 16) : Nat) = ((Crc.st4 S : Nat) : Int) := by rw [u32_shr4]; exact u32_xor_nat _ _ (by omega) (Crc.tab_lt _)
      have hs2 := Crc.st4_lt S hs1
      generalize hS2 : Crc.st4 S = S2 at *
      have e4 : bits .and .u32 (S2 : Int) 15 = ((S2 % 16 : Nat) : Int) := by have := u32_and_nat S2 15 hs2 (by omega); rw [nat_mask4] at this; exact this
      have t4 := HT.out (S2 % 16) (Nat.mod_lt _ (by omega))
      have b4 : S2 % 16 < 16 := Nat.mod_lt _ (by omega)
      have e5 : bits .xor .u32 ((S2 : Int) / 16) (Crc.tab (S2 % 16) : Nat) = ((Crc.st4 S2 : Nat) : Int) := by rw [u32_shr4]; exact u32_xor_nat _ _ (by omega) (Crc.tab_lt _)
      clear HT HC HL
      go_wp2
      go_round
      case rel => exact ⟨k + 1, hlt, by go_num, by rw [HU.out]⟩
      case measure => simp [intOf]; omega
    · have hkn : k = n := by omega
      subst hkn
      go_wp2
      go_ret
      exact ⟨ret_i (xor_max32 _ (HL.out k hk)), rfl⟩
set_option maxHeartbeats 400000 in
set_option maxRecDepth 20000 in
theorem sum_none (a : Option Addr) (c : Nat) (w : World) :
    Calls Tryz.prog 77 #[.slice a 0 c] w fun e w' => e = .returned (.int .u32 0) ∧ w' = w := by
  go_enter Tryz.func77, Tryz.ntmps77
  go_wp2
  refine wp_loop_rounds 1 ?_
  rw [rounds_succ]
  go_wp2
  go_ret
  exact ⟨rfl, rfl⟩
set_option maxHeartbeats 400000 in
set_option maxRecDepth 20000 in
theorem sum_any (v : Value) (n : Nat) (x : Nat → Nat) (w : World) (ht : Tab w) (hv : ByRow w v n x) :
    Calls Tryz.prog 77 #[v] w fun e w' => e = .returned (.int .u32 (Crc.sum x n : Nat)) ∧ w' = w := by
  rcases hv with ⟨rfl, a, c, rfl, _⟩ | ⟨hn, hm, b, off, cap, rfl, hc, _⟩
  · rw [show Crc.sum x 0 = 0 by simp [Crc.sum, Crc.run]]; exact sum_none a c w
  · exact sum_some b off n cap x hm w ht hc
set_option maxHeartbeats 400000 in
set_option maxRecDepth 20000 in
theorem refSum_some (b off n cap : Nat) (x : Nat → Nat) (hm : n ≤ maxLen) (w : World) (hc : ∀ i, i < n → x i < 256 ∧ w.cell? ⟨b, off + i, none⟩ = some (.int .u8 (x i : Int))) :
    Calls Tryz.prog 53 #[.slice (some ⟨b, off, none⟩) n cap] w fun e w' => e = .returned (.int .u32 (Crc.sum x n : Nat)) ∧ w' = w := by
  unfold maxLen at hm
  have HC := hid hc
  have HL := hid (Crc.run_lt x n (fun i hi => (hc i hi).1))
  clear hc
  go_enter Tryz.func53, Tryz.ntmps53
  go_wp2
  go_loop [3, 4] (fun s i => ∃ k : Nat, k ≤ n ∧ i = .int .i64 (k : Nat) ∧ s = .int .u32 (Crc.run x k : Nat)) (fun _ i => n - (intOf i).toNat)
  case atStart => exact ⟨0, by omega, rfl, rfl⟩
  case round =>
    obtain ⟨k, hk, rfl, rfl⟩ := hrel
    by_cases hlt : k < n
    · obtain ⟨hx, hcell⟩ := HC.out k hlt
      have hl := HL.out k hk
      have HU : Hid (Crc.run x (k + 1) = Crc.bits8 (Crc.run x k) (x k) 8) := (Crc.bits8_step _ _ hx).symm
      have HB := hid (Crc.bits8_lt (Crc.run x k) (x k) hl)
      generalize hS : Crc.run x k = S at *
      clear HC HL hS hl
      go_wp2
      go_loop [3, 5] (fun s i => ∃ j : Nat, j ≤ 8 ∧ i = .int .i64 (j : Nat) ∧ s = .int .u32 (Crc.bits8 S (x k) j : Nat)) (fun _ i => 8 - (intOf i).toNat)
      case atStart => exact ⟨0, by omega, rfl, rfl⟩
      case round =>
        obtain ⟨j, hj, rfl, rfl⟩ := hrel
        by_cases hlt2 : j < 8
        · have hb := HB.out j
          have HV : Hid (Crc.bits8 S (x k) (j + 1) = if (Crc.bits8 S (x k) j) % 2 ≠ (x k / 2 ^ j) % 2 then (Crc.bits8 S (x k) j / 2) ^^^ Crc.poly else Crc.bits8 S (x k) j / 2) := rfl
          generalize hR : Crc.bits8 S (x k) j = R at *
          clear HB
          have hp : ((x k : Int) / 2 ^ j % 2) = ((x k / 2 ^ j % 2 : Nat) : Int) := by simp
          by_cases ht : R % 2 = x k / 2 ^ j % 2
          · have t1 : ((R : Int) % 2 != (x k : Int) / 2 ^ j % 2) = false := by rw [hp, bne_eq_false_iff_eq]; omega
            rw [if_neg (by omega)] at HV
            clear hp ht
            go_wp2
            go_round
            case rel => exact ⟨j + 1, hlt2, by go_num, by rw [HV.out]; rfl⟩
            case measure => simp [intOf]; omega
          · have t1 : ((R : Int) % 2 != (x k : Int) / 2 ^ j % 2) = true := by rw [hp, bne_iff_ne]; omega
            have e1 : bits .xor .u32 ((R : Int) / 2) 2197175160 = ((R / 2 ^^^ Crc.poly : Nat) : Int) := u32_xor_nat (R / 2) 2197175160 (by omega) (by omega)
            rw [if_pos ht] at HV
            clear hp ht
            go_wp2
            go_round
            case rel => exact ⟨j + 1, hlt2, by go_num, by rw [HV.out]⟩
            case measure => simp [intOf]; omega
        · have hj8 : j = 8 := by omega
          subst hj8
          rw [← HU.out]
          go_wp2
          go_round
          case rel => exact ⟨k + 1, hlt, by go_num, rfl⟩
          case measure => simp [intOf]; omega
    · have hkn : k = n := by omega
      subst hkn
      have hl := HL.out k hk
      go_wp2
      go_ret
      exact ⟨ret_i (by unfold Crc.sum; omega), rfl⟩
set_option maxHeartbeats 400000 in
set_option maxRecDepth 20000 in
theorem refSum_none (a : Option Addr) (c : Nat) (w : World) :
    Calls Tryz.prog 53 #[.slice a 0 c] w fun e w' => e = .returned (.int .u32 0) ∧ w' = w := by
  go_enter Tryz.func53, Tryz.ntmps53
  go_wp2
  refine wp_loop_rounds 1 ?_
  rw [rounds_succ]
  go_wp2
  go_ret
  exact ⟨rfl, rfl⟩
set_option maxHeartbeats 400000 in
set_option maxRecDepth 20000 in
theorem refSum_any (v : Value) (n : Nat) (x : Nat → Nat) (w : World) (hv : ByRow w v n x) :
    Calls Tryz.prog 53 #[v] w fun e w' => e = .returned (.int .u32 (Crc.sum x n : Nat)) ∧ w' = w := by
  rcases hv with ⟨rfl, a, c, rfl, _⟩ | ⟨hn, hm, b, off, cap, rfl, hc, _⟩
  · rw [show Crc.sum x 0 = 0 by simp [Crc.sum, Crc.run]]; exact refSum_none a c w
  · exact refSum_some b off n cap x hm w hc
end Go.Proofs.YtfphopleniidfaaGreatDoor.Pk
namespace Go.Proofs.YtfphopleniidfaaGreatDoor.Pk
set_option maxRecDepth 20000
open Go.RowKit
theorem row4 (w : World) (A B C D : Int) (x : Nat → Nat) (h0 : A = (x 0 : Int)) (h1 : B = (x 1 : Int)) (h2 : C = (x 2 : Int)) (h3 : D = (x 3 : Int)) (hl : ∀ i, i < 4 → x i < 256) :
    OwnB w.heap.size (w.alloc (.cells #[.int .u8 A, .int .u8 B, .int .u8 C, .int .u8 D] 5)) (.slice (some ⟨w.heap.size, 0, none⟩) 4 4) 4 x := by
  subst h0 h1 h2 h3
  refine ⟨?_, hl⟩
  have h := World.ownsRow_lit (base := w.heap.size) (e := 5) (size := 1) w #[.int .u8 (x 0 : Int), .int .u8 (x 1 : Int), .int .u8 (x 2 : Int), .int .u8 (x 3 : Int)] 4 (Nat.le_refl _) (by unfold maxLen; omega) rfl
  exact h
theorem row1 (w : World) (A : Int) (x : Nat → Nat) (h0 : A = (x 0 : Int)) (hl : x 0 < 256) :
    OwnB w.heap.size (w.alloc (.cells #[.int .u8 A] 5)) (.slice (some ⟨w.heap.size, 0, none⟩) 1 1) 1 x := by
  subst h0
  refine ⟨?_, fun i hi => by obtain rfl : i = 0 := by omega
                             exact hl⟩
  have h := World.ownsRow_lit (base := w.heap.size) (e := 5) (size := 1) w #[.int .u8 (x 0 : Int)] 1 (Nat.le_refl _) (by unfold maxLen; omega) rfl
  exact h
theorem wd_lt (u : Nat) : ∀ i, i < 4 → wd u i < 256 := fun i _ => Nat.mod_lt _ (by omega)
theorem or_bits (a b c d : Nat) (ha : a < 256) (hb : b < 256) (hc : c < 256) (hd : d < 256) :
    bits .or .u32 (bits .or .u32 (bits .or .u32 (a : Int) ((b : Int) * 256)) ((c : Int) * 65536)) ((d : Int) * 16777216) = ((a + b * 256 + c * 65536 + d * 16777216 : Nat) : Int) := by
  have e1 : ((b : Int) * 256) = ((b * 256 : Nat) : Int) := by simp
  have e2 : ((c : Int) * 65536) = ((c * 65536 : Nat) : Int) := by simp
  have e3 : ((d : Int) * 16777216) = ((d * 16777216 : Nat) : Int) := by simp
  rw [e1, e2, e3, u32_or_nat _ _ (by omega) (by omega), u32_or_nat _ _ (Nat.or_lt_two_pow (n := 32) (by omega) (by omega)) (by omega), u32_or_nat _ _ (Nat.or_lt_two_pow (n := 32) (Nat.or_lt_two_pow (n := 32) (by omega) (by omega)) (by omega)) (by omega), or_word a b c d ha hb hc hd]
set_option maxHeartbeats 400000 in
set_option maxRecDepth 20000 in
theorem word_any (b off n cap : Nat) (y : Nat → Nat) (h4 : 4 ≤ n) (w : World) (hc : ∀ i, i < n → y i < 256 ∧ w.cell? ⟨b, off + i, none⟩ = some (.int .u8 (y i : Int))) :
    Calls Tryz.prog 76 #[.slice (some ⟨b, off, none⟩) n cap] w fun e w' => e = .returned (.int .u32 (w32 y : Nat)) ∧ ∃ m, w' = w.drewN m := by
  obtain ⟨l0, c0⟩ := hc 0 (by omega)
  obtain ⟨l1, c1⟩ := hc 1 (by omega)
  obtain ⟨l2, c2⟩ := hc 2 (by omega)
  obtain ⟨l3, c3⟩ := hc 3 (by omega)
  rw [Nat.add_zero] at c0
  have HW := hid (or_bits (y 0) (y 1) (y 2) (y 3) l0 l1 l2 l3)
  have e0 : (0 : Int) < (n : Int) := by omega
  have e1 : (1 : Int) < (n : Int) := by omega
  have e2 : (2 : Int) < (n : Int) := by omega
  have e3 : (3 : Int) < (n : Int) := by omega
  have HR : Hid (w32 y = y 0 + y 1 * 256 + y 2 * 65536 + y 3 * 16777216) := rfl
  clear hc h4
  generalize y 0 = a at *
  generalize y 1 = b' at *
  generalize y 2 = c at *
  generalize y 3 = d at *
  go_enter Tryz.func76, Tryz.ntmps76
  go_wp2
  go_quiet (fail)
  go_wp2
  go_ret
  exact ⟨ret_i (by rw [HR.out]; exact HW.out), _, rfl⟩
set_option maxHeartbeats 400000 in
set_option maxRecDepth 20000 in
theorem unword_any (b off n cap : Nat) (y : Nat → Nat) (h4 : 4 ≤ n) (w : World) (hc : ∀ i, i < n → y i < 256 ∧ w.cell? ⟨b, off + i, none⟩ = some (.int .u8 (y i : Int))) :
    Calls Tryz.prog 51 #[.slice (some ⟨b, off, none⟩) n cap] w fun e w' => e = .returned (.int .u32 (w32 y : Nat)) ∧ ∃ m, w' = w.drewN m := by
  obtain ⟨l0, c0⟩ := hc 0 (by omega)
  obtain ⟨l1, c1⟩ := hc 1 (by omega)
  obtain ⟨l2, c2⟩ := hc 2 (by omega)
  obtain ⟨l3, c3⟩ := hc 3 (by omega)
  rw [Nat.add_zero] at c0
  have e0 : (0 : Int) < (n : Int) := by omega
  have e1 : (1 : Int) < (n : Int) := by omega
  have e2 : (2 : Int) < (n : Int) := by omega
  have e3 : (3 : Int) < (n : Int) := by omega
  have HR : Hid (w32 y = y 0 + y 1 * 256 + y 2 * 65536 + y 3 * 16777216) := rfl
  clear hc h4
  generalize y 0 = a at *
  generalize y 1 = b' at *
  generalize y 2 = c at *
  generalize y 3 = d at *
  go_enter Tryz.func51, Tryz.ntmps51
  go_wp2
  go_quiet (fail)
  go_wp2
  go_ret
  exact ⟨ret_i (by rw [HR.out]; simp), _, rfl⟩
set_option maxHeartbeats 400000 in
set_option maxRecDepth 20000 in
theorem appendWord_any (base : Nat) (v : Value) (n : Nat) (X : Nat → Nat) (u : Nat) (hu : u < 4294967296) (hn : n ≤ 1000000) (w : World) (hown : OwnB base w v n X) (hbase : base ≤ w.heap.size) :
    Calls Tryz.prog 100 #[v, .int .u32 (u : Int)] w fun e w' => ∃ v', e = .returned v' ∧ OwnB base w' v' (n + 4) (cat n X (wd u)) ∧ Grew w v w' v' := by
  have HO := hid hown
  clear hown
  have HR := hid (row4 w ((u : Int) % 256) ((u : Int) / 256 % 256) ((u : Int) / 65536 % 256) ((u : Int) / 16777216) (wd u) (by simp [wd]) (by simp [wd]) (by simp [wd]) (by simp [wd]; omega) (wd_lt u))
  go_enter Tryz.func100, Tryz.ntmps100
  go_wp2_with (at_builtin; refine wp_app rfl (.tmp 5) (.tmp 17) rfl base v _ n 4 X (wd u) rfl rfl (HO.out.alloc _) HR.out.row (by omega) (by simp; omega) ?_; intro v' w1 hown hgr hbel)
  go_ret
  exact ⟨_, rfl, hown, ((Grew.refl w v).alloc _).trans hgr⟩
set_option maxHeartbeats 400000 in
set_option maxRecDepth 20000 in
theorem refWord_any (u : Nat) (hu : u < 4294967296) (w : World) :
    Calls Tryz.prog 91 #[.int .u32 (u : Int)] w fun e w' => e = .returned (.slice (some ⟨w.heap.size, 0, none⟩) 4 4) ∧ OwnB w.heap.size w' (.slice (some ⟨w.heap.size, 0, none⟩) 4 4) 4 (wd u) ∧ Up w w' := by
  have HR := hid (row4 w ((u : Int) % 256) ((u : Int) / 256 % 256) ((u : Int) / 65536 % 256) ((u : Int) / 16777216) (wd u) (by simp [wd]) (by simp [wd]) (by simp [wd]) (by simp [wd]; omega) (wd_lt u))
  go_enter Tryz.func91, Tryz.ntmps91
  go_wp2
  go_ret
  exact ⟨rfl, HR.out, (Up.refl w).alloc _⟩
set_option maxHeartbeats 400000 in
set_option maxRecDepth 20000 in
theorem join_some (base : Nat) (v : Value) (n b off m cap : Nat) (X Y : Nat → Nat) (hnm : n + m ≤ 140737488355328) (w : World) (hown : OwnB base w v n X) (hbase : base ≤ w.heap.size) (hc : ∀ i, i < m → Y i < 256 ∧ w.cell? ⟨b, off + i, none⟩ = some (.int .u8 (Y i : Int))) (hne : some b ≠ v.ownBlock) :
    Calls Tryz.prog 52 #[v, .slice (some ⟨b, off, none⟩) m cap] w fun e w' => ∃ v', e = .returned v' ∧ OwnB base w' v' (n + m) (cat n X Y) ∧ Grew w v w' v' := by
  have HC := hid hc
  have HO := hid hown
  have HB := hid hne
  clear hc hown hne
  go_enter Tryz.func52, Tryz.ntmps52
  go_wp2
  go_loopw [0, 5] (fun a i wr => ∃ k : Nat, k ≤ m ∧ i = .int .i64 (k : Nat) ∧ OwnB base wr a (n + k) (cat n X Y) ∧ Grew w v wr a) (fun _ i _ => m - (intOf i).toNat)
  case atStart => exact ⟨0, Nat.zero_le _, rfl, HO.out.congr (fun i hi => by simp [cat, hi]), Grew.refl _ _⟩
  case round =>
    rename_i a i
    obtain ⟨k, hk, rfl, ho, hg⟩ := hrel
    by_cases hlt : k < m
    · have hcell := hg.by_.cell (HC.out k hlt).2 HB.out
      have hy := (HC.out k hlt).1
      have HOk := hid ho
      have HR := hid (row1 wr (Y k) (fun _ => Y k) rfl hy)
      have hbs := hid (Nat.le_trans hbase hg.by_.size)
      clear ho HC
      go_wp2_with (at_builtin; refine wp_app rfl (.tmp 12) (.tmp 17) rfl base _ _ (n + k) 1 (cat n X Y) (fun _ => Y k) rfl rfl (HOk.out.alloc _) HR.out.row (by omega) (by have := hbs.out; simp; omega) ?_; intro v' w1 hown hgr hbel)
      go_roundw
      case rel => exact ⟨k + 1, hlt, by go_num, (show OwnB base w1 v' (n + (k + 1)) (cat (n + k) (cat n X Y) fun _ => Y k) from hown).congr (fun i hi => by unfold cat; by_cases h1 : i < n + k <;> by_cases h2 : i < n <;> simp [h1, h2] <;> first | omega | (congr 1; omega)), hg.trans (((Grew.refl _ _).alloc _).trans hgr)⟩
      case measure => simp [intOf]; omega
    · obtain rfl : k = m := by omega
      go_wp2
      go_ret
      exact ⟨_, rfl, ho, hg⟩
set_option maxHeartbeats 400000 in
set_option maxRecDepth 20000 in
theorem join_none (base : Nat) (v : Value) (n : Nat) (a : Option Addr) (c : Nat) (X Y : Nat → Nat) (w : World) (hown : OwnB base w v n X) :
    Calls Tryz.prog 52 #[v, .slice a 0 c] w fun e w' => ∃ v', e = .returned v' ∧ OwnB base w' v' (n + 0) (cat n X Y) ∧ Grew w v w' v' := by
  have HO := hid hown
  clear hown
  go_enter Tryz.func52, Tryz.ntmps52
  go_wp2
  refine wp_loop_rounds 1 ?_
  rw [rounds_succ]
  go_wp2
  go_ret
  exact ⟨_, rfl, HO.out.congr (fun i hi => by simp [cat, hi]), Grew.refl _ _⟩
set_option maxHeartbeats 400000 in
set_option maxRecDepth 20000 in
theorem join_any (base : Nat) (v u : Value) (n m : Nat) (X Y : Nat → Nat) (hnm : n + m ≤ 140737488355328) (w : World) (hown : OwnB base w v n X) (hbase : base ≤ w.heap.size) (hu : ByRow w u m Y) (hne : m = 0 ∨ u.ownBlock ≠ v.ownBlock) :
    Calls Tryz.prog 52 #[v, u] w fun e w' => ∃ v', e = .returned v' ∧ OwnB base w' v' (n + m) (cat n X Y) ∧ Grew w v w' v' := by
  rcases hu with ⟨rfl, a, c, rfl, _⟩ | ⟨hm, _, b, off, cap, rfl, hc, _⟩
  · exact join_none base v n a c X Y w hown
  · refine join_some base v n b off m cap X Y hnm w hown hbase hc ?_
    rcases hne with h | h
    · omega
    · exact h
end Go.Proofs.YtfphopleniidfaaGreatDoor.Pk
namespace Go.Proofs.YtfphopleniidfaaGreatDoor.Pk
set_option maxRecDepth 20000
open Go.RowKit
/-- A frame's bytes. -/
def frm (n S : Nat) (x : Nat → Nat) : Nat → Nat := fun i => if i < 4 then wd n i else if i < 8 then wd S (i - 4) else x (i - 8)
theorem frm_cat (n S : Nat) (x z : Nat → Nat) (i : Nat) : cat 8 (cat 4 (cat 0 z (wd n)) (wd S)) x i = frm n S x i := by
  unfold cat frm
  by_cases h4 : i < 4
  · simp [h4, show i < 8 by omega]
  · by_cases h8 : i < 8 <;> simp [h4, h8]
theorem frm_cat2 (n S : Nat) (x : Nat → Nat) (i : Nat) : cat 8 (cat 4 (wd n) (wd S)) x i = frm n S x i := by
  unfold cat frm
  by_cases h4 : i < 4
  · simp [h4, show i < 8 by omega]
  · by_cases h8 : i < 8 <;> simp [h4, h8]
theorem ne_own {w w' : World} {u v : Value} {m n : Nat} {Y X : Nat → Nat} (hu : ByRow w u m Y) (hv : OwnB w.heap.size w' v n X) : m = 0 ∨ u.ownBlock ≠ v.ownBlock := by
  rcases hu with ⟨rfl, _⟩ | ⟨_, _, b, off, cap, rfl, hc, _⟩
  · exact .inl rfl
  · right
    intro e
    have h1 := (hv.own.lt b e.symm).1
    have h2 := World.block_lt_of_cell? w _ (hc 0 (by omega)).2
    simp at h2; omega
theorem Up.size' {w w' : World} (h : Up w w') : w.heap.size ≤ w'.heap.size := Below.size h
theorem sum_lt (x : Nat → Nat) (n : Nat) : Crc.sum x n < 4294967296 := by unfold Crc.sum; omega
set_option maxHeartbeats 400000 in
set_option maxRecDepth 20000 in
theorem frame_ok (v : Value) (n : Nat) (x : Nat → Nat) (w : World) (ht : Tab w) (hv : ByRow w v n x) (hn : n ≤ 4096) :
    Calls Tryz.prog 89 #[v] w fun e w' => ∃ v', e = .returned (.tuple #[v', .int .i64 0]) ∧ OwnB w.heap.size w' v' (8 + n) (frm n (Crc.sum x n) x) ∧ Up w w' := by
  obtain ⟨i0, hi, hz0, hz1, hz2⟩ := info_parts infoByte
  have hval : ∃ a c, v = .slice a n c := by
    rcases hv with ⟨rfl, a, c, rfl, _⟩ | ⟨_, _, b, off, cap, rfl, _⟩
    · exact ⟨a, c, rfl⟩
    · exact ⟨_, _, rfl⟩
  obtain ⟨a, c, rfl⟩ := hval
  have HV := hid hv
  have HT := hid ht
  have hS := sum_lt x n
  have cS := hid (fun (W : World) (hW : Up w W) => sum_any _ n x W (ht.up hW) (hv.up hW))
  clear hv ht
  generalize Crc.sum x n = S at *
  go_enter Tryz.func89, Tryz.ntmps89
  go_wp2_with (first | (refine wpList_make_own w rfl (.const (.int .i64 0)) (.tmp 10) 49 rfl w.heap.size 5 i0 (.int .u8 0) 1 Tryz.underlying49 hi hz0 hz1 .i64 .i64 _ (8 + n) rfl rfl (by omega) (by rw [hz2]; omega) (by unfold maxLen; omega) (Nat.le_refl _) ?_; intro w1 ho1 hg1; have u1 : Up w w1 := Below.grown (Below.refl _ _) hg1 (Nat.le_refl _) (fun k hk => by cases hk); have o1 : OwnB w.heap.size w1 _ 0 (fun _ => 0) := ⟨ho1, fun _ h => by omega⟩; clear ho1 hg1))
  refine (appendWord_any w.heap.size _ 0 (fun _ => 0) n (by omega) (by omega) w1 o1 u1.size').mono ?_
  rintro e w2 ⟨v2, rfl, o2, g2⟩
  have u2 : Up w w2 := Below.trans u1 (g2.below o1 u1.size')
  clear o1 u1 g2
  have H2 := hid o2
  clear o2
  go_wp2_with (go_at_call 77; refine (cS.out _ ‹Up w w2›).mono ?_; rintro e w' ⟨rfl, hw⟩; have hw2 := hw.symm; subst hw2)
  refine (appendWord_any w.heap.size _ (0 + 4) _ S hS (by omega) w2 H2.out u2.size').mono ?_
  rintro e w3 ⟨v3, rfl, o3, g3⟩
  have u3 : Up w w3 := Below.trans u2 (g3.below H2.out u2.size')
  have H3 := hid o3
  clear o3 g3 H2 u2 cS
  go_wp2_with (at_builtin; refine wp_app rfl (.tmp 21) (.tmp 22) rfl w.heap.size v3 _ (0 + 4 + 4) n _ x rfl rfl H3.out (HV.out.up ‹Up w w3›) (by omega) (Up.size' ‹Up w w3›) ?_; intro v4 w4 o4 g4 b4)
  go_ret2
  exact ⟨_, rfl, by simp only [Nat.zero_add] at o4; exact o4.congr (fun i _ => frm_cat n S x _ i), Below.trans u3 b4⟩
set_option maxHeartbeats 400000 in
set_option maxRecDepth 20000 in
theorem frame_long (v : Value) (n : Nat) (x : Nat → Nat) (w : World) (hv : ByRow w v n x) (hn : 4096 < n) :
    Calls Tryz.prog 89 #[v] w fun e w' => e = .returned (.tuple #[.slice none 0 0, .int .i64 2]) ∧ w' = w := by
  have hm := hv.max
  obtain ⟨b, off, c, rfl, _⟩ := hv.cells (by omega)
  clear hv
  unfold maxLen at hm
  go_enter Tryz.func89, Tryz.ntmps89
  go_wp2
  go_ret2
  exact ⟨rfl, rfl⟩
set_option maxHeartbeats 400000 in
set_option maxRecDepth 20000 in
theorem refFrame_ok (v : Value) (n : Nat) (x : Nat → Nat) (w : World) (hv : ByRow w v n x) (hn : n ≤ 4096) :
    Calls Tryz.prog 64 #[v] w fun e w' => ∃ v', e = .returned (.tuple #[v', .int .i64 0]) ∧ OwnB w.heap.size w' v' (8 + n) (frm n (Crc.sum x n) x) ∧ Up w w' := by
  have hval : ∃ a c, v = .slice a n c := by
    rcases hv with ⟨rfl, a, c, rfl, _⟩ | ⟨_, _, b, off, cap, rfl, _⟩
    · exact ⟨a, c, rfl⟩
    · exact ⟨_, _, rfl⟩
  obtain ⟨a, c, rfl⟩ := hval
  have HV := hid hv
  have hS := sum_lt x n
  have cS := hid (fun (W : World) (hW : Up w W) => refSum_any _ n x W (hv.up hW))
  clear hv
  generalize Crc.sum x n = S at *
  go_enter Tryz.func64, Tryz.ntmps64
  go_wp2_with (fail)
  refine (refWord_any n (by omega) w).mono ?_
  rintro e w1 ⟨rfl, o1, u1⟩
  have H1 := hid o1
  clear o1
  go_wp2_with (go_at_call 53; refine (cS.out _ ‹Up w w1›).mono ?_; rintro e w' ⟨rfl, hw⟩; have hw2 := hw.symm; subst hw2)
  refine (refWord_any S hS w1).mono ?_
  rintro e w2 ⟨rfl, o2, u2⟩
  have H2 := hid o2
  clear o2
  go_wp2_with (fail)
  have hl1 := (H1.out.own.lt w.heap.size rfl).2
  refine (join_any w.heap.size _ _ 4 4 (wd n) (wd S) (by omega) w2 (H1.out.up u2) (Nat.le_trans u1.size' u2.size') H2.out.row (.inr (by intro h; simp [Value.ownBlock] at h; omega))).mono ?_
  rintro e w3 ⟨v3, rfl, o3, g3⟩
  have u3 : Up w w3 := Below.trans (Up.trans u1 u2) (g3.below (H1.out.up u2) (Nat.le_trans u1.size' u2.size'))
  have H3 := hid o3
  clear o3 g3 H2 H1 u2 u1 cS hl1
  go_wp2_with (fail)
  refine (join_any w.heap.size _ _ (4 + 4) n _ x (by omega) w3 H3.out u3.size' (HV.out.up u3) (ne_own HV.out H3.out)).mono ?_
  rintro e w4 ⟨v4, rfl, o4, g4⟩
  have u4 : Up w w4 := Below.trans u3 (g4.below H3.out u3.size')
  go_wp2
  go_ret2
  exact ⟨_, rfl, o4.congr (fun i _ => frm_cat2 n S x i), u4⟩
set_option maxHeartbeats 400000 in
set_option maxRecDepth 20000 in
theorem refFrame_long (v : Value) (n : Nat) (x : Nat → Nat) (w : World) (hv : ByRow w v n x) (hn : 4096 < n) :
    Calls Tryz.prog 64 #[v] w fun e w' => e = .returned (.tuple #[.slice none 0 0, .int .i64 2]) ∧ w' = w := by
  have hm := hv.max
  obtain ⟨b, off, c, rfl, _⟩ := hv.cells (by omega)
  clear hv
  unfold maxLen at hm
  go_enter Tryz.func64, Tryz.ntmps64
  go_wp2
  go_ret2
  exact ⟨rfl, rfl⟩
end Go.Proofs.YtfphopleniidfaaGreatDoor.Pk
namespace Go.Proofs.YtfphopleniidfaaGreatDoor.Pk
set_option maxRecDepth 20000
open Go.RowKit
/-- A row from its k-th byte on. -/
theorem slice_row0 (w : World) (a : Addr) (c : Nat) (y : Nat → Nat) : ByRow w (.slice (some a) 0 c) 0 y := .inl ⟨rfl, _, _, rfl, fun h => by cases h⟩
theorem ByRow.drewN {w : World} {v : Value} {n : Nat} {x : Nat → Nat} (h : ByRow w v n x) (m : Nat) : ByRow (w.drewN m) v n x := h.up ((Up.refl w).drewN m)
theorem Tab.drewN {w : World} (h : Tab w) (m : Nat) : Tab (w.drewN m) := h.up ((Up.refl w).drewN m)

set_option maxHeartbeats 1000000 in
set_option maxRecDepth 20000 in
theorem unframe_ok8 (b off : Nat) (x : Nat → Nat) (w : World) (ht : Tab w) (hc : ∀ i, i < 8 → x i < 256 ∧ w.cell? ⟨b, off + i, none⟩ = some (.int .u8 (x i : Int))) (hL : w32 x = 0) (hs : Crc.sum (sh 8 x) 0 = w32 (sh 4 x)) :
    Calls Tryz.prog 42 #[.slice (some ⟨b, off, none⟩) 8 8] w fun e w' => ∃ v', e = .returned (.tuple #[v', .int .i64 (8 + 0 : Nat), .int .i64 0]) ∧ OwnB w.heap.size w' v' 0 (sh 8 x) ∧ Up w w' := by
  have HW := hid (fun W (hW : Up w W) => word_any b off 8 8 x (by omega) W (fun i hi => ⟨(hc i hi).1, hW.keep (hc i hi).2⟩))
  have HW2 := hid (fun W (hW : Up w W) => word_any b (off + 4) 4 4 (sh 4 x) (by omega) W (fun i hi => by have := hc (4 + i) (by omega); rw [show off + 4 + i = off + (4 + i) by omega]; exact ⟨this.1, hW.keep this.2⟩))
  rw [hL] at HW
  have HT := hid ht
  have tS : (((Crc.sum (sh 8 x) 0 : Nat) : Int) != ((w32 (sh 4 x) : Nat) : Int)) = false := by rw [hs]; simp
  have HC := hid hc
  clear hc hs hL ht
  go_enter Tryz.func42, Tryz.ntmps42
  go_wp2_with ((go_at_call 76; refine (HW.out _ (Up.refl _)).mono ?_; rintro e w' ⟨rfl, m, rfl⟩))
  refine (clone_any _ 0 (sh 8 x) (w.drewN m) (slice_row0 _ _ _ _) (by omega)).mono ?_
  rintro e w2 ⟨v2, rfl, o2, u2'⟩
  have u2 : Up w w2 := Up.trans ((Up.refl w).drewN m) u2'
  clear u2'
  have H2 := hid o2.row
  have HO := hid o2
  clear o2
  go_wp2
  go_quiet (first | (go_at_call 77; refine Calls.quiet_of_same (sum_any _ 0 (sh 8 x) _ (HT.out.up ((Up.drewN u2 _))) (H2.out.drewN _))) | (go_at_call 76; refine Calls.quiet_of (HW2.out _ ((Up.drewN u2 _)))))
  go_wp2
  refine bodyPost_ret (results_tmp3 rfl _ _ _) rfl ?_
  exact ⟨_, rfl, HO.out.up ((Up.refl w2).drewN _), Up.drewN u2 _⟩

set_option maxHeartbeats 1000000 in
set_option maxRecDepth 20000 in
theorem unframe_ok (b off n cap L : Nat) (x : Nat → Nat) (w : World) (ht : Tab w) (hc : ∀ i, i < n → x i < 256 ∧ w.cell? ⟨b, off + i, none⟩ = some (.int .u8 (x i : Int))) (hcp : n ≤ cap) (hm : cap ≤ maxLen) (h8 : 8 ≤ n) (hL : w32 x = L) (hL2 : L ≤ 4096) (hn : 8 + L ≤ n) (hs : Crc.sum (sh 8 x) L = w32 (sh 4 x)) (h9 : ¬ cap = 8) :
    Calls Tryz.prog 42 #[.slice (some ⟨b, off, none⟩) n cap] w fun e w' => ∃ v', e = .returned (.tuple #[v', .int .i64 (8 + L : Nat), .int .i64 0]) ∧ OwnB w.heap.size w' v' L (sh 8 x) ∧ Up w w' := by
  have HW := hid (fun W (hW : Up w W) => word_any b off n cap x (by omega) W (fun i hi => ⟨(hc i hi).1, hW.keep (hc i hi).2⟩))
  have HW2 := hid (fun W (hW : Up w W) => word_any b (off + 4) (n - 4) (cap - 4) (sh 4 x) (by omega) W (fun i hi => by have := hc (4 + i) (by omega); rw [show off + 4 + i = off + (4 + i) by omega]; exact ⟨this.1, hW.keep this.2⟩))
  rw [hL] at HW
  have HT := hid ht
  have tS : (((Crc.sum (sh 8 x) L : Nat) : Int) != ((w32 (sh 4 x) : Nat) : Int)) = false := by rw [hs]; simp
  have HC := hid hc
  have HM := hid hm
  unfold maxLen at hm
  clear hc hs hL ht
  go_enter Tryz.func42, Tryz.ntmps42
  go_wp2_with ((go_at_call 76; refine (HW.out _ (Up.refl _)).mono ?_; rintro e w' ⟨rfl, m, rfl⟩))
  refine (clone_any _ L (sh 8 x) (w.drewN m) (by rcases Nat.eq_zero_or_pos L with h0 | h0; subst h0; exact slice_row0 _ _ _ _; exact (slice_row HC.out HM.out 8 L _ h0 hn (by omega) (by omega)).drewN m) (by omega)).mono ?_
  rintro e w2 ⟨v2, rfl, o2, u2'⟩
  have u2 : Up w w2 := Up.trans ((Up.refl w).drewN m) u2'
  clear u2'
  have H2 := hid o2.row
  have HO := hid o2
  clear o2
  go_wp2
  go_quiet (first | (go_at_call 77; refine Calls.quiet_of_same (sum_any _ L (sh 8 x) _ (HT.out.up ((Up.drewN u2 _))) (H2.out.drewN _))) | (go_at_call 76; refine Calls.quiet_of (HW2.out _ ((Up.drewN u2 _)))))
  go_wp2
  refine bodyPost_ret (results_tmp3 rfl _ _ _) rfl ?_
  exact ⟨_, rfl, HO.out.up ((Up.refl w2).drewN _), Up.drewN u2 _⟩

set_option maxHeartbeats 1000000 in
set_option maxRecDepth 20000 in
theorem unframe_sum8 (b off : Nat) (x : Nat → Nat) (w : World) (ht : Tab w) (hc : ∀ i, i < 8 → x i < 256 ∧ w.cell? ⟨b, off + i, none⟩ = some (.int .u8 (x i : Int))) (hL : w32 x = 0) (hs : Crc.sum (sh 8 x) 0 ≠ w32 (sh 4 x)) :
    Calls Tryz.prog 42 #[.slice (some ⟨b, off, none⟩) 8 8] w fun e w' => e = .returned (.tuple #[.slice none 0 0, .int .i64 0, .int .i64 32]) ∧ Up w w' := by
  have HW := hid (fun W (hW : Up w W) => word_any b off 8 8 x (by omega) W (fun i hi => ⟨(hc i hi).1, hW.keep (hc i hi).2⟩))
  have HW2 := hid (fun W (hW : Up w W) => word_any b (off + 4) 4 4 (sh 4 x) (by omega) W (fun i hi => by have := hc (4 + i) (by omega); rw [show off + 4 + i = off + (4 + i) by omega]; exact ⟨this.1, hW.keep this.2⟩))
  rw [hL] at HW
  have HT := hid ht
  have tS : (((Crc.sum (sh 8 x) 0 : Nat) : Int) != ((w32 (sh 4 x) : Nat) : Int)) = true := by rw [bne_iff_ne]; intro h; exact hs (by omega)
  have HC := hid hc
  clear hc hs hL ht
  go_enter Tryz.func42, Tryz.ntmps42
  go_wp2_with ((go_at_call 76; refine (HW.out _ (Up.refl _)).mono ?_; rintro e w' ⟨rfl, m, rfl⟩))
  refine (clone_any _ 0 (sh 8 x) (w.drewN m) (slice_row0 _ _ _ _) (by omega)).mono ?_
  rintro e w2 ⟨v2, rfl, o2, u2'⟩
  have u2 : Up w w2 := Up.trans ((Up.refl w).drewN m) u2'
  clear u2'
  have H2 := hid o2.row
  have HO := hid o2
  clear o2
  go_wp2
  go_quiet (first | (go_at_call 77; refine Calls.quiet_of_same (sum_any _ 0 (sh 8 x) _ (HT.out.up ((Up.drewN u2 _))) (H2.out.drewN _))) | (go_at_call 76; refine Calls.quiet_of (HW2.out _ ((Up.drewN u2 _)))))
  go_wp2
  refine bodyPost_ret (results_tmp3 rfl _ _ _) rfl ?_
  exact ⟨rfl, Up.drewN u2 _⟩

set_option maxHeartbeats 1000000 in
set_option maxRecDepth 20000 in
theorem unframe_sum (b off n cap L : Nat) (x : Nat → Nat) (w : World) (ht : Tab w) (hc : ∀ i, i < n → x i < 256 ∧ w.cell? ⟨b, off + i, none⟩ = some (.int .u8 (x i : Int))) (hcp : n ≤ cap) (hm : cap ≤ maxLen) (h8 : 8 ≤ n) (hL : w32 x = L) (hL2 : L ≤ 4096) (hn : 8 + L ≤ n) (hs : Crc.sum (sh 8 x) L ≠ w32 (sh 4 x)) (h9 : ¬ cap = 8) :
    Calls Tryz.prog 42 #[.slice (some ⟨b, off, none⟩) n cap] w fun e w' => e = .returned (.tuple #[.slice none 0 0, .int .i64 0, .int .i64 32]) ∧ Up w w' := by
  have HW := hid (fun W (hW : Up w W) => word_any b off n cap x (by omega) W (fun i hi => ⟨(hc i hi).1, hW.keep (hc i hi).2⟩))
  have HW2 := hid (fun W (hW : Up w W) => word_any b (off + 4) (n - 4) (cap - 4) (sh 4 x) (by omega) W (fun i hi => by have := hc (4 + i) (by omega); rw [show off + 4 + i = off + (4 + i) by omega]; exact ⟨this.1, hW.keep this.2⟩))
  rw [hL] at HW
  have HT := hid ht
  have tS : (((Crc.sum (sh 8 x) L : Nat) : Int) != ((w32 (sh 4 x) : Nat) : Int)) = true := by rw [bne_iff_ne]; intro h; exact hs (by omega)
  have HC := hid hc
  have HM := hid hm
  unfold maxLen at hm
  clear hc hs hL ht
  go_enter Tryz.func42, Tryz.ntmps42
  go_wp2_with ((go_at_call 76; refine (HW.out _ (Up.refl _)).mono ?_; rintro e w' ⟨rfl, m, rfl⟩))
  refine (clone_any _ L (sh 8 x) (w.drewN m) (by rcases Nat.eq_zero_or_pos L with h0 | h0; subst h0; exact slice_row0 _ _ _ _; exact (slice_row HC.out HM.out 8 L _ h0 hn (by omega) (by omega)).drewN m) (by omega)).mono ?_
  rintro e w2 ⟨v2, rfl, o2, u2'⟩
  have u2 : Up w w2 := Up.trans ((Up.refl w).drewN m) u2'
  clear u2'
  have H2 := hid o2.row
  have HO := hid o2
  clear o2
  go_wp2
  go_quiet (first | (go_at_call 77; refine Calls.quiet_of_same (sum_any _ L (sh 8 x) _ (HT.out.up ((Up.drewN u2 _))) (H2.out.drewN _))) | (go_at_call 76; refine Calls.quiet_of (HW2.out _ ((Up.drewN u2 _)))))
  go_wp2
  refine bodyPost_ret (results_tmp3 rfl _ _ _) rfl ?_
  exact ⟨rfl, Up.drewN u2 _⟩

set_option maxHeartbeats 1000000 in
set_option maxRecDepth 20000 in
theorem refUnframe_ok8 (b off : Nat) (x : Nat → Nat) (w : World) (hc : ∀ i, i < 8 → x i < 256 ∧ w.cell? ⟨b, off + i, none⟩ = some (.int .u8 (x i : Int))) (hL : w32 x = 0) (hs : Crc.sum (sh 8 x) 0 = w32 (sh 4 x)) :
    Calls Tryz.prog 24 #[.slice (some ⟨b, off, none⟩) 8 8] w fun e w' => ∃ v', e = .returned (.tuple #[v', .int .i64 (8 + 0 : Nat), .int .i64 0]) ∧ OwnB w.heap.size w' v' 0 (sh 8 x) ∧ Up w w' := by
  have HW := hid (fun W (hW : Up w W) => unword_any b off 4 8 x (by omega) W (fun i hi => ⟨(hc i (by omega)).1, hW.keep (hc i (by omega)).2⟩))
  have HW2 := hid (fun W (hW : Up w W) => unword_any b (off + 4) 4 4 (sh 4 x) (by omega) W (fun i hi => by have := hc (4 + i) (by omega); rw [show off + 4 + i = off + (4 + i) by omega]; exact ⟨this.1, hW.keep this.2⟩))
  rw [hL] at HW
  have tS : (((Crc.sum (sh 8 x) 0 : Nat) : Int) != ((w32 (sh 4 x) : Nat) : Int)) = false := by rw [hs]; simp
  have HC := hid hc
  clear hc hs hL 
  go_enter Tryz.func24, Tryz.ntmps24
  go_wp2_with ((go_at_call 51; refine (HW.out _ (Up.refl _)).mono ?_; rintro e w' ⟨rfl, m, rfl⟩))
  refine (join_any (w.drewN m).heap.size _ _ 0 0 (fun _ => 0) (sh 8 x) (by omega) (w.drewN m) (OwnB.nil _ _ _) (Nat.le_refl _) (slice_row0 _ _ _ _) (by first | exact .inl rfl | exact .inr (by simp [Value.ownBlock]))).mono ?_
  rintro e w2 ⟨v2, rfl, o2', g2⟩
  have o2 : OwnB w.heap.size w2 v2 0 (sh 8 x) := by rw [Nat.zero_add] at o2'; exact o2'.congr (fun i _ => by simp [cat])
  have u2 : Up w w2 := Below.trans ((Up.refl w).drewN m) (g2.below (x := fun _ => 0) (OwnB.nil _ _ _) (Nat.le_refl _))
  clear g2 o2'
  have H2 := hid o2.row
  have HO := hid o2
  clear o2
  go_wp2
  go_quiet (first | (go_at_call 53; refine Calls.quiet_of_same (refSum_any _ 0 (sh 8 x) _ (H2.out.drewN _))) | (go_at_call 51; refine Calls.quiet_of (HW2.out _ ((Up.drewN u2 _)))))
  go_wp2
  refine bodyPost_ret (results_tmp3 rfl _ _ _) rfl ?_
  exact ⟨_, rfl, HO.out.up ((Up.refl w2).drewN _), Up.drewN u2 _⟩

set_option maxHeartbeats 1000000 in
set_option maxRecDepth 20000 in
theorem refUnframe_ok (b off n cap L : Nat) (x : Nat → Nat) (w : World) (hc : ∀ i, i < n → x i < 256 ∧ w.cell? ⟨b, off + i, none⟩ = some (.int .u8 (x i : Int))) (hcp : n ≤ cap) (hm : cap ≤ maxLen) (h8 : 8 ≤ n) (hL : w32 x = L) (hL2 : L ≤ 4096) (hn : 8 + L ≤ n) (hs : Crc.sum (sh 8 x) L = w32 (sh 4 x)) (h9 : ¬ cap = 8) :
    Calls Tryz.prog 24 #[.slice (some ⟨b, off, none⟩) n cap] w fun e w' => ∃ v', e = .returned (.tuple #[v', .int .i64 (8 + L : Nat), .int .i64 0]) ∧ OwnB w.heap.size w' v' L (sh 8 x) ∧ Up w w' := by
  have HW := hid (fun W (hW : Up w W) => unword_any b off 4 cap x (by omega) W (fun i hi => ⟨(hc i (by omega)).1, hW.keep (hc i (by omega)).2⟩))
  have HW2 := hid (fun W (hW : Up w W) => unword_any b (off + 4) 4 (cap - 4) (sh 4 x) (by omega) W (fun i hi => by have := hc (4 + i) (by omega); rw [show off + 4 + i = off + (4 + i) by omega]; exact ⟨this.1, hW.keep this.2⟩))
  rw [hL] at HW
  have tS : (((Crc.sum (sh 8 x) L : Nat) : Int) != ((w32 (sh 4 x) : Nat) : Int)) = false := by rw [hs]; simp
  have HC := hid hc
  have HM := hid hm
  unfold maxLen at hm
  clear hc hs hL 
  go_enter Tryz.func24, Tryz.ntmps24
  go_wp2_with ((go_at_call 51; refine (HW.out _ (Up.refl _)).mono ?_; rintro e w' ⟨rfl, m, rfl⟩))
  refine (join_any (w.drewN m).heap.size _ _ 0 L (fun _ => 0) (sh 8 x) (by omega) (w.drewN m) (OwnB.nil _ _ _) (Nat.le_refl _) (by rcases Nat.eq_zero_or_pos L with h0 | h0; subst h0; exact slice_row0 _ _ _ _; exact (slice_row HC.out HM.out 8 L _ h0 hn (by omega) (by omega)).drewN m) (by first | exact .inl rfl | exact .inr (by simp [Value.ownBlock]))).mono ?_
  rintro e w2 ⟨v2, rfl, o2', g2⟩
  have o2 : OwnB w.heap.size w2 v2 L (sh 8 x) := by rw [Nat.zero_add] at o2'; exact o2'.congr (fun i _ => by simp [cat])
  have u2 : Up w w2 := Below.trans ((Up.refl w).drewN m) (g2.below (x := fun _ => 0) (OwnB.nil _ _ _) (Nat.le_refl _))
  clear g2 o2'
  have H2 := hid o2.row
  have HO := hid o2
  clear o2
  go_wp2
  go_quiet (first | (go_at_call 53; refine Calls.quiet_of_same (refSum_any _ L (sh 8 x) _ (H2.out.drewN _))) | (go_at_call 51; refine Calls.quiet_of (HW2.out _ ((Up.drewN u2 _)))))
  go_wp2
  refine bodyPost_ret (results_tmp3 rfl _ _ _) rfl ?_
  exact ⟨_, rfl, HO.out.up ((Up.refl w2).drewN _), Up.drewN u2 _⟩

set_option maxHeartbeats 1000000 in
set_option maxRecDepth 20000 in
theorem refUnframe_sum8 (b off : Nat) (x : Nat → Nat) (w : World) (hc : ∀ i, i < 8 → x i < 256 ∧ w.cell? ⟨b, off + i, none⟩ = some (.int .u8 (x i : Int))) (hL : w32 x = 0) (hs : Crc.sum (sh 8 x) 0 ≠ w32 (sh 4 x)) :
    Calls Tryz.prog 24 #[.slice (some ⟨b, off, none⟩) 8 8] w fun e w' => e = .returned (.tuple #[.slice none 0 0, .int .i64 0, .int .i64 32]) ∧ Up w w' := by
  have HW := hid (fun W (hW : Up w W) => unword_any b off 4 8 x (by omega) W (fun i hi => ⟨(hc i (by omega)).1, hW.keep (hc i (by omega)).2⟩))
  have HW2 := hid (fun W (hW : Up w W) => unword_any b (off + 4) 4 4 (sh 4 x) (by omega) W (fun i hi => by have := hc (4 + i) (by omega); rw [show off + 4 + i = off + (4 + i) by omega]; exact ⟨this.1, hW.keep this.2⟩))
  rw [hL] at HW
  have tS : (((Crc.sum (sh 8 x) 0 : Nat) : Int) != ((w32 (sh 4 x) : Nat) : Int)) = true := by rw [bne_iff_ne]; intro h; exact hs (by omega)
  have HC := hid hc
  clear hc hs hL 
  go_enter Tryz.func24, Tryz.ntmps24
  go_wp2_with ((go_at_call 51; refine (HW.out _ (Up.refl _)).mono ?_; rintro e w' ⟨rfl, m, rfl⟩))
  refine (join_any (w.drewN m).heap.size _ _ 0 0 (fun _ => 0) (sh 8 x) (by omega) (w.drewN m) (OwnB.nil _ _ _) (Nat.le_refl _) (slice_row0 _ _ _ _) (by first | exact .inl rfl | exact .inr (by simp [Value.ownBlock]))).mono ?_
  rintro e w2 ⟨v2, rfl, o2', g2⟩
  have o2 : OwnB w.heap.size w2 v2 0 (sh 8 x) := by rw [Nat.zero_add] at o2'; exact o2'.congr (fun i _ => by simp [cat])
  have u2 : Up w w2 := Below.trans ((Up.refl w).drewN m) (g2.below (x := fun _ => 0) (OwnB.nil _ _ _) (Nat.le_refl _))
  clear g2 o2'
  have H2 := hid o2.row
  have HO := hid o2
  clear o2
  go_wp2
  go_quiet (first | (go_at_call 53; refine Calls.quiet_of_same (refSum_any _ 0 (sh 8 x) _ (H2.out.drewN _))) | (go_at_call 51; refine Calls.quiet_of (HW2.out _ ((Up.drewN u2 _)))))
  go_wp2
  refine bodyPost_ret (results_tmp3 rfl _ _ _) rfl ?_
  exact ⟨rfl, Up.drewN u2 _⟩

set_option maxHeartbeats 1000000 in
set_option maxRecDepth 20000 in
theorem refUnframe_sum (b off n cap L : Nat) (x : Nat → Nat) (w : World) (hc : ∀ i, i < n → x i < 256 ∧ w.cell? ⟨b, off + i, none⟩ = some (.int .u8 (x i : Int))) (hcp : n ≤ cap) (hm : cap ≤ maxLen) (h8 : 8 ≤ n) (hL : w32 x = L) (hL2 : L ≤ 4096) (hn : 8 + L ≤ n) (hs : Crc.sum (sh 8 x) L ≠ w32 (sh 4 x)) (h9 : ¬ cap = 8) :
    Calls Tryz.prog 24 #[.slice (some ⟨b, off, none⟩) n cap] w fun e w' => e = .returned (.tuple #[.slice none 0 0, .int .i64 0, .int .i64 32]) ∧ Up w w' := by
  have HW := hid (fun W (hW : Up w W) => unword_any b off 4 cap x (by omega) W (fun i hi => ⟨(hc i (by omega)).1, hW.keep (hc i (by omega)).2⟩))
  have HW2 := hid (fun W (hW : Up w W) => unword_any b (off + 4) 4 (cap - 4) (sh 4 x) (by omega) W (fun i hi => by have := hc (4 + i) (by omega); rw [show off + 4 + i = off + (4 + i) by omega]; exact ⟨this.1, hW.keep this.2⟩))
  rw [hL] at HW
  have tS : (((Crc.sum (sh 8 x) L : Nat) : Int) != ((w32 (sh 4 x) : Nat) : Int)) = true := by rw [bne_iff_ne]; intro h; exact hs (by omega)
  have HC := hid hc
  have HM := hid hm
  unfold maxLen at hm
  clear hc hs hL 
  go_enter Tryz.func24, Tryz.ntmps24
  go_wp2_with ((go_at_call 51; refine (HW.out _ (Up.refl _)).mono ?_; rintro e w' ⟨rfl, m, rfl⟩))
  refine (join_any (w.drewN m).heap.size _ _ 0 L (fun _ => 0) (sh 8 x) (by omega) (w.drewN m) (OwnB.nil _ _ _) (Nat.le_refl _) (by rcases Nat.eq_zero_or_pos L with h0 | h0; subst h0; exact slice_row0 _ _ _ _; exact (slice_row HC.out HM.out 8 L _ h0 hn (by omega) (by omega)).drewN m) (by first | exact .inl rfl | exact .inr (by simp [Value.ownBlock]))).mono ?_
  rintro e w2 ⟨v2, rfl, o2', g2⟩
  have o2 : OwnB w.heap.size w2 v2 L (sh 8 x) := by rw [Nat.zero_add] at o2'; exact o2'.congr (fun i _ => by simp [cat])
  have u2 : Up w w2 := Below.trans ((Up.refl w).drewN m) (g2.below (x := fun _ => 0) (OwnB.nil _ _ _) (Nat.le_refl _))
  clear g2 o2'
  have H2 := hid o2.row
  have HO := hid o2
  clear o2
  go_wp2
  go_quiet (first | (go_at_call 53; refine Calls.quiet_of_same (refSum_any _ L (sh 8 x) _ (H2.out.drewN _))) | (go_at_call 51; refine Calls.quiet_of (HW2.out _ ((Up.drewN u2 _)))))
  go_wp2
  refine bodyPost_ret (results_tmp3 rfl _ _ _) rfl ?_
  exact ⟨rfl, Up.drewN u2 _⟩

end Go.Proofs.YtfphopleniidfaaGreatDoor.Pk
namespace Go.Proofs.YtfphopleniidfaaGreatDoor.Pk
set_option maxRecDepth 20000
open Go.RowKit
set_option linter.unusedVariables false
/-- The error's number. -/
def unfE (n : Nat) (x : Nat → Nat) : Nat := if n < 8 then 31 else if 4096 < w32 x then 2 else if n < 8 + w32 x then 31 else if Crc.sum (sh 8 x) (w32 x) = w32 (sh 4 x) then 0 else 32
def unfL (n : Nat) (x : Nat → Nat) : Nat := if unfE n x = 0 then w32 x else 0
def unfM (n : Nat) (x : Nat → Nat) : Nat := if unfE n x = 0 then 8 + w32 x else 0
theorem unf_no {n : Nat} {x : Nat → Nat} {k : Nat} (h : unfE n x = k) (hk : k ≠ 0) : unfL n x = 0 ∧ unfM n x = 0 := by
  unfold unfL unfM; rw [if_neg (by omega), if_neg (by omega)]; exact ⟨rfl, rfl⟩
theorem unf_ok {n : Nat} {x : Nat → Nat} (h : unfE n x = 0) : unfL n x = w32 x ∧ unfM n x = 8 + w32 x := by
  unfold unfL unfM; rw [if_pos h, if_pos h]; exact ⟨rfl, rfl⟩

set_option maxHeartbeats 1000000 in
set_option maxRecDepth 20000 in
theorem unframe_few (v : Value) (n : Nat) (x : Nat → Nat) (w : World) (hv : ByRow w v n x) (h8 : n < 8) :
    Calls Tryz.prog 42 #[v] w fun e w' => e = .returned (.tuple #[.slice none 0 0, .int .i64 0, .int .i64 31]) ∧ Up w w' := by
  have hval : ∃ a c, v = .slice a n c := by
    rcases hv with ⟨rfl, a, c, rfl, _⟩ | ⟨_, _, b, off, cap, rfl, _⟩
    · exact ⟨a, c, rfl⟩
    · exact ⟨_, _, rfl⟩
  obtain ⟨a, c, rfl⟩ := hval
  clear hv
  go_enter Tryz.func42, Tryz.ntmps42
  go_wp2
  refine bodyPost_ret (results_tmp3 rfl _ _ _) rfl ?_
  exact ⟨rfl, Up.refl _⟩

set_option maxHeartbeats 1000000 in
set_option maxRecDepth 20000 in
theorem unframe_long (b off n cap L : Nat) (x : Nat → Nat) (w : World) (hc : ∀ i, i < n → x i < 256 ∧ w.cell? ⟨b, off + i, none⟩ = some (.int .u8 (x i : Int))) (hcp : n ≤ cap) (hm : cap ≤ maxLen) (h8 : 8 ≤ n) (hL : w32 x = L) (hL3 : L < 4294967296) (hl : 4096 < L) :
    Calls Tryz.prog 42 #[.slice (some ⟨b, off, none⟩) n cap] w fun e w' => e = .returned (.tuple #[.slice none 0 0, .int .i64 0, .int .i64 2]) ∧ Up w w' := by
  have HW := hid (word_any b off n cap x (by omega) w hc)
  rw [hL] at HW
  unfold maxLen at hm
  clear hc hL
  go_enter Tryz.func42, Tryz.ntmps42
  go_wp2_with (go_at_call 76; refine HW.out.mono ?_; rintro e w' ⟨rfl, m, rfl⟩)
  refine bodyPost_ret (results_tmp3 rfl _ _ _) rfl ?_
  exact ⟨rfl, (Up.refl w).drewN _⟩

set_option maxHeartbeats 1000000 in
set_option maxRecDepth 20000 in
theorem unframe_short (b off n cap L : Nat) (x : Nat → Nat) (w : World) (hc : ∀ i, i < n → x i < 256 ∧ w.cell? ⟨b, off + i, none⟩ = some (.int .u8 (x i : Int))) (hcp : n ≤ cap) (hm : cap ≤ maxLen) (h8 : 8 ≤ n) (hL : w32 x = L) (hL3 : L < 4294967296) (hl : L ≤ 4096) (hs : n < 8 + L) :
    Calls Tryz.prog 42 #[.slice (some ⟨b, off, none⟩) n cap] w fun e w' => e = .returned (.tuple #[.slice none 0 0, .int .i64 0, .int .i64 31]) ∧ Up w w' := by
  have HW := hid (word_any b off n cap x (by omega) w hc)
  rw [hL] at HW
  unfold maxLen at hm
  clear hc hL
  go_enter Tryz.func42, Tryz.ntmps42
  go_wp2_with (go_at_call 76; refine HW.out.mono ?_; rintro e w' ⟨rfl, m, rfl⟩)
  refine bodyPost_ret (results_tmp3 rfl _ _ _) rfl ?_
  exact ⟨rfl, (Up.refl w).drewN _⟩

set_option maxHeartbeats 1000000 in
set_option maxRecDepth 20000 in
theorem unframe_any (v : Value) (n : Nat) (x : Nat → Nat) (w : World) (ht : Tab w) (hv : ByRow w v n x) :
    Calls Tryz.prog 42 #[v] w fun e w' => ∃ v', e = .returned (.tuple #[v', .int .i64 (unfM n x : Nat), .int .i64 (unfE n x : Nat)]) ∧ OwnB w.heap.size w' v' (unfL n x) (sh 8 x) ∧ Up w w' := by
  by_cases h8 : n < 8
  · have e : unfE n x = 31 := by unfold unfE; rw [if_pos h8]
    obtain ⟨e1, e2⟩ := unf_no e (by omega)
    rw [e, e1, e2]
    exact (unframe_few v n x w hv h8).mono fun e W ⟨he, hu⟩ => ⟨_, he, OwnB.nil _ _ _, hu⟩
  · have hlt := w32_lt x (fun i hi => hv.lt i (by omega))
    obtain ⟨b, off, cap, rfl, hc, hcp, hm⟩ := hv.cells (by omega)
    by_cases h2 : 4096 < w32 x
    · have e : unfE n x = 2 := by unfold unfE; rw [if_neg h8, if_pos h2]
      obtain ⟨e1, e2⟩ := unf_no e (by omega)
      rw [e, e1, e2]
      exact (unframe_long b off n cap _ x w hc hcp hm (by omega) rfl hlt h2).mono fun e W ⟨he, hu⟩ => ⟨_, he, OwnB.nil _ _ _, hu⟩
    · by_cases h3 : n < 8 + w32 x
      · have e : unfE n x = 31 := by unfold unfE; rw [if_neg h8, if_neg h2, if_pos h3]
        obtain ⟨e1, e2⟩ := unf_no e (by omega)
        rw [e, e1, e2]
        exact (unframe_short b off n cap _ x w hc hcp hm (by omega) rfl hlt (by omega) h3).mono fun e W ⟨he, hu⟩ => ⟨_, he, OwnB.nil _ _ _, hu⟩
      · by_cases hs : Crc.sum (sh 8 x) (w32 x) = w32 (sh 4 x)
        · have e : unfE n x = 0 := by unfold unfE; rw [if_neg h8, if_neg h2, if_neg h3, if_pos hs]
          obtain ⟨e1, e2⟩ := unf_ok e
          rw [e, e1, e2]
          by_cases h9 : cap = 8
          · have hn : n = 8 := by omega
            have hl0 : w32 x = 0 := by omega
            rw [hl0] at hs ⊢
            subst hn h9
            exact unframe_ok8 b off x w ht hc hl0 hs
          · exact unframe_ok b off n cap _ x w ht hc hcp hm (by omega) rfl (by omega) (by omega) hs h9
        · have e : unfE n x = 32 := by unfold unfE; rw [if_neg h8, if_neg h2, if_neg h3, if_neg hs]
          obtain ⟨e1, e2⟩ := unf_no e (by omega)
          rw [e, e1, e2]
          by_cases h9 : cap = 8
          · have hn : n = 8 := by omega
            have hl0 : w32 x = 0 := by omega
            rw [hl0] at hs
            subst hn h9
            exact (unframe_sum8 b off x w ht hc hl0 hs).mono fun e W ⟨he, hu⟩ => ⟨_, he, OwnB.nil _ _ _, hu⟩
          · exact (unframe_sum b off n cap _ x w ht hc hcp hm (by omega) rfl (by omega) (by omega) hs h9).mono fun e W ⟨he, hu⟩ => ⟨_, he, OwnB.nil _ _ _, hu⟩

set_option maxHeartbeats 1000000 in
set_option maxRecDepth 20000 in
theorem refUnframe_few (v : Value) (n : Nat) (x : Nat → Nat) (w : World) (hv : ByRow w v n x) (h8 : n < 8) :
    Calls Tryz.prog 24 #[v] w fun e w' => e = .returned (.tuple #[.slice none 0 0, .int .i64 0, .int .i64 31]) ∧ Up w w' := by
  have hval : ∃ a c, v = .slice a n c := by
    rcases hv with ⟨rfl, a, c, rfl, _⟩ | ⟨_, _, b, off, cap, rfl, _⟩
    · exact ⟨a, c, rfl⟩
    · exact ⟨_, _, rfl⟩
  obtain ⟨a, c, rfl⟩ := hval
  clear hv
  go_enter Tryz.func24, Tryz.ntmps24
  go_wp2
  refine bodyPost_ret (results_tmp3 rfl _ _ _) rfl ?_
  exact ⟨rfl, Up.refl _⟩

set_option maxHeartbeats 1000000 in
set_option maxRecDepth 20000 in
theorem refUnframe_long (b off n cap L : Nat) (x : Nat → Nat) (w : World) (hc : ∀ i, i < n → x i < 256 ∧ w.cell? ⟨b, off + i, none⟩ = some (.int .u8 (x i : Int))) (hcp : n ≤ cap) (hm : cap ≤ maxLen) (h8 : 8 ≤ n) (hL : w32 x = L) (hL3 : L < 4294967296) (hl : 4096 < L) :
    Calls Tryz.prog 24 #[.slice (some ⟨b, off, none⟩) n cap] w fun e w' => e = .returned (.tuple #[.slice none 0 0, .int .i64 0, .int .i64 2]) ∧ Up w w' := by
  have HW := hid (unword_any b off 4 cap x (by omega) w (fun i hi => hc i (by omega)))
  rw [hL] at HW
  unfold maxLen at hm
  clear hc hL
  go_enter Tryz.func24, Tryz.ntmps24
  go_wp2_with (go_at_call 51; refine HW.out.mono ?_; rintro e w' ⟨rfl, m, rfl⟩)
  refine bodyPost_ret (results_tmp3 rfl _ _ _) rfl ?_
  exact ⟨rfl, (Up.refl w).drewN _⟩

set_option maxHeartbeats 1000000 in
set_option maxRecDepth 20000 in
theorem refUnframe_short (b off n cap L : Nat) (x : Nat → Nat) (w : World) (hc : ∀ i, i < n → x i < 256 ∧ w.cell? ⟨b, off + i, none⟩ = some (.int .u8 (x i : Int))) (hcp : n ≤ cap) (hm : cap ≤ maxLen) (h8 : 8 ≤ n) (hL : w32 x = L) (hL3 : L < 4294967296) (hl : L ≤ 4096) (hs : n < 8 + L) :
    Calls Tryz.prog 24 #[.slice (some ⟨b, off, none⟩) n cap] w fun e w' => e = .returned (.tuple #[.slice none 0 0, .int .i64 0, .int .i64 31]) ∧ Up w w' := by
  have HW := hid (unword_any b off 4 cap x (by omega) w (fun i hi => hc i (by omega)))
  rw [hL] at HW
  unfold maxLen at hm
  clear hc hL
  go_enter Tryz.func24, Tryz.ntmps24
  go_wp2_with (go_at_call 51; refine HW.out.mono ?_; rintro e w' ⟨rfl, m, rfl⟩)
  refine bodyPost_ret (results_tmp3 rfl _ _ _) rfl ?_
  exact ⟨rfl, (Up.refl w).drewN _⟩

set_option maxHeartbeats 1000000 in
set_option maxRecDepth 20000 in
theorem refUnframe_any (v : Value) (n : Nat) (x : Nat → Nat) (w : World) (hv : ByRow w v n x) :
    Calls Tryz.prog 24 #[v] w fun e w' => ∃ v', e = .returned (.tuple #[v', .int .i64 (unfM n x : Nat), .int .i64 (unfE n x : Nat)]) ∧ OwnB w.heap.size w' v' (unfL n x) (sh 8 x) ∧ Up w w' := by
  by_cases h8 : n < 8
  · have e : unfE n x = 31 := by unfold unfE; rw [if_pos h8]
    obtain ⟨e1, e2⟩ := unf_no e (by omega)
    rw [e, e1, e2]
    exact (refUnframe_few v n x w hv h8).mono fun e W ⟨he, hu⟩ => ⟨_, he, OwnB.nil _ _ _, hu⟩
  · have hlt := w32_lt x (fun i hi => hv.lt i (by omega))
    obtain ⟨b, off, cap, rfl, hc, hcp, hm⟩ := hv.cells (by omega)
    by_cases h2 : 4096 < w32 x
    · have e : unfE n x = 2 := by unfold unfE; rw [if_neg h8, if_pos h2]
      obtain ⟨e1, e2⟩ := unf_no e (by omega)
      rw [e, e1, e2]
      exact (refUnframe_long b off n cap _ x w hc hcp hm (by omega) rfl hlt h2).mono fun e W ⟨he, hu⟩ => ⟨_, he, OwnB.nil _ _ _, hu⟩
    · by_cases h3 : n < 8 + w32 x
      · have e : unfE n x = 31 := by unfold unfE; rw [if_neg h8, if_neg h2, if_pos h3]
        obtain ⟨e1, e2⟩ := unf_no e (by omega)
        rw [e, e1, e2]
        exact (refUnframe_short b off n cap _ x w hc hcp hm (by omega) rfl hlt (by omega) h3).mono fun e W ⟨he, hu⟩ => ⟨_, he, OwnB.nil _ _ _, hu⟩
      · by_cases hs : Crc.sum (sh 8 x) (w32 x) = w32 (sh 4 x)
        · have e : unfE n x = 0 := by unfold unfE; rw [if_neg h8, if_neg h2, if_neg h3, if_pos hs]
          obtain ⟨e1, e2⟩ := unf_ok e
          rw [e, e1, e2]
          by_cases h9 : cap = 8
          · have hn : n = 8 := by omega
            have hl0 : w32 x = 0 := by omega
            rw [hl0] at hs ⊢
            subst hn h9
            exact refUnframe_ok8 b off x w hc hl0 hs
          · exact refUnframe_ok b off n cap _ x w hc hcp hm (by omega) rfl (by omega) (by omega) hs h9
        · have e : unfE n x = 32 := by unfold unfE; rw [if_neg h8, if_neg h2, if_neg h3, if_neg hs]
          obtain ⟨e1, e2⟩ := unf_no e (by omega)
          rw [e, e1, e2]
          by_cases h9 : cap = 8
          · have hn : n = 8 := by omega
            have hl0 : w32 x = 0 := by omega
            rw [hl0] at hs
            subst hn h9
            exact (refUnframe_sum8 b off x w hc hl0 hs).mono fun e W ⟨he, hu⟩ => ⟨_, he, OwnB.nil _ _ _, hu⟩
          · exact (refUnframe_sum b off n cap _ x w hc hcp hm (by omega) rfl (by omega) (by omega) hs h9).mono fun e W ⟨he, hu⟩ => ⟨_, he, OwnB.nil _ _ _, hu⟩

end Go.Proofs.YtfphopleniidfaaGreatDoor.Pk
