/- The sum of bytes (CRC-32C), reckoned in plain numbers: bit by bit and by four bits, and that a turned byte turns it; no condition. -/
namespace Go.Proofs.YtobdgdcccogghabDoor.Crc
def poly : Nat := 2197175160
/-- One bit's step. -/
def st1 (s : Nat) : Nat := if s % 2 = 1 then (s / 2) ^^^ poly else s / 2
def tab : Nat → Nat
  | 0 => 0 | 1 => 274646895 | 2 => 549293790 | 3 => 820201905 | 4 => 1098587580 | 5 => 1361435347 | 6 => 1640403810 | 7 => 1905808397 | 8 => 2197175160 | 9 => 2460548119 | 10 => 2722870694 | 11 => 2987750089 | 12 => 3280807620 | 13 => 3553878443 | 14 => 3811616794 | 15 => 4084100981 | _ => 0
def st4 (s : Nat) : Nat := (s / 16) ^^^ tab (s % 16)
theorem tab_lt (n : Nat) : tab n < 4294967296 := by unfold tab; split <;> omega
theorem xor_div2 (a b : Nat) : (a ^^^ b) / 2 = (a / 2) ^^^ (b / 2) := by
  have := Nat.shiftRight_xor_distrib (a := a) (b := b) (i := 1)
  simpa [Nat.shiftRight_eq_div_pow] using this
theorem xor_mod2 (a b : Nat) : (a ^^^ b) % 2 = (a % 2 + b % 2) % 2 := by
  have := Nat.xor_mod_two_pow (a := a) (b := b) (n := 1)
  simp only [Nat.pow_one] at this
  rw [this]
  rcases Nat.mod_two_eq_zero_or_one a with h | h <;> rcases Nat.mod_two_eq_zero_or_one b with k | k <;> rw [h, k] <;> rfl
theorem st1_xor (a b : Nat) : st1 (a ^^^ b) = st1 a ^^^ st1 b := by
  unfold st1
  have hm := xor_mod2 a b
  have hd := xor_div2 a b
  rcases Nat.mod_two_eq_zero_or_one a with h | h <;> rcases Nat.mod_two_eq_zero_or_one b with k | k
  · rw [if_neg (by omega), if_neg (by omega), if_neg (by omega), hd]
  · rw [if_pos (by omega), if_neg (by omega), if_pos (by omega), hd, Nat.xor_assoc]
  · rw [if_pos (by omega), if_pos (by omega), if_neg (by omega), hd]
    rw [Nat.xor_assoc, Nat.xor_assoc, Nat.xor_comm poly]
  · rw [if_neg (by omega), if_pos (by omega), if_pos (by omega), hd]
    rw [Nat.xor_assoc, Nat.xor_comm poly, Nat.xor_assoc, Nat.xor_self, Nat.xor_zero]
theorem st1_lt (s : Nat) (h : s < 4294967296) : st1 s < 4294967296 := by
  unfold st1
  split
  · exact Nat.xor_lt_two_pow (n := 32) (by omega) (by unfold poly; omega)
  · omega
theorem st4_lt (s : Nat) (h : s < 4294967296) : st4 s < 4294967296 :=
  Nat.xor_lt_two_pow (n := 32) (by omega) (tab_lt _)
theorem split16 (s : Nat) : s = (16 * (s / 16)) ^^^ (s % 16) := by
  apply Nat.eq_of_testBit_eq
  intro i
  rw [Nat.testBit_xor, show (16 : Nat) = 2 ^ 4 by rfl, Nat.testBit_two_pow_mul, Nat.testBit_mod_two_pow, Nat.testBit_div_two_pow]
  by_cases h : i < 4
  · simp [h, Nat.not_le.2 h]
  · have h' : 4 ≤ i := by omega
    simp [h', Nat.not_lt.2 h', show i - 4 + 4 = i by omega]
theorem st1_even (n : Nat) : st1 (2 * n) = n := by unfold st1; rw [if_neg (by omega)]; omega
theorem st4_eq (s : Nat) : st4 s = st1 (st1 (st1 (st1 s))) := by
  conv => rhs; rw [split16 s]
  rw [st1_xor, st1_xor, st1_xor, st1_xor, show 16 * (s / 16) = 2 * (2 * (2 * (2 * (s / 16)))) by omega, st1_even, st1_even, st1_even, st1_even]
  unfold st4
  congr 1
  have h : s % 16 < 16 := Nat.mod_lt _ (by omega)
  generalize s % 16 = r at h
  have all : ∀ r, r < 16 → tab r = st1 (st1 (st1 (st1 r))) := by decide +kernel
  exact all r h
theorem xor_can {a b : Nat} (h : a ^^^ b = 0) : a = b := by
  have := congrArg (· ^^^ b) h
  simpa [Nat.xor_assoc] using this
theorem xor_left {a b c : Nat} (h : a ^^^ b = a ^^^ c) : b = c := by
  have := congrArg (a ^^^ ·) h
  simpa [← Nat.xor_assoc] using this
theorem xor_right {a b c : Nat} (h : b ^^^ a = c ^^^ a) : b = c := by
  rw [Nat.xor_comm b, Nat.xor_comm c] at h; exact xor_left h
theorem st1_inj {a b : Nat} (ha : a < 4294967296) (hb : b < 4294967296) (h : st1 a = st1 b) : a = b := by
  have hx : a ^^^ b < 4294967296 := Nat.xor_lt_two_pow (n := 32) ha hb
  have h0 : st1 (a ^^^ b) = 0 := by rw [st1_xor, h, Nat.xor_self]
  have hz : a ^^^ b = 0 := by
    unfold st1 at h0
    split at h0
    · have h2 := congrArg (fun n => n.testBit 31) h0
      simp only [Nat.testBit_xor, Nat.zero_testBit] at h2
      rw [Nat.testBit_lt_two_pow (show (a ^^^ b) / 2 < 2 ^ 31 by omega)] at h2
      exact absurd h2 (by decide)
    · omega
  exact xor_can hz
/-- A byte's step. -/
def step (s c : Nat) : Nat := st4 (st4 (s ^^^ c))
theorem step_lt (s c : Nat) (h : s < 4294967296) (hc : c < 256) : step s c < 4294967296 := st4_lt _ (st4_lt _ (Nat.xor_lt_two_pow (n := 32) h (by omega)))
theorem step_inj {a b c d : Nat} (ha : a < 4294967296) (hb : b < 4294967296) (hc : c < 256) (hd : d < 256) (h : step a c = step b d) : a ^^^ c = b ^^^ d := by
  have h1 : a ^^^ c < 4294967296 := Nat.xor_lt_two_pow (n := 32) ha (by omega)
  have h2 : b ^^^ d < 4294967296 := Nat.xor_lt_two_pow (n := 32) hb (by omega)
  unfold step at h
  rw [st4_eq (st4 (a ^^^ c)), st4_eq (a ^^^ c), st4_eq (st4 (b ^^^ d)), st4_eq (b ^^^ d)] at h
  generalize a ^^^ c = x at *
  generalize b ^^^ d = y at *
  have L := fun n (hn : n < 4294967296) => st1_lt n hn
  refine st1_inj h1 h2 (st1_inj ?_ ?_ (st1_inj ?_ ?_ (st1_inj ?_ ?_ (st1_inj ?_ ?_ (st1_inj ?_ ?_ (st1_inj ?_ ?_ (st1_inj ?_ ?_ h)))))))
  all_goals repeat (first | assumption | apply st1_lt)
/-- The state behind the first k bytes. -/
def run (x : Nat → Nat) : Nat → Nat | 0 => 4294967295 | k + 1 => step (run x k) (x k)
theorem run_lt (x : Nat → Nat) (n : Nat) (h : ∀ i, i < n → x i < 256) : ∀ k, k ≤ n → run x k < 4294967296
  | 0, _ => by show 4294967295 < _; decide
  | k + 1, hk => step_lt _ _ (run_lt x n h k (by omega)) (h k (by omega))
theorem run_congr (x y : Nat → Nat) : ∀ k, (∀ i, i < k → x i = y i) → run x k = run y k
  | 0, _ => rfl
  | k + 1, h => by unfold run; rw [run_congr x y k (fun i hi => h i (by omega)), h k (by omega)]
/-- Where one byte is another one, the state is another one. -/
theorem run_turn (x y : Nat → Nat) (n j : Nat) (hx : ∀ i, i < n → x i < 256) (hy : ∀ i, i < n → y i < 256) (hj : j < n) (hd : x j ≠ y j) (he : ∀ i, i < n → i ≠ j → x i = y i) : ∀ k, j < k → k ≤ n → run x k ≠ run y k := by
  intro k
  induction k with
  | zero => intro h; omega
  | succ k ih =>
    intro h1 h2 heq
    have a := run_lt x n hx k (by omega)
    have b := run_lt y n hy k (by omega)
    have e := step_inj a b (hx k (by omega)) (hy k (by omega)) heq
    by_cases hk : k = j
    · subst hk
      rw [run_congr x y k (fun i hi => he i (by omega) (by omega))] at e
      exact hd (xor_left e)
    · rw [he k (by omega) hk] at e
      exact ih (by omega) (by omega) (xor_right e)
/-- The sum. -/
def sum (x : Nat → Nat) (n : Nat) : Nat := 4294967295 - run x n
/-- The document's inner loop, behind k bits. -/
def bits8 (s c : Nat) : Nat → Nat | 0 => s | k + 1 => if (bits8 s c k) % 2 ≠ (c / 2 ^ k) % 2 then (bits8 s c k / 2) ^^^ poly else bits8 s c k / 2
theorem bits8_lt (s c : Nat) (h : s < 4294967296) : ∀ k, bits8 s c k < 4294967296
  | 0 => h
  | k + 1 => by
    have := bits8_lt s c h k
    unfold bits8; split
    · exact Nat.xor_lt_two_pow (n := 32) (by omega) (by unfold poly; omega)
    · omega
theorem bits8_st (s c : Nat) : ∀ k, bits8 s c k ^^^ (c / 2 ^ k) = Nat.repeat st1 k (s ^^^ c)
  | 0 => by simp [bits8, Nat.repeat]
  | k + 1 => by
    show _ = st1 (Nat.repeat st1 k (s ^^^ c))
    rw [← bits8_st s c k]
    have e : c / 2 ^ (k + 1) = (c / 2 ^ k) / 2 := by rw [Nat.pow_succ, Nat.div_div_eq_div_mul]
    rw [e]
    show (if (bits8 s c k) % 2 ≠ (c / 2 ^ k) % 2 then (bits8 s c k / 2) ^^^ poly else bits8 s c k / 2) ^^^ _ = _
    generalize bits8 s c k = r
    generalize c / 2 ^ k = d
    unfold st1
    have hm := xor_mod2 r d
    have hd := xor_div2 r d
    by_cases h : r % 2 = d % 2
    · rw [if_neg (by omega), if_neg (by omega), hd]
    · rw [if_pos h, if_pos (by omega), hd, Nat.xor_assoc, Nat.xor_assoc, Nat.xor_comm poly]
theorem bits8_step (s c : Nat) (hc : c < 256) : bits8 s c 8 = step s c := by
  have h := bits8_st s c 8
  rw [show c / 2 ^ 8 = 0 by omega, Nat.xor_zero] at h
  rw [h]
  unfold step
  rw [st4_eq, st4_eq (s ^^^ c)]
  rfl
end Go.Proofs.YtobdgdcccogghabDoor.Crc
