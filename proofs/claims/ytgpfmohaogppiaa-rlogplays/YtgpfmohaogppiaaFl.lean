/- A float64 by its bits: what the order of IEEE 754 says of two of them, codes, forms and steps, as plain facts on numbers; no condition but that bits are fewer than 2^64. -/
import Ieee.Arith
import GoSem.Core.Float
import GoSem.Op.Unary
namespace Go.Proofs.Ytgpfmohaogppiaa
namespace Fl

def S : Nat := 9223372036854775808
def INF : Nat := 9218868437227405312
def B : Nat := 4503599627370496
def nan (b : Nat) : Bool := decide (INF < b % S)
def key (b : Nat) : Int := if b < S then (b : Int) else -((b - S : Nat) : Int)

theorem sw : Ieee.double.signWeight = S := by decide +kernel
theorem bn : Ieee.double.binade = B := by decide +kernel
theorem ir : Ieee.double.infRung = INF := by decide +kernel

def place (r : Nat) : Nat := if r < B then 0 else r / B - 1
def mant (r : Nat) : Nat := if r < B then r else B + r % B
def mag (r : Nat) : Nat := mant r * 2 ^ place r

theorem mag_succ (r : Nat) : mag r < mag (r + 1) := by
  unfold mag mant place
  by_cases h : r + 1 < B
  · have h' : r < B := by omega
    simp only [if_pos h, if_pos h']; omega
  · by_cases h' : r < B
    · have e : r + 1 = B := by omega
      simp only [if_pos h', if_neg h]
      rw [e]
      simp [B] at *; omega
    · simp only [if_neg h', if_neg h]
      by_cases hm : r % B + 1 < B
      · have e1 : (r + 1) / B = r / B := by unfold B at *; omega
        have e2 : (r + 1) % B = r % B + 1 := by unfold B at *; omega
        rw [e1, e2]
        exact Nat.mul_lt_mul_of_pos_right (by omega) (Nat.two_pow_pos _)
      · have hm' : r % B + 1 = B := by unfold B at *; omega
        have e1 : (r + 1) / B = r / B + 1 := by unfold B at *; omega
        have e2 : (r + 1) % B = 0 := by unfold B at *; omega
        have hq : 1 ≤ r / B := by unfold B at *; omega
        obtain ⟨k, hk⟩ : ∃ k, r / B = k + 1 := ⟨r / B - 1, by omega⟩
        rw [e1, e2, hk]
        simp only [Nat.add_sub_cancel]
        rw [Nat.pow_succ, Nat.add_zero, Nat.mul_comm (2 ^ k) 2, ← Nat.mul_assoc]
        exact Nat.mul_lt_mul_of_pos_right (by omega) (Nat.two_pow_pos _)

theorem mag_lt {r s : Nat} (h : r < s) : mag r < mag s := by
  induction s with
  | zero => omega
  | succ s ih =>
    rcases Nat.lt_or_ge r s with h' | h'
    · exact Nat.lt_trans (ih h') (mag_succ s)
    · have : r = s := by omega
      subst this; exact mag_succ r

def sgn (neg : Bool) (n : Nat) : Int := if neg then -(n : Int) else (n : Int)

theorem read_num (b : Nat) (h : b % S < INF) :
    Ieee.double.read b = .number (b / S % 2 == 1) (mant (b % S)) (Ieee.double.leastPlace + (place (b % S) : Nat)) := by
  unfold Ieee.Format.read
  rw [sw, bn, ir]
  simp only []
  unfold mant place
  by_cases h1 : b % S < B
  · simp [h1]
  · simp [h1, h]

theorem read_inf (b : Nat) (h : b % S = INF) : Ieee.double.read b = .infinity (b / S % 2 == 1) := by
  unfold Ieee.Format.read
  rw [sw, bn, ir]
  simp only []
  have h1 : ¬ INF < B := by unfold INF B; omega
  rw [h]
  simp [h1]

theorem read_nan (b : Nat) (h : INF < b % S) : Ieee.double.read b = .nan (b / S % 2 == 1) (b % S - INF) := by
  unfold Ieee.Format.read
  rw [sw, bn, ir]
  simp only []
  have h1 : ¬ b % S < B := by unfold INF B at *; omega
  have h2 : ¬ b % S < INF := by omega
  have h3 : ¬ b % S = INF := by omega
  simp [h1, h2, h3]

theorem order_nan {a b : Nat} (h : nan a = true ∨ nan b = true) : Ieee.double.order a b = none := by
  unfold Ieee.Format.order
  rcases h with h | h
  · rw [read_nan a (by simpa [nan] using h)]; simp [Ieee.Datum.order]
  · rw [read_nan b (by simpa [nan] using h)]
    cases Ieee.double.read a <;> simp [Ieee.Datum.order]

theorem signed_scale (s : Bool) (m i k : Nat) (h : k ≤ i) : Ieee.signed s m (i - k) * ((2 ^ k : Nat) : Int) = sgn s (m * 2 ^ i) := by
  have e : m * 2 ^ (i - k) * 2 ^ k = m * 2 ^ i := by
    rw [Nat.mul_assoc, ← Nat.pow_add]; congr 2; omega
  unfold Ieee.signed sgn
  rw [Nat.shiftLeft_eq]
  cases s
  · simp only [Bool.false_eq_true, if_false]; rw [← Int.natCast_mul, e]
  · simp only [if_true]; rw [Int.neg_mul, ← Int.natCast_mul, e]

theorem compare_scale (x y : Int) (c : Nat) (h : 0 < c) : compare x y = compare (x * (c : Int)) (y * (c : Int)) := by
  have hc : (0 : Int) < (c : Int) := by omega
  rcases Int.lt_trichotomy x y with h1 | h1 | h1
  · rw [Int.compare_eq_lt.2 h1, Int.compare_eq_lt.2 (Int.mul_lt_mul_of_pos_right h1 hc)]
  · subst h1; simp
  · rw [Int.compare_eq_gt.2 h1, Int.compare_eq_gt.2 (Int.mul_lt_mul_of_pos_right h1 hc)]

theorem order_number (s t : Bool) (m n i j : Nat) (L : Int) :
    Ieee.Datum.order (.number s m (L + (i : Nat))) (.number t n (L + (j : Nat))) = some (compare (sgn s (m * 2 ^ i)) (sgn t (n * 2 ^ j))) := by
  have e : ∀ x y : Nat, min (L + (x : Int)) (L + (y : Int)) = L + (min x y : Nat) := by intro x y; omega
  unfold Ieee.Datum.order
  simp only []
  rw [e]
  have e1 : (L + (i : Int) - (L + ((min i j : Nat) : Int))).toNat = i - min i j := by omega
  have e2 : (L + (j : Int) - (L + ((min i j : Nat) : Int))).toNat = j - min i j := by omega
  rw [e1, e2, compare_scale _ _ (2 ^ (min i j)) (Nat.two_pow_pos _), signed_scale _ _ _ _ (by omega), signed_scale _ _ _ _ (by omega)]

theorem key_eq (b : Nat) (h : b < 18446744073709551616) : key b = sgn (b / S % 2 == 1) (b % S) := by
  unfold key sgn
  by_cases h1 : b < S
  · have e1 : b / S = 0 := Nat.div_eq_of_lt h1
    have e2 : b % S = b := Nat.mod_eq_of_lt h1
    simp [h1, e1, e2]
  · have e1 : b / S = 1 := by unfold S at *; omega
    have e2 : b % S = b - S := by unfold S at *; omega
    simp [h1, e1, e2]

theorem sgn_cmp (f : Nat → Nat) (hf : ∀ r s, r < s → f r < f s) (h0 : f 0 = 0) (s t : Bool) (r q : Nat) :
    compare (sgn s (f r)) (sgn t (f q)) = compare (sgn s r) (sgn t q) := by
  have p : ∀ r, 0 < r → 0 < f r := fun r h => by have := hf 0 r h; omega
  have tri : ∀ a b : Int, ∀ c d : Int, (a < b → c < d) → (a = b → c = d) → (b < a → d < c) → compare c d = compare a b := by
    intro a b c d h1 h2 h3
    rcases Int.lt_trichotomy a b with h | h | h
    · rw [Int.compare_eq_lt.2 h, Int.compare_eq_lt.2 (h1 h)]
    · rw [Int.compare_eq_eq.2 h, Int.compare_eq_eq.2 (h2 h)]
    · rw [Int.compare_eq_gt.2 h, Int.compare_eq_gt.2 (h3 h)]
  apply tri
  all_goals
    intro h
    have a1 := hf r q
    have a2 := hf q r
    have a3 := p r
    have a4 := p q
    have a5 : r = q → f r = f q := fun e => by rw [e]
    have a6 : r = 0 → f r = 0 := fun e => by rw [e, h0]
    have a7 : q = 0 → f q = 0 := fun e => by rw [e, h0]
    cases s <;> cases t <;> simp only [sgn, Bool.false_eq_true, if_false, if_true] at * <;> omega

theorem mag0 : mag 0 = 0 := by decide +kernel

theorem order_num {a b : Nat} (ha : a < 18446744073709551616) (hb : b < 18446744073709551616) (na : nan a = false) (nb : nan b = false) :
    Ieee.double.order a b = some (compare (key a) (key b)) := by
  have na' : a % S ≤ INF := by simpa [nan] using na
  have nb' : b % S ≤ INF := by simpa [nan] using nb
  rw [key_eq a ha, key_eq b hb]
  unfold Ieee.Format.order
  rcases Nat.lt_or_ge (a % S) INF with h1 | h1
  · rcases Nat.lt_or_ge (b % S) INF with h2 | h2
    · rw [read_num a h1, read_num b h2, order_number]
      congr 1
      exact sgn_cmp mag (fun r s h => mag_lt h) mag0 _ _ _ _
    · have e2 : b % S = INF := by omega
      rw [read_num a h1, read_inf b e2, e2]
      unfold Ieee.Datum.order
      generalize a % S = r at *
      generalize (a / S % 2 == 1) = s
      cases (b / S % 2 == 1)
      · simp only [Bool.false_eq_true, if_false]
        rw [Int.compare_eq_lt.2]
        cases s <;> simp only [sgn, Bool.false_eq_true, if_false, if_true] <;> omega
      · simp only [if_true]
        rw [Int.compare_eq_gt.2]
        cases s <;> simp only [sgn, Bool.false_eq_true, if_false, if_true] <;> omega
  · have e1 : a % S = INF := by omega
    rcases Nat.lt_or_ge (b % S) INF with h2 | h2
    · rw [read_inf a e1, read_num b h2, e1]
      unfold Ieee.Datum.order
      generalize b % S = r at *
      generalize (b / S % 2 == 1) = s
      cases (a / S % 2 == 1)
      · simp only [Bool.false_eq_true, if_false]
        rw [Int.compare_eq_gt.2]
        cases s <;> simp only [sgn, Bool.false_eq_true, if_false, if_true] <;> omega
      · simp only [if_true]
        rw [Int.compare_eq_lt.2]
        cases s <;> simp only [sgn, Bool.false_eq_true, if_false, if_true] <;> omega
    · have e2 : b % S = INF := by omega
      rw [read_inf a e1, read_inf b e2, e1, e2]
      unfold Ieee.Datum.order
      cases (a / S % 2 == 1) <;> cases (b / S % 2 == 1) <;> decide +kernel

/-! Codes, forms and steps, on bits. -/
def M : Nat := 18446744073709551616
def code (b : Nat) : Nat := if nan b = true then 0 else if b < S then b + S else if b = S then S else 18446744073709551615 - b
def canon (b : Nat) : Nat := if nan b = true then 9221120237041090561 else if b = S then 0 else b
def cmpc (a b : Nat) : Int := if code a < code b then -1 else if code b < code a then 1 else 0
def isCode (u : Nat) : Bool := decide (u = 0 ∨ S ≤ u ∧ u - S ≤ INF ∨ u < S ∧ S < 18446744073709551615 - u ∧ 18446744073709551615 - u ≤ S + INF)
def of (u : Nat) : Nat := if u = 0 then 9221120237041090561 else if S ≤ u then u - S else 18446744073709551615 - u
def nextB (b : Nat) : Nat := if nan b = true then S + INF else if b = INF then INF else if b = 0 ∨ b = S then 1 else if b < S then b + 1 else if b = S + 1 then 0 else b - 1
def prevB (b : Nat) : Nat := if nan b = true ∨ b = S + INF then 9221120237041090561 else if b = 0 ∨ b = S then S + 1 else if b < S then b - 1 else b + 1

theorem nan_iff (b : Nat) (hb : b < 18446744073709551616) : nan b = true ↔ (INF < b ∧ b < S) ∨ S + INF < b := by
  unfold nan INF S; simp; omega
theorem nan_false_iff (b : Nat) (hb : b < 18446744073709551616) : nan b = false ↔ b ≤ INF ∨ (S ≤ b ∧ b ≤ S + INF) := by
  unfold nan INF S; simp; omega

theorem ord_nan_l (a b : Nat) (h : nan a = true) : Go.FloatKind.f64.format.order a b = none := order_nan (.inl h)
theorem ord_nan_r (a b : Nat) (h : nan b = true) : Go.FloatKind.f64.format.order a b = none := order_nan (.inr h)
theorem ord_lt (a b : Nat) (ha : a < 18446744073709551616) (hb : b < 18446744073709551616) (na : nan a = false) (nb : nan b = false) (h : key a < key b) :
    Go.FloatKind.f64.format.order a b = some .lt := by
  show Ieee.double.order a b = _
  rw [order_num ha hb na nb, Int.compare_eq_lt.2 h]
theorem ord_eq (a b : Nat) (ha : a < 18446744073709551616) (hb : b < 18446744073709551616) (na : nan a = false) (nb : nan b = false) (h : key a = key b) :
    Go.FloatKind.f64.format.order a b = some .eq := by
  show Ieee.double.order a b = _
  rw [order_num ha hb na nb, Int.compare_eq_eq.2 h]
theorem ord_gt (a b : Nat) (ha : a < 18446744073709551616) (hb : b < 18446744073709551616) (na : nan a = false) (nb : nan b = false) (h : key b < key a) :
    Go.FloatKind.f64.format.order a b = some .gt := by
  show Ieee.double.order a b = _
  rw [order_num ha hb na nb, Int.compare_eq_gt.2 h]
theorem ord_self (a : Nat) (ha : a < 18446744073709551616) (na : nan a = false) : Go.FloatKind.f64.format.order a a = some .eq :=
  ord_eq a a ha ha na na rfl

theorem code_lt (a b : Nat) (ha : a < 18446744073709551616) (hb : b < 18446744073709551616) (na : nan a = false) (nb : nan b = false) :
    code a < code b ↔ key a < key b := by
  unfold code key
  rw [na, nb]
  simp only [Bool.false_eq_true, if_false]
  have na' := (nan_false_iff a ha).1 na
  have nb' := (nan_false_iff b hb).1 nb
  unfold S INF at *
  repeat' split
  all_goals omega
theorem code_nan (a : Nat) (h : nan a = true) : code a = 0 := by unfold code; rw [if_pos h]
theorem code_pos (a : Nat) (ha : a < 18446744073709551616) (h : nan a = false) : 0 < code a := by
  unfold code; rw [h]
  have na' := (nan_false_iff a ha).1 h
  unfold S INF at *
  simp only [Bool.false_eq_true, if_false]
  repeat' split
  all_goals omega
theorem code_le (a : Nat) (ha : a < 18446744073709551616) : code a < 18446744073709551616 := by
  unfold code
  unfold S at *
  repeat' split
  all_goals omega

theorem nz (b : Nat) (h : b = 0 ∨ b = S) : nan b = false := by rcases h with rfl | rfl <;> decide +kernel
theorem kz (b : Nat) (h : b = 0 ∨ b = S) : key b = 0 := by rcases h with rfl | rfl <;> decide +kernel
theorem nf (b : Nat) (h : ¬ nan b = true) : nan b = false := by simpa using h
theorem ord_zero (b : Nat) (hb : b < 18446744073709551616) (h : b = 0 ∨ b = S) : Go.FloatKind.f64.format.order b 0 = some .eq :=
  ord_eq b 0 hb (by decide) (nz b h) (nz 0 (.inl rfl)) (by rw [kz b h, kz 0 (.inl rfl)])
theorem ord_pos (b : Nat) (h : 0 < b) (h2 : b ≤ INF) : Go.FloatKind.f64.format.order b 0 = some .gt := by
  have hb : b < 18446744073709551616 := by unfold INF at h2; omega
  refine ord_gt b 0 hb (by decide) ((nan_false_iff b hb).2 (.inl h2)) (nz 0 (.inl rfl)) ?_
  rw [kz 0 (.inl rfl)]; unfold key; rw [if_pos (by unfold INF S at *; omega)]; omega
theorem ord_neg (b : Nat) (h : S < b) (h2 : b ≤ S + INF) : Go.FloatKind.f64.format.order b 0 = some .lt := by
  have hb : b < 18446744073709551616 := by unfold INF S at h2; omega
  refine ord_lt b 0 hb (by decide) ((nan_false_iff b hb).2 (.inr ⟨by omega, h2⟩)) (nz 0 (.inl rfl)) ?_
  rw [kz 0 (.inl rfl)]; unfold key; rw [if_neg (by unfold INF S at *; omega)]; omega
/-- The kinds of numbers: a NaN, a zero, more than zero, less than zero. -/
theorem kinds (b : Nat) (hb : b < 18446744073709551616) : nan b = true ∨ (nan b = false ∧ (b = 0 ∨ b = S)) ∨ (nan b = false ∧ 0 < b ∧ b ≤ INF) ∨ (nan b = false ∧ S < b ∧ b ≤ S + INF) := by
  by_cases h : nan b = true
  · exact .inl h
  · have h' := nf b h
    have := (nan_false_iff b hb).1 h'
    right
    by_cases h0 : b = 0 ∨ b = S
    · exact .inl ⟨h', h0⟩
    · right
      rcases this with h1 | h1
      · exact .inl ⟨h', by omega, h1⟩
      · exact .inr ⟨h', by omega, h1.2⟩
theorem canon_nan (b : Nat) (h : nan b = true) : canon b = 9221120237041090561 := by unfold canon; rw [if_pos h]
theorem canon_zero (b : Nat) (h : b = 0 ∨ b = S) : canon b = 0 := by
  unfold canon; rw [nz b h]; rcases h with rfl | rfl
  · decide
  · decide
theorem canon_else (b : Nat) (h : nan b = false) (h2 : b ≠ S) : canon b = b := by unfold canon; rw [h]; simp [h2]
theorem canon_lt (b : Nat) (hb : b < 18446744073709551616) : canon b < 18446744073709551616 := by unfold canon; (repeat' split) <;> omega
theorem nan_canon (b : Nat) : nan (canon b) = nan b := by
  unfold canon
  split
  · rename_i h; rw [h]; decide +kernel
  · split
    · rename_i h; subst h; decide +kernel
    · rfl
theorem code_lo (b : Nat) (hb : b < 18446744073709551616) (hn : nan b = false) (h : canon b < 9223372036854775808) : code b = canon b + 9223372036854775808 := by
  have h' := (nan_false_iff b hb).1 hn
  unfold code; unfold canon at *
  rw [hn] at *
  simp only [Bool.false_eq_true, if_false] at *
  unfold S INF at *
  (repeat' split) <;> (repeat' split at h) <;> omega
theorem code_hi (b : Nat) (hb : b < 18446744073709551616) (hn : nan b = false) (h : 9223372036854775808 ≤ canon b) : code b = 18446744073709551615 - canon b := by
  have h' := (nan_false_iff b hb).1 hn
  unfold code; unfold canon at *
  rw [hn] at *
  simp only [Bool.false_eq_true, if_false] at *
  unfold S INF at *
  (repeat' split) <;> (repeat' split at h) <;> omega
theorem code_cases (b : Nat) (hb : b < 18446744073709551616) :
    (nan b = true ∧ canon b = 9221120237041090561 ∧ code b = 0) ∨ (∃ c, nan b = false ∧ canon b = c ∧ c ≤ 9218868437227405312 ∧ code b = c + 9223372036854775808) ∨
      (∃ c, nan b = false ∧ canon b = c ∧ 9223372036854775808 < c ∧ c ≤ 18442240474082181120 ∧ code b = 18446744073709551615 - c) := by
  by_cases hn : nan b = true
  · exact .inl ⟨hn, canon_nan b hn, code_nan b hn⟩
  · have hn' := nf b hn
    have h' := (nan_false_iff b hb).1 hn'
    have e : canon b = if b = S then 0 else b := by unfold canon; rw [hn']; rfl
    rcases Nat.lt_or_ge (canon b) 9223372036854775808 with h | h
    · refine .inr (.inl ⟨canon b, hn', rfl, ?_, code_lo b hb hn' h⟩)
      rw [e] at *; unfold S INF at *; split at h <;> simp_all <;> omega
    · refine .inr (.inr ⟨canon b, hn', rfl, ?_, ?_, code_hi b hb hn' h⟩)
      · rw [e] at *; unfold S INF at *; split at h <;> simp_all <;> omega
      · rw [e] at *; unfold S INF at *; split at h <;> simp_all <;> omega
/-- Bits of a float64. -/
def W (b : Nat) : Prop := b < 18446744073709551616
def upB (b : Nat) : Nat := if b = INF then INF else if b = 0 ∨ b = S then 1 else if b < S then b + 1 else b - 1
def downB (b : Nat) : Nat := if b = S + INF then S + INF else if b = 0 ∨ b = S then S + 1 else if b < S then b - 1 else b + 1

theorem xor_top (b : Nat) (hb : b < 18446744073709551616) : b ^^^ 2 ^ 63 = if b < 9223372036854775808 then b + 9223372036854775808 else b - 9223372036854775808 := by
  have h1 : (b ^^^ 2 ^ 63) % 2 ^ 63 = b % 2 ^ 63 := by rw [Nat.xor_mod_two_pow]; simp
  have h2 : (b ^^^ 2 ^ 63) / 2 ^ 63 = b / 2 ^ 63 ^^^ 1 := by
    rw [← Nat.shiftRight_eq_div_pow, Nat.shiftRight_xor_distrib, Nat.shiftRight_eq_div_pow, Nat.shiftRight_eq_div_pow]
  have h3 := Nat.div_add_mod (b ^^^ 2 ^ 63) (2 ^ 63)
  rw [h1, h2] at h3
  split
  · rename_i h
    have e0 : b / 2 ^ 63 = 0 := Nat.div_eq_of_lt (by simpa using h)
    rw [e0, show (0 ^^^ 1 : Nat) = 1 from rfl] at h3; omega
  · rename_i h
    have e0 : b / 2 ^ 63 = 1 := by omega
    rw [e0, show (1 ^^^ 1 : Nat) = 0 from rfl] at h3; omega
theorem neg_eq (b : Nat) (hb : b < 18446744073709551616) : Go.Op.negFloat .f64 b = if b < 9223372036854775808 then b + 9223372036854775808 else b - 9223372036854775808 := by
  have : Go.Op.negFloat .f64 b = b ^^^ 2 ^ 63 := rfl
  rw [this, xor_top b hb]

theorem key_pos (b : Nat) (h : b ≤ INF) : key b = (b : Int) := by unfold key; rw [if_pos (by unfold INF S at *; omega)]
theorem key_neg (b : Nat) (h : S ≤ b) : key b = -((b - S : Nat) : Int) := by unfold key; rw [if_neg (by omega)]
theorem key_range (b : Nat) (hb : b < 18446744073709551616) (hn : nan b = false) : -(9218868437227405312 : Int) ≤ key b ∧ key b ≤ 9218868437227405312 ∧ (key b = 9218868437227405312 ↔ b = INF) ∧ (key b = -(9218868437227405312 : Int) ↔ b = S + INF) := by
  rcases (nan_false_iff b hb).1 hn with h | ⟨h, h'⟩
  · rw [key_pos b h]; unfold INF S at *; omega
  · rw [key_neg b h]; unfold INF S at *; omega
theorem nan_inf : nan 9218868437227405312 = false := by decide +kernel
theorem nan_ninf : nan 18442240474082181120 = false := by decide +kernel
theorem key_inf : key 9218868437227405312 = 9218868437227405312 := by decide +kernel
theorem key_ninf : key 18442240474082181120 = -9218868437227405312 := by decide +kernel
theorem ord_inf (b : Nat) (hb : b < 18446744073709551616) (hn : nan b = false) (h : b ≠ INF) :
    Go.FloatKind.f64.format.order b 9218868437227405312 = some .lt ∧ Go.FloatKind.f64.format.order 9218868437227405312 b = some .gt := by
  have k := key_range b hb hn
  have : key b < 9218868437227405312 := by have := k.2.2.1; omega
  exact ⟨ord_lt _ _ hb (by decide) hn nan_inf (by rw [key_inf]; exact this), ord_gt _ _ (by decide) hb nan_inf hn (by rw [key_inf]; exact this)⟩
theorem ord_ninf (b : Nat) (hb : b < 18446744073709551616) (hn : nan b = false) (h : b ≠ S + INF) :
    Go.FloatKind.f64.format.order b 18442240474082181120 = some .gt ∧ Go.FloatKind.f64.format.order 18442240474082181120 b = some .lt := by
  have k := key_range b hb hn
  have : -9218868437227405312 < key b := by have := k.2.2.2; omega
  exact ⟨ord_gt _ _ hb (by decide) hn nan_ninf (by rw [key_ninf]; exact this), ord_lt _ _ (by decide) hb nan_ninf hn (by rw [key_ninf]; exact this)⟩
theorem ord_ii : Go.FloatKind.f64.format.order 9218868437227405312 9218868437227405312 = some .eq := by decide +kernel
theorem ord_nn : Go.FloatKind.f64.format.order 18442240474082181120 18442240474082181120 = some .eq := by decide +kernel
theorem nan_max : nan 9218868437227405311 = false := by decide +kernel
theorem key_max : key 9218868437227405311 = 9218868437227405311 := by decide +kernel
/-- x > MaxFloat64 just if x is +Inf. -/
theorem gt_max (b : Nat) (hb : b < 18446744073709551616) : (Go.FloatKind.f64.format.order b 9218868437227405311 == some .gt) = decide (b = INF) := by
  by_cases hn : nan b = true
  · rw [ord_nan_l b _ hn]
    have : b ≠ INF := by rintro rfl; exact absurd hn (by decide +kernel)
    simp [this]
  · have hn' := nf b hn
    have k := key_range b hb hn'
    by_cases h : b = INF
    · subst h; decide +kernel
    · have h3 : key b ≤ 9218868437227405311 := by have := k.2.2.1; omega
      rcases Int.lt_or_eq_of_le h3 with h4 | h4
      · rw [ord_lt b _ hb (by decide) hn' nan_max (by rw [key_max]; exact h4)]; simp [h]
      · rw [ord_eq b _ hb (by decide) hn' nan_max (by rw [key_max]; exact h4)]; simp [h]
theorem neg_gt_max (b : Nat) (hb : b < 18446744073709551616) : (Go.FloatKind.f64.format.order (Go.Op.negFloat .f64 b) 9218868437227405311 == some .gt) = decide (b = S + INF) := by
  rw [neg_eq b hb]
  rw [gt_max _ (by split <;> omega)]
  rw [Bool.eq_iff_iff]; simp only [decide_eq_true_eq]; unfold INF S; split <;> omega
theorem canon_up (b : Nat) (hb : b < 18446744073709551616) (hn : nan b = false) : canon (upB b) = nextB b ∧ upB b < 18446744073709551616 := by
  have h := (nan_false_iff b hb).1 hn
  have hnn : nan (upB b) = false := by
    unfold upB INF S at *
    (repeat' split) <;> (rw [nan_false_iff _ (by omega)]; unfold INF S; omega)
  have e : canon (upB b) = if upB b = S then 0 else upB b := by unfold canon; rw [hnn]; rfl
  rw [e]
  unfold nextB upB; rw [hn]
  simp only [Bool.false_eq_true, if_false]
  unfold INF S at *
  refine ⟨?_, ?_⟩
  · (repeat' split) <;> omega
  · (repeat' split) <;> omega
theorem canon_down (b : Nat) (hb : b < 18446744073709551616) (hn : nan b = false) (h2 : b ≠ S + INF) : canon (downB b) = prevB b ∧ downB b < 18446744073709551616 := by
  have h := (nan_false_iff b hb).1 hn
  have hnn : nan (downB b) = false := by
    unfold downB INF S at *
    (repeat' split) <;> (rw [nan_false_iff _ (by omega)]; unfold INF S; omega)
  have e : canon (downB b) = if downB b = S then 0 else downB b := by unfold canon; rw [hnn]; rfl
  rw [e]
  unfold prevB downB; rw [hn]
  simp only [Bool.false_eq_true, false_or]
  unfold INF S at *
  refine ⟨?_, ?_⟩
  · (repeat' split) <;> omega
  · (repeat' split) <;> omega
theorem of_lt (u : Nat) (hu : u < 18446744073709551616) : of u < 18446744073709551616 := by unfold of S; (repeat' split) <;> omega
theorem isCode_iff (u : Nat) : isCode u = true ↔ (u = 0 ∨ 9223372036854775808 ≤ u ∧ u ≤ 18442240474082181120 ∨ 4503599627370495 ≤ u ∧ u < 9223372036854775807) := by
  unfold isCode S INF; simp only [decide_eq_true_eq]; omega
theorem isCode_false (u : Nat) (h : ¬ isCode u = true) : isCode u = false := by simpa using h
theorem code_of (u : Nat) (hu : u < 18446744073709551616) (h : isCode u = true) : code (of u) = u := by
  have h := (isCode_iff u).1 h
  by_cases h0 : u = 0
  · subst h0; decide +kernel
  · have hn : nan (of u) = false := by
      rw [nan_false_iff _ (of_lt u hu)]; unfold of S INF; (repeat' split) <;> omega
    unfold code; rw [hn]; simp only [Bool.false_eq_true, if_false]
    unfold of S; (repeat' split) <;> omega
theorem isCode_code (b : Nat) (hb : b < 18446744073709551616) : isCode (code b) = true := by
  rw [isCode_iff]
  rcases code_cases b hb with ⟨_, _, e⟩ | ⟨c, _, _, h, e⟩ | ⟨c, _, _, h1, h2, e⟩ <;> rw [e] <;> omega
theorem code_of_not (u : Nat) (hu : u < 18446744073709551616) (h : isCode u = false) : code (of u) ≠ u := by
  intro e
  have := isCode_code (of u) (of_lt u hu)
  rw [e, h] at this; cases this
theorem of_code (b : Nat) (hb : b < 18446744073709551616) : of (code b) = canon b := by
  rcases code_cases b hb with ⟨_, e1, e⟩ | ⟨c, _, e1, h, e⟩ | ⟨c, _, e1, h1, h2, e⟩ <;> rw [e, e1] <;> unfold of S <;> (repeat' split) <;> omega
theorem canon_canon (b : Nat) : canon (canon b) = canon b := by
  by_cases hn : nan b = true
  · rw [canon_nan b hn]; decide +kernel
  · have hn' := nf b hn
    by_cases h : b = S
    · rw [canon_zero b (.inr h)]; decide +kernel
    · rw [canon_else b hn' h, canon_else b hn' h]
theorem code_canon (b : Nat) : code (canon b) = code b := by
  by_cases hn : nan b = true
  · rw [code_nan b hn, canon_nan b hn]; decide +kernel
  · have hn' := nf b hn
    by_cases h : b = S
    · subst h; decide +kernel
    · rw [canon_else b hn' h]
/-- How two numbers stand to each other: what the library's comparisons say, and what their codes say. -/
theorem cmp_cases (a b : Nat) (ha : a < 18446744073709551616) (hb : b < 18446744073709551616) :
    (nan a = true ∧ nan b = true ∧ cmpc a b = 0) ∨ (nan a = true ∧ nan b = false ∧ cmpc a b = -1) ∨ (nan a = false ∧ nan b = true ∧ cmpc a b = 1) ∨
    (nan a = false ∧ nan b = false ∧ Go.FloatKind.f64.format.order a b = some .lt ∧ cmpc a b = -1) ∨ (nan a = false ∧ nan b = false ∧ Go.FloatKind.f64.format.order a b = some .eq ∧ cmpc a b = 0) ∨
    (nan a = false ∧ nan b = false ∧ Go.FloatKind.f64.format.order a b = some .gt ∧ cmpc a b = 1) := by
  unfold cmpc
  by_cases na : nan a = true
  · by_cases nb : nan b = true
    · rw [code_nan a na, code_nan b nb]; exact .inl ⟨na, nb, by simp⟩
    · have nb' := nf b nb
      rw [code_nan a na]; exact .inr (.inl ⟨na, nb', by rw [if_pos (code_pos b hb nb')]⟩)
  · have na' := nf a na
    by_cases nb : nan b = true
    · rw [code_nan b nb]; exact .inr (.inr (.inl ⟨na', nb, by rw [if_neg (by omega), if_pos (code_pos a ha na')]⟩))
    · have nb' := nf b nb
      have l1 := code_lt a b ha hb na' nb'
      have l2 := code_lt b a hb ha nb' na'
      rcases Int.lt_trichotomy (key a) (key b) with h | h | h
      · exact .inr (.inr (.inr (.inl ⟨na', nb', ord_lt a b ha hb na' nb' h, by rw [if_pos (l1.2 h)]⟩)))
      · refine .inr (.inr (.inr (.inr (.inl ⟨na', nb', ord_eq a b ha hb na' nb' h, ?_⟩))))
        rw [if_neg (by rw [l1]; omega), if_neg (by rw [l2]; omega)]
      · refine .inr (.inr (.inr (.inr (.inr ⟨na', nb', ord_gt a b ha hb na' nb' h, ?_⟩))))
        rw [if_neg (by rw [l1]; omega), if_pos (l2.2 h)]
theorem cmpc_cases (a b : Nat) : (cmpc a b = -1 ∧ code a < code b) ∨ (cmpc a b = 0 ∧ code a = code b) ∨ (cmpc a b = 1 ∧ code b < code a) := by
  unfold cmpc
  rcases Nat.lt_trichotomy (code a) (code b) with h | h | h
  · exact .inl ⟨by rw [if_pos h], h⟩
  · exact .inr (.inl ⟨by rw [if_neg (by omega), if_neg (by omega)], h⟩)
  · exact .inr (.inr ⟨by rw [if_neg (by omega), if_pos h], h⟩)
theorem of_next (b : Nat) (hb : b < 18446744073709551616) (hn : nan b = false) (hi : b ≠ INF) :
    (isCode (code b + 1) = true ∧ of (code b + 1) = nextB b) ∨ (isCode (code b + 1) = false ∧ of (code b + 2) = nextB b ∧ code b + 2 < 18446744073709551616) := by
  have h := (nan_false_iff b hb).1 hn
  by_cases hz : b = S + 1
  · subst hz; exact .inr (by decide +kernel)
  · refine .inl ⟨?_, ?_⟩
    · rw [isCode_iff]; unfold code; rw [hn]; simp only [Bool.false_eq_true, if_false]; unfold S INF at *
      (repeat' split) <;> omega
    · unfold nextB of code; rw [hn]; simp only [Bool.false_eq_true, if_false]; unfold S INF at *
      (repeat' split) <;> omega
theorem of_prev (b : Nat) (hb : b < 18446744073709551616) (hn : nan b = false) (hi : b ≠ S + INF) :
    (isCode (code b - 1) = true ∧ of (code b - 1) = prevB b) ∨ (isCode (code b - 1) = false ∧ of (code b - 2) = prevB b ∧ 2 ≤ code b) := by
  have h := (nan_false_iff b hb).1 hn
  by_cases hz : b = 0 ∨ b = S
  · rcases hz with rfl | rfl
    · exact .inr (by decide +kernel)
    · exact .inr (by decide +kernel)
  · refine .inl ⟨?_, ?_⟩
    · rw [isCode_iff]; unfold code; rw [hn]; simp only [Bool.false_eq_true, if_false]; unfold S INF at *
      (repeat' split) <;> omega
    · unfold prevB of code; rw [hn]; simp only [Bool.false_eq_true, if_false, false_or]; unfold S INF at *
      (repeat' split) <;> omega
theorem code_inf_iff (b : Nat) (hb : b < 18446744073709551616) : code b = 18442240474082181120 ↔ b = INF := by
  rcases code_cases b hb with ⟨n, e1, e⟩ | ⟨c, n, e1, h, e⟩ | ⟨c, n, e1, h1, h2, e⟩
  · rw [e]; constructor
    · intro h; omega
    · rintro rfl; exact absurd n (by decide +kernel)
  · rw [e]; unfold canon at e1; rw [n] at e1; simp only [Bool.false_eq_true, if_false] at e1; unfold S INF at *; split at e1 <;> omega
  · rw [e]; unfold canon at e1; rw [n] at e1; simp only [Bool.false_eq_true, if_false] at e1; unfold S INF at *; split at e1 <;> omega
theorem code_ninf_iff (b : Nat) (hb : b < 18446744073709551616) : code b = 4503599627370495 ↔ b = S + INF := by
  rcases code_cases b hb with ⟨n, e1, e⟩ | ⟨c, n, e1, h, e⟩ | ⟨c, n, e1, h1, h2, e⟩
  · rw [e]; constructor
    · intro h; omega
    · rintro rfl; exact absurd n (by decide +kernel)
  · rw [e]; unfold canon at e1; rw [n] at e1; simp only [Bool.false_eq_true, if_false] at e1; unfold S INF at *; split at e1 <;> omega
  · rw [e]; unfold canon at e1; rw [n] at e1; simp only [Bool.false_eq_true, if_false] at e1; unfold S INF at *; split at e1 <;> omega
theorem nextB_form (b : Nat) (hb : b < 18446744073709551616) : canon (nextB b) = nextB b ∧ nextB b < 18446744073709551616 := by
  by_cases hn : nan b = true
  · unfold nextB; rw [if_pos hn]; decide +kernel
  · have := canon_up b hb (nf b hn)
    rw [← this.1]; exact ⟨canon_canon _, canon_lt _ this.2⟩
theorem prevB_form (b : Nat) (hb : b < 18446744073709551616) : canon (prevB b) = prevB b ∧ prevB b < 18446744073709551616 := by
  by_cases hn : nan b = true ∨ b = S + INF
  · unfold prevB; rw [if_pos hn]; decide +kernel
  · have := canon_down b hb (nf b (by intro h; exact hn (.inl h))) (by intro h; exact hn (.inr h))
    rw [← this.1]; exact ⟨canon_canon _, canon_lt _ this.2⟩

end Fl
end Go.Proofs.Ytgpfmohaogppiaa
