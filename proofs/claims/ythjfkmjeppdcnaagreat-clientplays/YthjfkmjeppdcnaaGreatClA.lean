/- A float64 by its bits: what the order of IEEE 754 says of two of them, codes, forms and steps, as plain facts on numbers; no condition but that bits are fewer than 2^64. -/
import Ieee.Arith
import GoSem.Core.Float
import GoSem.Op.Unary
import Derived.Laws.BitsAllLaws
import Derived.Test.YthjfkmjeppdcnaaGreatRows
import Derived.WalkKit
import Derived.WalkSpells
import Derived.WalkLawsBesides
import Derived.Deep.RegionWith
import Derived.Laws.StructEq
import Derived.Laws.Tables
import Derived.Deep.RegionHeld3
import Derived.Deep.MidRow
import Derived.Deep.DeepCutAuto
namespace Go.Proofs.YthjfkmjeppdcnaaGreat
set_option linter.unusedSimpArgs false
namespace Fl
def S : Nat := 9223372036854775808
def INF : Nat := 9218868437227405312
def B : Nat := 4503599627370496
def nan (b : Nat) : Bool := decide (INF < b % S)
def key (b : Nat) : Int := if b < S then (b : Int) else -((b - S : Nat) : Int)
theorem sw : Ieee.double.signWeight = S := by decide +kernel
theorem bn : Ieee.double.binade = B := by decide +kernel
theorem ir : Ieee.double.infRung = INF := by decide +kernel
def place (r : Nat) : Nat := if r < B then 0 else r / B - 1
def mant (r : Nat) : Nat := if r < B then r else B + r % B
def mag (r : Nat) : Nat := mant r * 2 ^ place r
theorem mag_succ (r : Nat) : mag r < mag (r + 1) := by
 unfold mag mant place
 by_cases h : r + 1 < B
 ·have h' : r < B := by omega
  simp only [if_pos h, if_pos h']; omega
 ·by_cases h' : r < B
  ·have e : r + 1 = B := by omega
   simp only [if_pos h', if_neg h]
   rw [e]
   simp [B] at *; omega
  ·simp only [if_neg h', if_neg h]
   by_cases hm : r % B + 1 < B
   ·have e1 : (r + 1) / B = r / B := by unfold B at *; omega
    have e2 : (r + 1) % B = r % B + 1 := by unfold B at *; omega
    rw [e1, e2]
    exact Nat.mul_lt_mul_of_pos_right (by omega) (Nat.two_pow_pos _)
   ·have hm' : r % B + 1 = B := by unfold B at *; omega
    have e1 : (r + 1) / B = r / B + 1 := by unfold B at *; omega
    have e2 : (r + 1) % B = 0 := by unfold B at *; omega
    have hq : 1 ≤ r / B := by unfold B at *; omega
    obtain ⟨k, hk⟩ : ∃ k, r / B = k + 1 := ⟨r / B - 1, by omega⟩
    rw [e1, e2, hk]
    simp only [Nat.add_sub_cancel]
    rw [Nat.pow_succ, Nat.add_zero, Nat.mul_comm (2 ^ k) 2, ← Nat.mul_assoc]
    exact Nat.mul_lt_mul_of_pos_right (by omega) (Nat.two_pow_pos _)
theorem mag_lt {r s : Nat} (h : r < s) : mag r < mag s := by
 induction s with
 | zero => omega
 | succ s ih =>
  rcases Nat.lt_or_ge r s with h' | h'
  ·exact Nat.lt_trans (ih h') (mag_succ s)
  ·have : r = s := by omega
   subst this; exact mag_succ r
def sgn (neg : Bool) (n : Nat) : Int := if neg then -(n : Int) else (n : Int)
theorem read_num (b : Nat) (h : b % S < INF) :
    Ieee.double.read b = .number (b / S % 2 == 1) (mant (b % S)) (Ieee.double.leastPlace + (place (b % S) : Nat)) := by
 unfold Ieee.Format.read
 rw [sw, bn, ir]
 simp only []
 unfold mant place
 by_cases h1 : b % S < B
 ·simp [h1]
 ·simp [h1, h]
theorem read_inf (b : Nat) (h : b % S = INF) : Ieee.double.read b = .infinity (b / S % 2 == 1) := by
 unfold Ieee.Format.read
 rw [sw, bn, ir]
 simp only []
 have h1 : ¬ INF < B := by unfold INF B; omega
 rw [h]
 simp [h1]
theorem read_nan (b : Nat) (h : INF < b % S) : Ieee.double.read b = .nan (b / S % 2 == 1) (b % S - INF) := by
 unfold Ieee.Format.read
 rw [sw, bn, ir]
 simp only []
 have h1 : ¬ b % S < B := by unfold INF B at *; omega
 have h2 : ¬ b % S < INF := by omega
 have h3 : ¬ b % S = INF := by omega
 simp [h1, h2, h3]
theorem order_nan {a b : Nat} (h : nan a = true ∨ nan b = true) : Ieee.double.order a b = none := by
 unfold Ieee.Format.order
 rcases h with h | h
 ·rw [read_nan a (by simpa [nan] using h)]; simp [Ieee.Datum.order]
 ·rw [read_nan b (by simpa [nan] using h)]
  cases Ieee.double.read a <;> simp [Ieee.Datum.order]
theorem signed_scale (s : Bool) (m i k : Nat) (h : k ≤ i) : Ieee.signed s m (i - k) * ((2 ^ k : Nat) : Int) = sgn s (m * 2 ^ i) := by
 have e : m * 2 ^ (i - k) * 2 ^ k = m * 2 ^ i := by
  rw [Nat.mul_assoc, ← Nat.pow_add]; congr 2; omega
 unfold Ieee.signed sgn
 rw [Nat.shiftLeft_eq]
 cases s
 ·simp only [Bool.false_eq_true, if_false]; rw [← Int.natCast_mul, e]
 ·simp only [if_true]; rw [Int.neg_mul, ← Int.natCast_mul, e]
theorem compare_scale (x y : Int) (c : Nat) (h : 0 < c) : compare x y = compare (x * (c : Int)) (y * (c : Int)) := by
 have hc : (0 : Int) < (c : Int) := by omega
 rcases Int.lt_trichotomy x y with h1 | h1 | h1
 ·rw [Int.compare_eq_lt.2 h1, Int.compare_eq_lt.2 (Int.mul_lt_mul_of_pos_right h1 hc)]
 ·subst h1; simp
 ·rw [Int.compare_eq_gt.2 h1, Int.compare_eq_gt.2 (Int.mul_lt_mul_of_pos_right h1 hc)]
theorem order_number (s t : Bool) (m n i j : Nat) (L : Int) :
    Ieee.Datum.order (.number s m (L + (i : Nat))) (.number t n (L + (j : Nat))) = some (compare (sgn s (m * 2 ^ i)) (sgn t (n * 2 ^ j))) := by
 have e : ∀ x y : Nat, min (L + (x : Int)) (L + (y : Int)) = L + (min x y : Nat) := by intro x y; omega
 unfold Ieee.Datum.order
 simp only []
 rw [e]
 have e1 : (L + (i : Int) - (L + ((min i j : Nat) : Int))).toNat = i - min i j := by omega
 have e2 : (L + (j : Int) - (L + ((min i j : Nat) : Int))).toNat = j - min i j := by omega
 rw [e1, e2, compare_scale _ _ (2 ^ (min i j)) (Nat.two_pow_pos _), signed_scale _ _ _ _ (by omega), signed_scale _ _ _ _ (by omega)]
theorem key_eq (b : Nat) (h : b < 18446744073709551616) : key b = sgn (b / S % 2 == 1) (b % S) := by
 unfold key sgn
 by_cases h1 : b < S
 ·have e1 : b / S = 0 := Nat.div_eq_of_lt h1
  have e2 : b % S = b := Nat.mod_eq_of_lt h1
  simp [h1, e1, e2]
 ·have e1 : b / S = 1 := by unfold S at *; omega
  have e2 : b % S = b - S := by unfold S at *; omega
  simp [h1, e1, e2]
theorem sgn_cmp (f : Nat → Nat) (hf : ∀ r s, r < s → f r < f s) (h0 : f 0 = 0) (s t : Bool) (r q : Nat) :
    compare (sgn s (f r)) (sgn t (f q)) = compare (sgn s r) (sgn t q) := by
 have p : ∀ r, 0 < r → 0 < f r := fun r h => by have := hf 0 r h; omega
 have tri : ∀ a b : Int, ∀ c d : Int, (a < b → c < d) → (a = b → c = d) → (b < a → d < c) → compare c d = compare a b := by
  intro a b c d h1 h2 h3
  rcases Int.lt_trichotomy a b with h | h | h
  ·rw [Int.compare_eq_lt.2 h, Int.compare_eq_lt.2 (h1 h)]
  ·rw [Int.compare_eq_eq.2 h, Int.compare_eq_eq.2 (h2 h)]
  ·rw [Int.compare_eq_gt.2 h, Int.compare_eq_gt.2 (h3 h)]
 apply tri
 all_goals
  intro h
  have a1 := hf r q
  have a2 := hf q r
  have a3 := p r
  have a4 := p q
  have a5 : r = q → f r = f q := fun e => by rw [e]
  have a6 : r = 0 → f r = 0 := fun e => by rw [e, h0]
  have a7 : q = 0 → f q = 0 := fun e => by rw [e, h0]
  cases s <;> cases t <;> simp only [sgn, Bool.false_eq_true, if_false, if_true] at * <;> omega
theorem mag0 : mag 0 = 0 := by decide +kernel
theorem order_num {a b : Nat} (ha : a < 18446744073709551616) (hb : b < 18446744073709551616) (na : nan a = false) (nb : nan b = false) :
    Ieee.double.order a b = some (compare (key a) (key b)) := by
 have na' : a % S ≤ INF := by simpa [nan] using na
 have nb' : b % S ≤ INF := by simpa [nan] using nb
 rw [key_eq a ha, key_eq b hb]
 unfold Ieee.Format.order
 rcases Nat.lt_or_ge (a % S) INF with h1 | h1
 ·rcases Nat.lt_or_ge (b % S) INF with h2 | h2
  ·rw [read_num a h1, read_num b h2, order_number]
   congr 1
   exact sgn_cmp mag (fun r s h => mag_lt h) mag0 _ _ _ _
  ·have e2 : b % S = INF := by omega
   rw [read_num a h1, read_inf b e2, e2]
   unfold Ieee.Datum.order
   generalize a % S = r at *
   generalize (a / S % 2 == 1) = s
   cases (b / S % 2 == 1)
   ·simp only [Bool.false_eq_true, if_false]
    rw [Int.compare_eq_lt.2]
    cases s <;> simp only [sgn, Bool.false_eq_true, if_false, if_true] <;> omega
   ·simp only [if_true]
    rw [Int.compare_eq_gt.2]
    cases s <;> simp only [sgn, Bool.false_eq_true, if_false, if_true] <;> omega
 ·have e1 : a % S = INF := by omega
  rcases Nat.lt_or_ge (b % S) INF with h2 | h2
  ·rw [read_inf a e1, read_num b h2, e1]
   unfold Ieee.Datum.order
   generalize b % S = r at *
   generalize (b / S % 2 == 1) = s
   cases (a / S % 2 == 1)
   ·simp only [Bool.false_eq_true, if_false]
    rw [Int.compare_eq_gt.2]
    cases s <;> simp only [sgn, Bool.false_eq_true, if_false, if_true] <;> omega
   ·simp only [if_true]
    rw [Int.compare_eq_lt.2]
    cases s <;> simp only [sgn, Bool.false_eq_true, if_false, if_true] <;> omega
  ·have e2 : b % S = INF := by omega
   rw [read_inf a e1, read_inf b e2, e1, e2]
   unfold Ieee.Datum.order
   cases (a / S % 2 == 1) <;> cases (b / S % 2 == 1) <;> decide +kernel
/-! Codes, forms and steps, on bits. -/
def M : Nat := 18446744073709551616
def code (b : Nat) : Nat := if nan b = true then 0 else if b < S then b + S else if b = S then S else 18446744073709551615 - b
def canon (b : Nat) : Nat := if nan b = true then 9221120237041090561 else if b = S then 0 else b
def cmpc (a b : Nat) : Int := if code a < code b then -1 else if code b < code a then 1 else 0
def isCode (u : Nat) : Bool := decide (u = 0 ∨ S ≤ u ∧ u - S ≤ INF ∨ u < S ∧ S < 18446744073709551615 - u ∧ 18446744073709551615 - u ≤ S + INF)
def of (u : Nat) : Nat := if u = 0 then 9221120237041090561 else if S ≤ u then u - S else 18446744073709551615 - u
def nextB (b : Nat) : Nat := if nan b = true then S + INF else if b = INF then INF else if b = 0 ∨ b = S then 1 else if b < S then b + 1 else if b = S + 1 then 0 else b - 1
def prevB (b : Nat) : Nat := if nan b = true ∨ b = S + INF then 9221120237041090561 else if b = 0 ∨ b = S then S + 1 else if b < S then b - 1 else b + 1
theorem nan_iff (b : Nat) (hb : b < 18446744073709551616) : nan b = true ↔ (INF < b ∧ b < S) ∨ S + INF < b := by
 unfold nan INF S; simp; omega
theorem nan_false_iff (b : Nat) (hb : b < 18446744073709551616) : nan b = false ↔ b ≤ INF ∨ (S ≤ b ∧ b ≤ S + INF) := by
 unfold nan INF S; simp; omega
theorem ord_nan_l (a b : Nat) (h : nan a = true) : Go.FloatKind.f64.format.order a b = none := order_nan (.inl h)
theorem ord_nan_r (a b : Nat) (h : nan b = true) : Go.FloatKind.f64.format.order a b = none := order_nan (.inr h)
theorem ord_lt (a b : Nat) (ha : a < 18446744073709551616) (hb : b < 18446744073709551616) (na : nan a = false) (nb : nan b = false) (h : key a < key b) :
    Go.FloatKind.f64.format.order a b = some .lt := by
 show Ieee.double.order a b = _
 rw [order_num ha hb na nb, Int.compare_eq_lt.2 h]
theorem ord_eq (a b : Nat) (ha : a < 18446744073709551616) (hb : b < 18446744073709551616) (na : nan a = false) (nb : nan b = false) (h : key a = key b) :
    Go.FloatKind.f64.format.order a b = some .eq := by
 show Ieee.double.order a b = _
 rw [order_num ha hb na nb, Int.compare_eq_eq.2 h]
theorem ord_gt (a b : Nat) (ha : a < 18446744073709551616) (hb : b < 18446744073709551616) (na : nan a = false) (nb : nan b = false) (h : key b < key a) :
    Go.FloatKind.f64.format.order a b = some .gt := by
 show Ieee.double.order a b = _
 rw [order_num ha hb na nb, Int.compare_eq_gt.2 h]
theorem ord_self (a : Nat) (ha : a < 18446744073709551616) (na : nan a = false) : Go.FloatKind.f64.format.order a a = some .eq :=
 ord_eq a a ha ha na na rfl
theorem code_lt (a b : Nat) (ha : a < 18446744073709551616) (hb : b < 18446744073709551616) (na : nan a = false) (nb : nan b = false) :
    code a < code b ↔ key a < key b := by
 unfold code key
 rw [na, nb]
 simp only [Bool.false_eq_true, if_false]
 have na' := (nan_false_iff a ha).1 na
 have nb' := (nan_false_iff b hb).1 nb
 unfold S INF at *
 repeat' split
 all_goals omega
theorem code_nan (a : Nat) (h : nan a = true) : code a = 0 := by unfold code; rw [if_pos h]
theorem code_pos (a : Nat) (ha : a < 18446744073709551616) (h : nan a = false) : 0 < code a := by
 unfold code; rw [h]
 have na' := (nan_false_iff a ha).1 h
 unfold S INF at *
 simp only [Bool.false_eq_true, if_false]
 repeat' split
 all_goals omega
theorem code_le (a : Nat) (ha : a < 18446744073709551616) : code a < 18446744073709551616 := by
 unfold code
 unfold S at *
 repeat' split
 all_goals omega
theorem nz (b : Nat) (h : b = 0 ∨ b = S) : nan b = false := by rcases h with rfl | rfl <;> decide +kernel
theorem kz (b : Nat) (h : b = 0 ∨ b = S) : key b = 0 := by rcases h with rfl | rfl <;> decide +kernel
theorem nf (b : Nat) (h : ¬ nan b = true) : nan b = false := by simpa using h
theorem ord_zero (b : Nat) (hb : b < 18446744073709551616) (h : b = 0 ∨ b = S) : Go.FloatKind.f64.format.order b 0 = some .eq :=
 ord_eq b 0 hb (by decide) (nz b h) (nz 0 (.inl rfl)) (by rw [kz b h, kz 0 (.inl rfl)])
theorem ord_pos (b : Nat) (h : 0 < b) (h2 : b ≤ INF) : Go.FloatKind.f64.format.order b 0 = some .gt := by
 have hb : b < 18446744073709551616 := by unfold INF at h2; omega
 refine ord_gt b 0 hb (by decide) ((nan_false_iff b hb).2 (.inl h2)) (nz 0 (.inl rfl)) ?_
 rw [kz 0 (.inl rfl)]; unfold key; rw [if_pos (by unfold INF S at *; omega)]; omega
theorem ord_neg (b : Nat) (h : S < b) (h2 : b ≤ S + INF) : Go.FloatKind.f64.format.order b 0 = some .lt := by
 have hb : b < 18446744073709551616 := by unfold INF S at h2; omega
 refine ord_lt b 0 hb (by decide) ((nan_false_iff b hb).2 (.inr ⟨by omega, h2⟩)) (nz 0 (.inl rfl)) ?_
 rw [kz 0 (.inl rfl)]; unfold key; rw [if_neg (by unfold INF S at *; omega)]; omega
theorem kinds (b : Nat) (hb : b < 18446744073709551616) : nan b = true ∨ (nan b = false ∧ (b = 0 ∨ b = S)) ∨ (nan b = false ∧ 0 < b ∧ b ≤ INF) ∨ (nan b = false ∧ S < b ∧ b ≤ S + INF) := by
 by_cases h : nan b = true
 ·exact .inl h
 ·have h' := nf b h
  have := (nan_false_iff b hb).1 h'
  right
  by_cases h0 : b = 0 ∨ b = S
  ·exact .inl ⟨h', h0⟩
  ·right
   rcases this with h1 | h1
   ·exact .inl ⟨h', by omega, h1⟩
   ·exact .inr ⟨h', by omega, h1.2⟩
theorem canon_nan (b : Nat) (h : nan b = true) : canon b = 9221120237041090561 := by unfold canon; rw [if_pos h]
theorem canon_zero (b : Nat) (h : b = 0 ∨ b = S) : canon b = 0 := by
 unfold canon; rw [nz b h]; rcases h with rfl | rfl
 ·decide
 ·decide
theorem canon_else (b : Nat) (h : nan b = false) (h2 : b ≠ S) : canon b = b := by unfold canon; rw [h]; simp [h2]
theorem canon_lt (b : Nat) (hb : b < 18446744073709551616) : canon b < 18446744073709551616 := by unfold canon; (repeat' split) <;> omega
theorem nan_canon (b : Nat) : nan (canon b) = nan b := by
 unfold canon
 split
 ·rename_i h; rw [h]; decide +kernel
 ·split
  ·rename_i h; subst h; decide +kernel
  ·rfl
theorem code_lo (b : Nat) (hb : b < 18446744073709551616) (hn : nan b = false) (h : canon b < 9223372036854775808) : code b = canon b + 9223372036854775808 := by
 have h' := (nan_false_iff b hb).1 hn
 unfold code; unfold canon at *
 rw [hn] at *
 simp only [Bool.false_eq_true, if_false] at *
 unfold S INF at *
 (repeat' split) <;> (repeat' split at h) <;> omega
theorem code_hi (b : Nat) (hb : b < 18446744073709551616) (hn : nan b = false) (h : 9223372036854775808 ≤ canon b) : code b = 18446744073709551615 - canon b := by
 have h' := (nan_false_iff b hb).1 hn
 unfold code; unfold canon at *
 rw [hn] at *
 simp only [Bool.false_eq_true, if_false] at *
 unfold S INF at *
 (repeat' split) <;> (repeat' split at h) <;> omega
theorem code_cases (b : Nat) (hb : b < 18446744073709551616) :
    (nan b = true ∧ canon b = 9221120237041090561 ∧ code b = 0) ∨ (∃ c, nan b = false ∧ canon b = c ∧ c ≤ 9218868437227405312 ∧ code b = c + 9223372036854775808) ∨
     (∃ c, nan b = false ∧ canon b = c ∧ 9223372036854775808 < c ∧ c ≤ 18442240474082181120 ∧ code b = 18446744073709551615 - c) := by
 by_cases hn : nan b = true
 ·exact .inl ⟨hn, canon_nan b hn, code_nan b hn⟩
 ·have hn' := nf b hn
  have h' := (nan_false_iff b hb).1 hn'
  have e : canon b = if b = S then 0 else b := by unfold canon; rw [hn']; rfl
  rcases Nat.lt_or_ge (canon b) 9223372036854775808 with h | h
  ·refine .inr (.inl ⟨canon b, hn', rfl, ?_, code_lo b hb hn' h⟩)
   rw [e] at *; unfold S INF at *; split at h <;> simp_all <;> omega
  ·refine .inr (.inr ⟨canon b, hn', rfl, ?_, ?_, code_hi b hb hn' h⟩)
   ·rw [e] at *; unfold S INF at *; split at h <;> simp_all <;> omega
   ·rw [e] at *; unfold S INF at *; split at h <;> simp_all <;> omega
def W (b : Nat) : Prop := b < 18446744073709551616
def upB (b : Nat) : Nat := if b = INF then INF else if b = 0 ∨ b = S then 1 else if b < S then b + 1 else b - 1
def downB (b : Nat) : Nat := if b = S + INF then S + INF else if b = 0 ∨ b = S then S + 1 else if b < S then b - 1 else b + 1
theorem xor_top (b : Nat) (hb : b < 18446744073709551616) : b ^^^ 2 ^ 63 = if b < 9223372036854775808 then b + 9223372036854775808 else b - 9223372036854775808 := by
 have h1 : (b ^^^ 2 ^ 63) % 2 ^ 63 = b % 2 ^ 63 := by rw [Nat.xor_mod_two_pow]; simp
 have h2 : (b ^^^ 2 ^ 63) / 2 ^ 63 = b / 2 ^ 63 ^^^ 1 := by
  rw [← Nat.shiftRight_eq_div_pow, Nat.shiftRight_xor_distrib, Nat.shiftRight_eq_div_pow, Nat.shiftRight_eq_div_pow]
 have h3 := Nat.div_add_mod (b ^^^ 2 ^ 63) (2 ^ 63)
 rw [h1, h2] at h3
 split
 ·rename_i h
  have e0 : b / 2 ^ 63 = 0 := Nat.div_eq_of_lt (by simpa using h)
  rw [e0, show (0 ^^^ 1 : Nat) = 1 from rfl] at h3; omega
 ·rename_i h
  have e0 : b / 2 ^ 63 = 1 := by omega
  rw [e0, show (1 ^^^ 1 : Nat) = 0 from rfl] at h3; omega
theorem neg_eq (b : Nat) (hb : b < 18446744073709551616) : Go.Op.negFloat .f64 b = if b < 9223372036854775808 then b + 9223372036854775808 else b - 9223372036854775808 := by
 have : Go.Op.negFloat .f64 b = b ^^^ 2 ^ 63 := rfl
 rw [this, xor_top b hb]
theorem key_pos (b : Nat) (h : b ≤ INF) : key b = (b : Int) := by unfold key; rw [if_pos (by unfold INF S at *; omega)]
theorem key_neg (b : Nat) (h : S ≤ b) : key b = -((b - S : Nat) : Int) := by unfold key; rw [if_neg (by omega)]
theorem key_range (b : Nat) (hb : b < 18446744073709551616) (hn : nan b = false) : -(9218868437227405312 : Int) ≤ key b ∧ key b ≤ 9218868437227405312 ∧ (key b = 9218868437227405312 ↔ b = INF) ∧ (key b = -(9218868437227405312 : Int) ↔ b = S + INF) := by
 rcases (nan_false_iff b hb).1 hn with h | ⟨h, h'⟩
 ·rw [key_pos b h]; unfold INF S at *; omega
 ·rw [key_neg b h]; unfold INF S at *; omega
theorem nan_inf : nan 9218868437227405312 = false := by decide +kernel
theorem nan_ninf : nan 18442240474082181120 = false := by decide +kernel
theorem key_inf : key 9218868437227405312 = 9218868437227405312 := by decide +kernel
theorem key_ninf : key 18442240474082181120 = -9218868437227405312 := by decide +kernel
theorem ord_inf (b : Nat) (hb : b < 18446744073709551616) (hn : nan b = false) (h : b ≠ INF) :
    Go.FloatKind.f64.format.order b 9218868437227405312 = some .lt ∧ Go.FloatKind.f64.format.order 9218868437227405312 b = some .gt := by
 have k := key_range b hb hn
 have : key b < 9218868437227405312 := by have := k.2.2.1; omega
 exact ⟨ord_lt _ _ hb (by decide) hn nan_inf (by rw [key_inf]; exact this), ord_gt _ _ (by decide) hb nan_inf hn (by rw [key_inf]; exact this)⟩
theorem ord_ninf (b : Nat) (hb : b < 18446744073709551616) (hn : nan b = false) (h : b ≠ S + INF) :
    Go.FloatKind.f64.format.order b 18442240474082181120 = some .gt ∧ Go.FloatKind.f64.format.order 18442240474082181120 b = some .lt := by
 have k := key_range b hb hn
 have : -9218868437227405312 < key b := by have := k.2.2.2; omega
 exact ⟨ord_gt _ _ hb (by decide) hn nan_ninf (by rw [key_ninf]; exact this), ord_lt _ _ (by decide) hb nan_ninf hn (by rw [key_ninf]; exact this)⟩
theorem ord_ii : Go.FloatKind.f64.format.order 9218868437227405312 9218868437227405312 = some .eq := by decide +kernel
theorem ord_nn : Go.FloatKind.f64.format.order 18442240474082181120 18442240474082181120 = some .eq := by decide +kernel
theorem nan_max : nan 9218868437227405311 = false := by decide +kernel
theorem key_max : key 9218868437227405311 = 9218868437227405311 := by decide +kernel
theorem gt_max (b : Nat) (hb : b < 18446744073709551616) : (Go.FloatKind.f64.format.order b 9218868437227405311 == some .gt) = decide (b = INF) := by
 by_cases hn : nan b = true
 ·rw [ord_nan_l b _ hn]
  have : b ≠ INF := by rintro rfl; exact absurd hn (by decide +kernel)
  simp [this]
 ·have hn' := nf b hn
  have k := key_range b hb hn'
  by_cases h : b = INF
  ·subst h; decide +kernel
  ·have h3 : key b ≤ 9218868437227405311 := by have := k.2.2.1; omega
   rcases Int.lt_or_eq_of_le h3 with h4 | h4
   ·rw [ord_lt b _ hb (by decide) hn' nan_max (by rw [key_max]; exact h4)]; simp [h]
   ·rw [ord_eq b _ hb (by decide) hn' nan_max (by rw [key_max]; exact h4)]; simp [h]
theorem neg_gt_max (b : Nat) (hb : b < 18446744073709551616) : (Go.FloatKind.f64.format.order (Go.Op.negFloat .f64 b) 9218868437227405311 == some .gt) = decide (b = S + INF) := by
 rw [neg_eq b hb]
 rw [gt_max _ (by split <;> omega)]
 rw [Bool.eq_iff_iff]; simp only [decide_eq_true_eq]; unfold INF S; split <;> omega
theorem canon_up (b : Nat) (hb : b < 18446744073709551616) (hn : nan b = false) : canon (upB b) = nextB b ∧ upB b < 18446744073709551616 := by
 have h := (nan_false_iff b hb).1 hn
 have hnn : nan (upB b) = false := by
  unfold upB INF S at *
  (repeat' split) <;> (rw [nan_false_iff _ (by omega)]; unfold INF S; omega)
 have e : canon (upB b) = if upB b = S then 0 else upB b := by unfold canon; rw [hnn]; rfl
 rw [e]
 unfold nextB upB; rw [hn]
 simp only [Bool.false_eq_true, if_false]
 unfold INF S at *
 refine ⟨?_, ?_⟩
 ·(repeat' split) <;> omega
 ·(repeat' split) <;> omega
theorem canon_down (b : Nat) (hb : b < 18446744073709551616) (hn : nan b = false) (h2 : b ≠ S + INF) : canon (downB b) = prevB b ∧ downB b < 18446744073709551616 := by
 have h := (nan_false_iff b hb).1 hn
 have hnn : nan (downB b) = false := by
  unfold downB INF S at *
  (repeat' split) <;> (rw [nan_false_iff _ (by omega)]; unfold INF S; omega)
 have e : canon (downB b) = if downB b = S then 0 else downB b := by unfold canon; rw [hnn]; rfl
 rw [e]
 unfold prevB downB; rw [hn]
 simp only [Bool.false_eq_true, false_or]
 unfold INF S at *
 refine ⟨?_, ?_⟩
 ·(repeat' split) <;> omega
 ·(repeat' split) <;> omega
theorem of_lt (u : Nat) (hu : u < 18446744073709551616) : of u < 18446744073709551616 := by unfold of S; (repeat' split) <;> omega
theorem isCode_iff (u : Nat) : isCode u = true ↔ (u = 0 ∨ 9223372036854775808 ≤ u ∧ u ≤ 18442240474082181120 ∨ 4503599627370495 ≤ u ∧ u < 9223372036854775807) := by
 unfold isCode S INF; simp only [decide_eq_true_eq]; omega
theorem isCode_false (u : Nat) (h : ¬ isCode u = true) : isCode u = false := by simpa using h
theorem code_of (u : Nat) (hu : u < 18446744073709551616) (h : isCode u = true) : code (of u) = u := by
 have h := (isCode_iff u).1 h
 by_cases h0 : u = 0
 ·subst h0; decide +kernel
 ·have hn : nan (of u) = false := by
    rw [nan_false_iff _ (of_lt u hu)]; unfold of S INF; (repeat' split) <;> omega
  unfold code; rw [hn]; simp only [Bool.false_eq_true, if_false]
  unfold of S; (repeat' split) <;> omega
theorem isCode_code (b : Nat) (hb : b < 18446744073709551616) : isCode (code b) = true := by
 rw [isCode_iff]
 rcases code_cases b hb with ⟨_, _, e⟩ | ⟨c, _, _, h, e⟩ | ⟨c, _, _, h1, h2, e⟩ <;> rw [e] <;> omega
theorem code_of_not (u : Nat) (hu : u < 18446744073709551616) (h : isCode u = false) : code (of u) ≠ u := by
 intro e
 have := isCode_code (of u) (of_lt u hu)
 rw [e, h] at this; cases this
theorem of_code (b : Nat) (hb : b < 18446744073709551616) : of (code b) = canon b := by
 rcases code_cases b hb with ⟨_, e1, e⟩ | ⟨c, _, e1, h, e⟩ | ⟨c, _, e1, h1, h2, e⟩ <;> rw [e, e1] <;> unfold of S <;> (repeat' split) <;> omega
theorem canon_canon (b : Nat) : canon (canon b) = canon b := by
 by_cases hn : nan b = true
 ·rw [canon_nan b hn]; decide +kernel
 ·have hn' := nf b hn
  by_cases h : b = S
  ·rw [canon_zero b (.inr h)]; decide +kernel
  ·rw [canon_else b hn' h, canon_else b hn' h]
theorem code_canon (b : Nat) : code (canon b) = code b := by
 by_cases hn : nan b = true
 ·rw [code_nan b hn, canon_nan b hn]; decide +kernel
 ·have hn' := nf b hn
  by_cases h : b = S
  ·subst h; decide +kernel
  ·rw [canon_else b hn' h]
theorem cmp_cases (a b : Nat) (ha : a < 18446744073709551616) (hb : b < 18446744073709551616) :
    (nan a = true ∧ nan b = true ∧ cmpc a b = 0) ∨ (nan a = true ∧ nan b = false ∧ cmpc a b = -1) ∨ (nan a = false ∧ nan b = true ∧ cmpc a b = 1) ∨
    (nan a = false ∧ nan b = false ∧ Go.FloatKind.f64.format.order a b = some .lt ∧ cmpc a b = -1) ∨ (nan a = false ∧ nan b = false ∧ Go.FloatKind.f64.format.order a b = some .eq ∧ cmpc a b = 0) ∨
    (nan a = false ∧ nan b = false ∧ Go.FloatKind.f64.format.order a b = some .gt ∧ cmpc a b = 1) := by
 unfold cmpc
 by_cases na : nan a = true
 ·by_cases nb : nan b = true
  ·rw [code_nan a na, code_nan b nb]; exact .inl ⟨na, nb, by simp⟩
  ·have nb' := nf b nb
   rw [code_nan a na]; exact .inr (.inl ⟨na, nb', by rw [if_pos (code_pos b hb nb')]⟩)
 ·have na' := nf a na
  by_cases nb : nan b = true
  ·rw [code_nan b nb]; exact .inr (.inr (.inl ⟨na', nb, by rw [if_neg (by omega), if_pos (code_pos a ha na')]⟩))
  ·have nb' := nf b nb
   have l1 := code_lt a b ha hb na' nb'
   have l2 := code_lt b a hb ha nb' na'
   rcases Int.lt_trichotomy (key a) (key b) with h | h | h
   ·exact .inr (.inr (.inr (.inl ⟨na', nb', ord_lt a b ha hb na' nb' h, by rw [if_pos (l1.2 h)]⟩)))
   ·refine .inr (.inr (.inr (.inr (.inl ⟨na', nb', ord_eq a b ha hb na' nb' h, ?_⟩))))
    rw [if_neg (by rw [l1]; omega), if_neg (by rw [l2]; omega)]
   ·refine .inr (.inr (.inr (.inr (.inr ⟨na', nb', ord_gt a b ha hb na' nb' h, ?_⟩))))
    rw [if_neg (by rw [l1]; omega), if_pos (l2.2 h)]
theorem cmpc_cases (a b : Nat) : (cmpc a b = -1 ∧ code a < code b) ∨ (cmpc a b = 0 ∧ code a = code b) ∨ (cmpc a b = 1 ∧ code b < code a) := by
 unfold cmpc
 rcases Nat.lt_trichotomy (code a) (code b) with h | h | h
 ·exact .inl ⟨by rw [if_pos h], h⟩
 ·exact .inr (.inl ⟨by rw [if_neg (by omega), if_neg (by omega)], h⟩)
 ·exact .inr (.inr ⟨by rw [if_neg (by omega), if_pos h], h⟩)
theorem of_next (b : Nat) (hb : b < 18446744073709551616) (hn : nan b = false) (hi : b ≠ INF) :
    (isCode (code b + 1) = true ∧ of (code b + 1) = nextB b) ∨ (isCode (code b + 1) = false ∧ of (code b + 2) = nextB b ∧ code b + 2 < 18446744073709551616) := by
 have h := (nan_false_iff b hb).1 hn
 by_cases hz : b = S + 1
 ·subst hz; exact .inr (by decide +kernel)
 ·refine .inl ⟨?_, ?_⟩
  ·rw [isCode_iff]; unfold code; rw [hn]; simp only [Bool.false_eq_true, if_false]; unfold S INF at *
   (repeat' split) <;> omega
  ·unfold nextB of code; rw [hn]; simp only [Bool.false_eq_true, if_false]; unfold S INF at *
   (repeat' split) <;> omega
theorem of_prev (b : Nat) (hb : b < 18446744073709551616) (hn : nan b = false) (hi : b ≠ S + INF) :
    (isCode (code b - 1) = true ∧ of (code b - 1) = prevB b) ∨ (isCode (code b - 1) = false ∧ of (code b - 2) = prevB b ∧ 2 ≤ code b) := by
 have h := (nan_false_iff b hb).1 hn
 by_cases hz : b = 0 ∨ b = S
 ·rcases hz with rfl | rfl
  ·exact .inr (by decide +kernel)
  ·exact .inr (by decide +kernel)
 ·refine .inl ⟨?_, ?_⟩
  ·rw [isCode_iff]; unfold code; rw [hn]; simp only [Bool.false_eq_true, if_false]; unfold S INF at *
   (repeat' split) <;> omega
  ·unfold prevB of code; rw [hn]; simp only [Bool.false_eq_true, if_false, false_or]; unfold S INF at *
   (repeat' split) <;> omega
theorem code_inf_iff (b : Nat) (hb : b < 18446744073709551616) : code b = 18442240474082181120 ↔ b = INF := by
 rcases code_cases b hb with ⟨n, e1, e⟩ | ⟨c, n, e1, h, e⟩ | ⟨c, n, e1, h1, h2, e⟩
 ·rw [e]; constructor
  ·intro h; omega
  ·rintro rfl; exact absurd n (by decide +kernel)
 ·rw [e]; unfold canon at e1; rw [n] at e1; simp only [Bool.false_eq_true, if_false] at e1; unfold S INF at *; split at e1 <;> omega
 ·rw [e]; unfold canon at e1; rw [n] at e1; simp only [Bool.false_eq_true, if_false] at e1; unfold S INF at *; split at e1 <;> omega
theorem code_ninf_iff (b : Nat) (hb : b < 18446744073709551616) : code b = 4503599627370495 ↔ b = S + INF := by
 rcases code_cases b hb with ⟨n, e1, e⟩ | ⟨c, n, e1, h, e⟩ | ⟨c, n, e1, h1, h2, e⟩
 ·rw [e]; constructor
  ·intro h; omega
  ·rintro rfl; exact absurd n (by decide +kernel)
 ·rw [e]; unfold canon at e1; rw [n] at e1; simp only [Bool.false_eq_true, if_false] at e1; unfold S INF at *; split at e1 <;> omega
 ·rw [e]; unfold canon at e1; rw [n] at e1; simp only [Bool.false_eq_true, if_false] at e1; unfold S INF at *; split at e1 <;> omega
theorem nextB_form (b : Nat) (hb : b < 18446744073709551616) : canon (nextB b) = nextB b ∧ nextB b < 18446744073709551616 := by
 by_cases hn : nan b = true
 ·unfold nextB; rw [if_pos hn]; decide +kernel
 ·have := canon_up b hb (nf b hn)
  rw [← this.1]; exact ⟨canon_canon _, canon_lt _ this.2⟩
theorem prevB_form (b : Nat) (hb : b < 18446744073709551616) : canon (prevB b) = prevB b ∧ prevB b < 18446744073709551616 := by
 by_cases hn : nan b = true ∨ b = S + INF
 ·unfold prevB; rw [if_pos hn]; decide +kernel
 ·have := canon_down b hb (nf b (by intro h; exact hn (.inl h))) (by intro h; exact hn (.inr h))
  rw [← this.1]; exact ⟨canon_canon _, canon_lt _ this.2⟩
end Fl
end Go.Proofs.YthjfkmjeppdcnaaGreat
namespace Go.Proofs.YthjfkmjeppdcnaaGreat
set_option linter.unusedSimpArgs false
theorem and_top_lo (b : Nat) (h : b < 9223372036854775808) : bits .and .u64 (b : Int) 9223372036854775808 = 0 := by
 have := u64_and_nat b 9223372036854775808 (by omega) (by omega)
 rw [show ((9223372036854775808 : Nat) : Int) = 9223372036854775808 from rfl] at this
 rw [this, show (9223372036854775808 : Nat) = 2 ^ 63 from rfl, nat_bit]
 rw [show b / 2 ^ 63 = 0 from Nat.div_eq_of_lt (by simpa using h)]; rfl
theorem and_top_hi (b : Nat) (h : 9223372036854775808 ≤ b) (hb : b < 18446744073709551616) : bits .and .u64 (b : Int) 9223372036854775808 = 9223372036854775808 := by
 have := u64_and_nat b 9223372036854775808 (by omega) (by omega)
 rw [show ((9223372036854775808 : Nat) : Int) = 9223372036854775808 from rfl] at this
 rw [this, show (9223372036854775808 : Nat) = 2 ^ 63 from rfl, nat_bit]
 rw [show b / 2 ^ 63 = 1 by omega]; rfl
theorem or_top (b : Nat) (h : b < 9223372036854775808) : bits .or .u64 (b : Int) 9223372036854775808 = ((b + 9223372036854775808 : Nat) : Int) := by
 have := u64_or_nat b 9223372036854775808 (by omega) (by omega)
 rw [show ((9223372036854775808 : Nat) : Int) = 9223372036854775808 from rfl] at this
 rw [this, Nat.or_comm, nat_join 63 _ b rfl (by omega), Nat.add_comm]
theorem andNot_top (b : Nat) (hb : b < 18446744073709551616) : bits .andNot .u64 (b : Int) 9223372036854775808 = ((b % 9223372036854775808 : Nat) : Int) := by
 have := u64_andNot_nat b 9223372036854775808 hb (by omega)
 rw [show ((9223372036854775808 : Nat) : Int) = 9223372036854775808 from rfl] at this
 rw [this, show 18446744073709551615 - 9223372036854775808 = 2 ^ 63 - 1 from rfl, Nat.and_two_pow_sub_one_eq_mod]
theorem lo_of_and (b : Nat) (hb : b < 18446744073709551616) (h : (bits .and .u64 (b : Int) 9223372036854775808 == 0) = true) : b < 9223372036854775808 := by
 rcases Nat.lt_or_ge b 9223372036854775808 with h' | h'
 ·exact h'
 ·rw [and_top_hi b h' hb] at h; exact absurd h (by decide)
theorem hi_of_and (b : Nat) (h : (bits .and .u64 (b : Int) 9223372036854775808 == 0) = false) : 9223372036854775808 ≤ b := by
 rcases Nat.lt_or_ge b 9223372036854775808 with h' | h'
 ·rw [and_top_lo b h'] at h; exact absurd h (by decide)
 ·exact h'
theorem xor_max (b : Nat) (hb : b < 18446744073709551616) : bits .xor .u64 IntKind.u64.max (b : Int) = ((18446744073709551615 - b : Nat) : Int) := by
 have := u64_xor_nat 18446744073709551615 b (by omega) hb
 rw [show IntKind.u64.max = ((18446744073709551615 : Nat) : Int) by decide +kernel, this]
 congr 1
 have e : (BitVec.allOnes 64 ^^^ BitVec.ofNat 64 b).toNat = 18446744073709551615 - b := by
  rw [BitVec.allOnes_xor, BitVec.toNat_not, BitVec.toNat_ofNat, Nat.mod_eq_of_lt (by omega)]
 rw [← e, BitVec.toNat_xor, BitVec.toNat_allOnes, BitVec.toNat_ofNat, Nat.mod_eq_of_lt (by omega)]
end Go.Proofs.YthjfkmjeppdcnaaGreat
namespace Go.Proofs.YthjfkmjeppdcnaaGreat
set_option linter.unusedSimpArgs false
open Go.RowKit
theorem run_bits (b : Nat) (w : World) : (callFunc 80 #[.float .f64 b]).run Tryz.prog w = .ok (.value (.int .u64 (b : Int))) w := by kernel_rfl
theorem run_frombits (n : Int) (w : World) : (callFunc 111 #[.int .u64 n]).run Tryz.prog w = .ok (.value (.float .f64 n.toNat)) w := by kernel_rfl
theorem ret_f {a b : Nat} (h : a = b) : Ending.returned (.float .f64 a) = .returned (.float .f64 b) := by rw [h]
theorem ret_i {k : IntKind} {a b : Int} (h : a = b) : Ending.returned (.int k a) = .returned (.int k b) := by rw [h]
theorem ret_b {a b : Bool} (h : a = b) : Ending.returned (.bool a) = .returned (.bool b) := by rw [h]
theorem hid {p : Prop} (h : p) : Hid p := h
attribute [local go_sem] run_bits run_frombits
set_option maxHeartbeats 400000 in
set_option maxRecDepth 20000 in
theorem isNaN_any (b : Nat) (hb : Fl.W b) (w : World) :
    Calls Tryz.prog 59 #[.float .f64 b] w fun e w' => e = .returned (.bool (Fl.nan b)) ∧ w' = w := by
 by_cases hn : Fl.nan b = true
 ·have h := Fl.ord_nan_l b b hn
  rw [hn]; clear hn
  go_enter Tryz.func59, Tryz.ntmps59
  go_wp2
  go_ret
  exact ⟨rfl, rfl⟩
 ·have h := Fl.ord_self b hb (Fl.nf b hn)
  rw [Fl.nf b hn]; clear hn
  go_enter Tryz.func59, Tryz.ntmps59
  go_wp2
  go_ret
  exact ⟨rfl, rfl⟩
set_option maxHeartbeats 400000 in
set_option maxRecDepth 20000 in
theorem canon_any (b : Nat) (hb : Fl.W b) (w : World) :
    Calls Tryz.prog 81 #[.float .f64 b] w fun e w' => e = .returned (.float .f64 (Fl.canon b)) ∧ w' = w := by
 rcases Fl.kinds b hb with hn | ⟨hn, hz⟩ | ⟨hn, h1, h2⟩ | ⟨hn, h1, h2⟩
 ·have h := Fl.ord_nan_l b b hn
  rw [Fl.canon_nan b hn]; clear hn
  go_enter Tryz.func81, Tryz.ntmps81
  go_wp2
  go_ret
  exact ⟨rfl, rfl⟩
 ·have h := Fl.ord_self b hb hn
  have h0 := Fl.ord_zero b hb hz
  rw [Fl.canon_zero b hz]; clear hn hz
  go_enter Tryz.func81, Tryz.ntmps81
  go_wp2
  go_ret
  exact ⟨rfl, rfl⟩
 ·have h := Fl.ord_self b hb hn
  have h0 := Fl.ord_pos b h1 h2
  rw [Fl.canon_else b hn (by unfold Fl.S Fl.INF at *; omega)]; clear hn h1 h2
  go_enter Tryz.func81, Tryz.ntmps81
  go_wp2
  go_ret
  exact ⟨rfl, rfl⟩
 ·have h := Fl.ord_self b hb hn
  have h0 := Fl.ord_neg b h1 h2
  rw [Fl.canon_else b hn (by omega)]; clear hn h1 h2
  go_enter Tryz.func81, Tryz.ntmps81
  go_wp2
  go_ret
  exact ⟨rfl, rfl⟩
set_option maxHeartbeats 400000 in
set_option maxRecDepth 20000 in
theorem code_any (b : Nat) (hb : Fl.W b) (w : World) :
    Calls Tryz.prog 129 #[.float .f64 b] w fun e w' => e = .returned (.int .u64 (Fl.code b : Nat)) ∧ w' = w := by
 go_enter Tryz.func129, Tryz.ntmps129
 go_wp2_with (first | (go_at_call 59; refine (isNaN_any _ ‹_› _).mono ?_; rintro e w' ⟨rfl, rfl⟩) | (go_at_call 81; refine (canon_any _ ‹_› _).mono ?_; rintro e w' ⟨rfl, rfl⟩))
 all_goals go_ret
 ·exact ⟨ret_i (by rw [Fl.code_nan _ ‹_›]; rfl), rfl⟩
 ·have hc := Fl.canon_lt b hb
  have h1 := lo_of_and _ hc ‹_›
  exact ⟨ret_i (by rw [or_top _ h1, Fl.code_lo b hb ‹_› h1]), rfl⟩
 ·have hc := Fl.canon_lt b hb
  have h1 := hi_of_and _ ‹_›
  exact ⟨ret_i (by rw [xor_max _ hc, Fl.code_hi b hb ‹_› h1]), rfl⟩
set_option maxHeartbeats 400000 in
set_option maxRecDepth 20000 in
theorem refNan_any (b : Nat) (hb : Fl.W b) (w : World) :
    Calls Tryz.prog 50 #[.float .f64 b] w fun e w' => e = .returned (.bool (Fl.nan b)) ∧ w' = w := by
 have h := andNot_top b hb
 go_enter Tryz.func50, Tryz.ntmps50
 go_wp2
 go_ret
 refine ⟨ret_b ?_, rfl⟩
 unfold Fl.nan Fl.INF Fl.S
 rw [Bool.eq_iff_iff]; simp; omega
set_option maxHeartbeats 400000 in
set_option maxRecDepth 20000 in
theorem refBits_any (b : Nat) (hb : Fl.W b) (w : World) :
    Calls Tryz.prog 112 #[.float .f64 b] w fun e w' => e = .returned (.int .u64 (Fl.canon b : Nat)) ∧ w' = w := by
 go_enter Tryz.func112, Tryz.ntmps112
 go_wp2_with (go_at_call 50; refine (refNan_any _ ‹_› _).mono ?_; rintro e w' ⟨rfl, rfl⟩)
 all_goals go_ret
 ·exact ⟨ret_i (by rw [Fl.canon_nan _ ‹_›]; rfl), rfl⟩
 ·have h1 : b = Fl.S := by have := beq_iff_eq.1 ‹((b : Int) == 9223372036854775808) = true›; unfold Fl.S; omega
  exact ⟨ret_i (by rw [Fl.canon_zero _ (.inr h1)]; rfl), rfl⟩
 ·have h1 : b ≠ Fl.S := by have := beq_eq_false_iff_ne.1 ‹((b : Int) == 9223372036854775808) = false›; unfold Fl.S; omega
  exact ⟨ret_i (by rw [Fl.canon_else _ ‹_› h1]), rfl⟩
set_option maxHeartbeats 400000 in
set_option maxRecDepth 20000 in
theorem refCode_any (b : Nat) (hb : Fl.W b) (w : World) :
    Calls Tryz.prog 72 #[.float .f64 b] w fun e w' => e = .returned (.int .u64 (Fl.code b : Nat)) ∧ w' = w := by
 have HB := fun w => refBits_any b hb w
 rcases Fl.code_cases b hb with ⟨_, h1, h2⟩ | ⟨c, _, h1, h3, h2⟩ | ⟨c, _, h1, h3, h4, h2⟩
 ·rw [h1] at HB; rw [h2]; clear h1 h2
  have H : Hid _ := HB; clear HB
  go_enter Tryz.func72, Tryz.ntmps72
  go_wp2_with (go_at_call 112; refine (H.out _).mono ?_; rintro e w' ⟨rfl, rfl⟩)
  go_ret
  exact ⟨rfl, rfl⟩
 ·rw [h1] at HB; rw [h2]; clear h1 h2
  have H : Hid _ := HB; clear HB
  have t1 : ((c : Int) == 9221120237041090561) = false := beq_eq_false_iff_ne.2 (by omega)
  have t2 : decide ((9223372036854775808 : Int) ≤ (c : Int)) = false := by simp; omega
  have g := hid h3; clear h3
  go_enter Tryz.func72, Tryz.ntmps72
  go_wp2_with (go_at_call 112; refine (H.out _).mono ?_; rintro e w' ⟨rfl, rfl⟩)
  go_ret
  have g' := g.out
  exact ⟨ret_i (by rw [IntKind.wrap_u64]; omega), rfl⟩
 ·rw [h1] at HB; rw [h2]; clear h1 h2
  have H : Hid _ := HB; clear HB
  have t1 : ((c : Int) == 9221120237041090561) = false := beq_eq_false_iff_ne.2 (by omega)
  have t2 : decide ((9223372036854775808 : Int) ≤ (c : Int)) = true := by simp; omega
  have g := hid h4; clear h3 h4
  go_enter Tryz.func72, Tryz.ntmps72
  go_wp2_with (go_at_call 112; refine (H.out _).mono ?_; rintro e w' ⟨rfl, rfl⟩)
  go_ret
  have g' := g.out
  exact ⟨ret_i (by rw [IntKind.wrap_u64]; omega), rfl⟩
end Go.Proofs.YthjfkmjeppdcnaaGreat
namespace Go.Proofs.YthjfkmjeppdcnaaGreat
set_option linter.unusedSimpArgs false
open Go.RowKit
theorem un_neg (k : FloatKind) (b : Nat) : Op.unary .neg (.float k b) = pure (.float k (Op.negFloat k b)) := rfl
attribute [local go_sem] run_bits run_frombits un_neg
set_option maxHeartbeats 400000 in
set_option maxRecDepth 20000 in
theorem isCode_any (u : Nat) (hu : Fl.W u) (w : World) :
    Calls Tryz.prog 114 #[.int .u64 (u : Int)] w fun e w' => e = .returned (.bool (Fl.isCode u)) ∧ w' = w := by
 have hu' : u < 18446744073709551616 := hu
 have e := Fl.isCode_iff u
 by_cases h0 : u = 0
 ·subst h0
  clear e hu hu'
  go_enter Tryz.func114, Tryz.ntmps114
  go_wp2
  go_ret
  exact ⟨rfl, rfl⟩
 have t0 : ((u : Int) == 0) = false := beq_eq_false_iff_ne.2 (by omega)
 by_cases h1 : 9223372036854775808 ≤ u
 ·have t1 : decide ((9223372036854775808 : Int) ≤ (u : Int)) = true := by simp; omega
  have g := hid (show u < 18446744073709551616 ∧ 9223372036854775808 ≤ u from ⟨hu', h1⟩)
  have e' := hid e
  clear hu hu' h0 h1 e
  go_enter Tryz.func114, Tryz.ntmps114
  go_wp2
  go_ret
  have g' := g.out
  have e'' := e'.out
  refine ⟨ret_b ?_, rfl⟩
  rw [Bool.eq_iff_iff, e'', decide_eq_true_iff, IntKind.wrap_u64]; omega
 ·have t1 : decide ((9223372036854775808 : Int) ≤ (u : Int)) = false := by simp; omega
  have g := hid (show u < 9223372036854775808 ∧ u ≠ 0 by omega)
  have e' := hid e
  have t2 : IntKind.u64.wrap (18446744073709551615 - (u : Int)) = 18446744073709551615 - (u : Int) := by rw [IntKind.wrap_u64]; omega
  by_cases h2 : u < 9223372036854775807
  ·have t3 : decide ((9223372036854775808 : Int) < IntKind.u64.wrap (18446744073709551615 - (u : Int))) = true := by rw [t2]; simp; omega
   have t2' := hid t2
   have g2 := hid h2
   clear hu hu' h0 h1 e t2 h2
   go_enter Tryz.func114, Tryz.ntmps114
   go_wp2
   go_ret
   have g' := g.out
   have e'' := e'.out
   have g2' := g2.out
   refine ⟨ret_b ?_, rfl⟩
   rw [t2'.out, Bool.eq_iff_iff, e'', decide_eq_true_iff]; omega
  ·have t3 : decide ((9223372036854775808 : Int) < IntKind.u64.wrap (18446744073709551615 - (u : Int))) = false := by rw [t2]; simp; omega
   have g2 := hid h2
   clear hu hu' h0 h1 e t2 h2
   go_enter Tryz.func114, Tryz.ntmps114
   go_wp2
   go_ret
   have g' := g.out
   have e'' := e'.out
   have g2' := g2.out
   refine ⟨ret_b ?_, rfl⟩
   rw [Bool.eq_iff_iff, e'']; simp; omega
set_option maxHeartbeats 400000 in
set_option maxRecDepth 20000 in
theorem of_any (u : Nat) (hu : Fl.W u) (w : World) :
    Calls Tryz.prog 71 #[.int .u64 (u : Int)] w fun e w' => e = .returned (.float .f64 (Fl.of u)) ∧ w' = w := by
 have hu' : u < 18446744073709551616 := hu
 by_cases h0 : u = 0
 ·subst h0
  clear hu hu'
  go_enter Tryz.func71, Tryz.ntmps71
  go_wp2
  go_ret
  exact ⟨rfl, rfl⟩
 have t0 : ((u : Int) == 0) = false := beq_eq_false_iff_ne.2 (by omega)
 by_cases h1 : 9223372036854775808 ≤ u
 ·have t1 : decide ((9223372036854775808 : Int) ≤ (u : Int)) = true := by simp; omega
  have g := hid (show u < 18446744073709551616 ∧ 9223372036854775808 ≤ u from ⟨hu', h1⟩)
  clear hu hu' h0 h1
  go_enter Tryz.func71, Tryz.ntmps71
  go_wp2
  go_ret
  have g' := g.out
  refine ⟨ret_f ?_, rfl⟩
  unfold Fl.of Fl.S; rw [if_neg (by omega), if_pos g'.2, IntKind.wrap_u64]; omega
 ·have t1 : decide ((9223372036854775808 : Int) ≤ (u : Int)) = false := by simp; omega
  have g := hid (show u < 9223372036854775808 ∧ u ≠ 0 by omega)
  clear hu hu' h0 h1
  go_enter Tryz.func71, Tryz.ntmps71
  go_wp2
  go_ret
  have g' := g.out
  refine ⟨ret_f ?_, rfl⟩
  unfold Fl.of Fl.S; rw [if_neg (by omega), if_neg (by omega), IntKind.wrap_u64]; omega
set_option maxHeartbeats 400000 in
set_option maxRecDepth 20000 in
theorem compare_any (a b : Nat) (ha : Fl.W a) (hb : Fl.W b) (w : World) :
    Calls Tryz.prog 119 #[.float .f64 a, .float .f64 b] w fun e w' => e = .returned (.int .i64 (Fl.cmpc a b)) ∧ w' = w := by
 rcases Fl.cmp_cases a b ha hb with ⟨na, nb, e⟩ | ⟨na, nb, e⟩ | ⟨na, nb, e⟩ | ⟨na, nb, o, e⟩ | ⟨na, nb, o, e⟩ | ⟨na, nb, o, e⟩
 ·have o1 := Fl.ord_nan_l a a na
  have o2 := Fl.ord_nan_l b b nb
  rw [e]; clear e na nb ha hb
  go_enter Tryz.func119, Tryz.ntmps119
  go_wp2
  go_ret
  exact ⟨rfl, rfl⟩
 ·have o1 := Fl.ord_nan_l a a na
  have o2 := Fl.ord_self b hb nb
  rw [e]; clear e na nb ha hb
  go_enter Tryz.func119, Tryz.ntmps119
  go_wp2
  go_ret
  exact ⟨rfl, rfl⟩
 ·have o1 := Fl.ord_self a ha na
  have o2 := Fl.ord_nan_l b b nb
  rw [e]; clear e na nb ha hb
  go_enter Tryz.func119, Tryz.ntmps119
  go_wp2
  go_ret
  exact ⟨rfl, rfl⟩
 ·have o1 := Fl.ord_self a ha na
  have o2 := Fl.ord_self b hb nb
  rw [e]; clear e na nb ha hb
  go_enter Tryz.func119, Tryz.ntmps119
  go_wp2
  go_ret
  exact ⟨rfl, rfl⟩
 ·have o1 := Fl.ord_self a ha na
  have o2 := Fl.ord_self b hb nb
  rw [e]; clear e na nb ha hb
  go_enter Tryz.func119, Tryz.ntmps119
  go_wp2
  go_ret
  exact ⟨rfl, rfl⟩
 ·have o1 := Fl.ord_self a ha na
  have o2 := Fl.ord_self b hb nb
  rw [e]; clear e na nb ha hb
  go_enter Tryz.func119, Tryz.ntmps119
  go_wp2
  go_ret
  exact ⟨rfl, rfl⟩
set_option maxHeartbeats 400000 in
set_option maxRecDepth 20000 in
theorem cmp_any (a b : Nat) (ha : Fl.W a) (hb : Fl.W b) (w : World) :
    Calls Tryz.prog 83 #[.float .f64 a, .float .f64 b] w fun e w' => e = .returned (.int .i64 (Fl.cmpc a b)) ∧ w' = w := by
 go_enter Tryz.func83, Tryz.ntmps83
 go_wp2_with (go_at_call 119; refine (compare_any _ _ ‹Fl.W a› ‹Fl.W b› _).mono ?_; rintro e w' ⟨rfl, rfl⟩)
 go_ret
 exact ⟨rfl, rfl⟩
set_option maxHeartbeats 400000 in
set_option maxRecDepth 20000 in
theorem refCmp_any (a b : Nat) (ha : Fl.W a) (hb : Fl.W b) (w : World) :
    Calls Tryz.prog 70 #[.float .f64 a, .float .f64 b] w fun e w' => e = .returned (.int .i64 (Fl.cmpc a b)) ∧ w' = w := by
 rcases Fl.cmpc_cases a b with ⟨e, h⟩ | ⟨e, h⟩ | ⟨e, h⟩
 ·skip
  rw [e]; clear e
  go_enter Tryz.func70, Tryz.ntmps70
  go_wp2_with (go_at_call 72; refine (refCode_any _ ‹_› _).mono ?_; rintro e w' ⟨rfl, rfl⟩)
  go_ret
  exact ⟨rfl, rfl⟩
 ·have h1 : ¬ Fl.code a < Fl.code b := by omega
  have h2 : ¬ Fl.code b < Fl.code a := by omega
  clear h
  rw [e]; clear e
  go_enter Tryz.func70, Tryz.ntmps70
  go_wp2_with (go_at_call 72; refine (refCode_any _ ‹_› _).mono ?_; rintro e w' ⟨rfl, rfl⟩)
  go_ret
  exact ⟨rfl, rfl⟩
 ·have h1 : ¬ Fl.code a < Fl.code b := by omega
  rw [e]; clear e
  go_enter Tryz.func70, Tryz.ntmps70
  go_wp2_with (go_at_call 72; refine (refCode_any _ ‹_› _).mono ?_; rintro e w' ⟨rfl, rfl⟩)
  go_ret
  exact ⟨rfl, rfl⟩
set_option maxHeartbeats 400000 in
set_option maxRecDepth 20000 in
theorem inf_pos  (w : World) :
    Calls Tryz.prog 147 #[.int .i64 1] w fun e w' => e = .returned (.float .f64 9218868437227405312) ∧ w' = w := by
 go_enter Tryz.func147, Tryz.ntmps147
 go_wp2
 go_ret
 exact ⟨rfl, rfl⟩
set_option maxHeartbeats 400000 in
set_option maxRecDepth 20000 in
theorem inf_neg  (w : World) :
    Calls Tryz.prog 147 #[.int .i64 (-1)] w fun e w' => e = .returned (.float .f64 18442240474082181120) ∧ w' = w := by
 go_enter Tryz.func147, Tryz.ntmps147
 go_wp2
 go_ret
 exact ⟨rfl, rfl⟩
set_option maxHeartbeats 400000 in
set_option maxRecDepth 20000 in
theorem isInf_pos (b : Nat) (hb : Fl.W b) (w : World) :
    Calls Tryz.prog 124 #[.float .f64 b, .int .i64 1] w fun e w' => e = .returned (.bool (decide (b = Fl.INF))) ∧ w' = w := by
 have t := Fl.gt_max b hb
 clear hb
 go_enter Tryz.func124, Tryz.ntmps124
 go_wp2
 go_ret
 exact ⟨rfl, rfl⟩
set_option maxHeartbeats 400000 in
set_option maxRecDepth 20000 in
theorem isInf_neg (b : Nat) (hb : Fl.W b) (w : World) :
    Calls Tryz.prog 124 #[.float .f64 b, .int .i64 (-1)] w fun e w' => e = .returned (.bool (decide (b = Fl.S + Fl.INF))) ∧ w' = w := by
 have t := Fl.neg_gt_max b hb
 clear hb
 go_enter Tryz.func124, Tryz.ntmps124
 go_wp2
 go_ret
 exact ⟨rfl, rfl⟩
end Go.Proofs.YthjfkmjeppdcnaaGreat
namespace Go.Proofs.YthjfkmjeppdcnaaGreat
set_option linter.unusedSimpArgs false
open Go.RowKit
attribute [local go_sem] run_bits run_frombits
set_option maxHeartbeats 400000 in
set_option maxRecDepth 20000 in
theorem copysign_tiny_pos (w : World) : Calls Tryz.prog 163 #[.float .f64 1, .float .f64 9218868437227405312] w fun e w' => e = .returned (.float .f64 1) ∧ w' = w := by
 have k1 : bits .andNot .u64 1 9223372036854775808 = 1 := by decide +kernel
 have k2 : bits .and .u64 9218868437227405312 9223372036854775808 = 0 := by decide +kernel
 have k3 : bits .or .u64 1 0 = 1 := by decide +kernel
 go_enter Tryz.func163, Tryz.ntmps163
 go_wp2
 go_ret
 exact ⟨rfl, rfl⟩
set_option maxHeartbeats 400000 in
set_option maxRecDepth 20000 in
theorem copysign_tiny_neg (w : World) : Calls Tryz.prog 163 #[.float .f64 1, .float .f64 18442240474082181120] w fun e w' => e = .returned (.float .f64 9223372036854775809) ∧ w' = w := by
 have k1 : bits .andNot .u64 1 9223372036854775808 = 1 := by decide +kernel
 have k2 : bits .and .u64 18442240474082181120 9223372036854775808 = 9223372036854775808 := by decide +kernel
 have k3 : bits .or .u64 1 9223372036854775808 = 9223372036854775809 := by decide +kernel
 go_enter Tryz.func163, Tryz.ntmps163
 go_wp2
 go_ret
 exact ⟨rfl, rfl⟩
set_option maxHeartbeats 400000 in
set_option maxRecDepth 20000 in
theorem nextafter_up (b : Nat) (hb : Fl.W b) (hn : Fl.nan b = false) (w : World) :
    Calls Tryz.prog 148 #[.float .f64 b, .float .f64 9218868437227405312] w fun e w' => e = .returned (.float .f64 (Fl.upB b)) ∧ w' = w := by
 have o2 := Fl.ord_ii
 have o1 := Fl.ord_self b hb hn
 have hb' : b < 18446744073709551616 := hb
 by_cases hi : b = Fl.INF
 ·have e : Fl.upB b = b := by unfold Fl.upB; rw [if_pos hi]; exact hi.symm
  have o3 : FloatKind.f64.format.order b 9218868437227405312 = some .eq := by rw [hi]; exact o2
  rw [e]; clear e hi hn hb hb'
  go_enter Tryz.func148, Tryz.ntmps148
  go_wp2_with (first | (go_at_call 163; refine (copysign_tiny_pos _).mono ?_; rintro e w' ⟨rfl, rfl⟩) | go_in)
  go_ret
  exact ⟨rfl, rfl⟩
 have o3 := (Fl.ord_inf b hb hn hi).1
 have o4 := (Fl.ord_inf b hb hn hi).2
 rcases Fl.kinds b hb with hn' | ⟨_, hz⟩ | ⟨_, h1, h2⟩ | ⟨_, h1, h2⟩
 ·rw [hn] at hn'; cases hn'
 ·have e : Fl.upB b = 1 := by unfold Fl.upB; rw [if_neg hi, if_pos hz]
  have o5 := Fl.ord_zero b hb hz
  rw [e]; clear e hi hn hb hz hb'
  go_enter Tryz.func148, Tryz.ntmps148
  go_wp2_with (first | (go_at_call 163; refine (copysign_tiny_pos _).mono ?_; rintro e w' ⟨rfl, rfl⟩) | go_in)
  go_ret
  exact ⟨rfl, rfl⟩
 ·have e : Fl.upB b = b + 1 := by unfold Fl.upB; rw [if_neg hi, if_neg (by unfold Fl.S Fl.INF at *; omega), if_pos (by unfold Fl.S Fl.INF at *; omega)]
  have o5 := Fl.ord_pos b h1 h2
  have g := hid h2
  rw [e]; clear e hi hn hb h1 h2 hb'
  go_enter Tryz.func148, Tryz.ntmps148
  go_wp2_with (first | (go_at_call 163; refine (copysign_tiny_pos _).mono ?_; rintro e w' ⟨rfl, rfl⟩) | go_in)
  go_ret
  have g' := g.out
  exact ⟨ret_f (by rw [IntKind.wrap_u64]; unfold Fl.INF at g'; omega), rfl⟩
 ·have e : Fl.upB b = b - 1 := by unfold Fl.upB; rw [if_neg hi, if_neg (by unfold Fl.S Fl.INF at *; omega), if_neg (by unfold Fl.S Fl.INF at *; omega)]
  have o5 := Fl.ord_neg b h1 h2
  have g := hid (show Fl.S < b ∧ b < 18446744073709551616 from ⟨h1, hb'⟩)
  rw [e]; clear e hi hn hb h1 h2 hb'
  go_enter Tryz.func148, Tryz.ntmps148
  go_wp2_with (first | (go_at_call 163; refine (copysign_tiny_pos _).mono ?_; rintro e w' ⟨rfl, rfl⟩) | go_in)
  go_ret
  have g' := g.out
  exact ⟨ret_f (by rw [IntKind.wrap_u64]; unfold Fl.S at g'; omega), rfl⟩
set_option maxHeartbeats 400000 in
set_option maxRecDepth 20000 in
theorem nextafter_down (b : Nat) (hb : Fl.W b) (hn : Fl.nan b = false) (hi : b ≠ Fl.S + Fl.INF) (w : World) :
    Calls Tryz.prog 148 #[.float .f64 b, .float .f64 18442240474082181120] w fun e w' => e = .returned (.float .f64 (Fl.downB b)) ∧ w' = w := by
 have o2 := Fl.ord_nn
 have o1 := Fl.ord_self b hb hn
 have hb' : b < 18446744073709551616 := hb
 have o3 := (Fl.ord_ninf b hb hn hi).1
 have o4 := (Fl.ord_ninf b hb hn hi).2
 rcases Fl.kinds b hb with hn' | ⟨_, hz⟩ | ⟨_, h1, h2⟩ | ⟨_, h1, h2⟩
 ·rw [hn] at hn'; cases hn'
 ·have e : Fl.downB b = 9223372036854775809 := by unfold Fl.downB; rw [if_neg hi, if_pos hz]; rfl
  have o5 := Fl.ord_zero b hb hz
  rw [e]; clear e hi hn hb hz hb'
  go_enter Tryz.func148, Tryz.ntmps148
  go_wp2_with (first | (go_at_call 163; refine (copysign_tiny_neg _).mono ?_; rintro e w' ⟨rfl, rfl⟩) | go_in)
  go_ret
  exact ⟨rfl, rfl⟩
 ·have e : Fl.downB b = b - 1 := by unfold Fl.downB; rw [if_neg hi, if_neg (by unfold Fl.S Fl.INF at *; omega), if_pos (by unfold Fl.S Fl.INF at *; omega)]
  have o5 := Fl.ord_pos b h1 h2
  have g := hid (show 0 < b ∧ b < 18446744073709551616 from ⟨h1, hb'⟩)
  rw [e]; clear e hi hn hb h1 h2 hb'
  go_enter Tryz.func148, Tryz.ntmps148
  go_wp2_with (first | (go_at_call 163; refine (copysign_tiny_neg _).mono ?_; rintro e w' ⟨rfl, rfl⟩) | go_in)
  go_ret
  have g' := g.out
  exact ⟨ret_f (by rw [IntKind.wrap_u64]; omega), rfl⟩
 ·have e : Fl.downB b = b + 1 := by unfold Fl.downB; rw [if_neg hi, if_neg (by unfold Fl.S Fl.INF at *; omega), if_neg (by unfold Fl.S Fl.INF at *; omega)]
  have o5 := Fl.ord_neg b h1 h2
  have g := hid h2
  rw [e]; clear e hi hn hb h1 h2 hb'
  go_enter Tryz.func148, Tryz.ntmps148
  go_wp2_with (first | (go_at_call 163; refine (copysign_tiny_neg _).mono ?_; rintro e w' ⟨rfl, rfl⟩) | go_in)
  go_ret
  have g' := g.out
  exact ⟨ret_f (by rw [IntKind.wrap_u64]; unfold Fl.S Fl.INF at g'; omega), rfl⟩
set_option maxHeartbeats 400000 in
set_option maxRecDepth 20000 in
theorem next_any (b : Nat) (hb : Fl.W b) (w : World) :
    Calls Tryz.prog 122 #[.float .f64 b] w fun e w' => e = .returned (.float .f64 (Fl.nextB b)) ∧ w' = w := by
 by_cases hn : Fl.nan b = true
 ·have e : Fl.nextB b = 18442240474082181120 := by unfold Fl.nextB; rw [if_pos hn]; rfl
  rw [e]; clear e
  go_enter Tryz.func122, Tryz.ntmps122
  go_wp2_with (first | (go_at_call 59; refine (isNaN_any _ ‹_› _).mono ?_; rintro e w' ⟨rfl, rfl⟩) | (go_at_call 147; refine (inf_neg _).mono ?_; rintro e w' ⟨rfl, rfl⟩))
  go_ret
  exact ⟨rfl, rfl⟩
 ·have hn' := Fl.nf b hn
  have c := Fl.canon_up b hb hn'
  have hu : Fl.W (Fl.upB b) := c.2
  rw [← c.1]; clear c hn
  go_enter Tryz.func122, Tryz.ntmps122
  go_wp2_with (first | (go_at_call 59; refine (isNaN_any _ ‹_› _).mono ?_; rintro e w' ⟨rfl, rfl⟩) | (go_at_call 147; refine (inf_pos _).mono ?_; rintro e w' ⟨rfl, rfl⟩) | (go_at_call 148; refine (nextafter_up b ‹_› ‹_› _).mono ?_; rintro e w' ⟨rfl, rfl⟩) | (go_at_call 81; refine (canon_any (Fl.upB b) ‹_› _).mono ?_; rintro e w' ⟨rfl, rfl⟩))
  go_ret
  exact ⟨rfl, rfl⟩
set_option maxHeartbeats 400000 in
set_option maxRecDepth 20000 in
theorem prev_any (b : Nat) (hb : Fl.W b) (w : World) :
    Calls Tryz.prog 150 #[.float .f64 b] w fun e w' => e = .returned (.float .f64 (Fl.prevB b)) ∧ w' = w := by
 by_cases hn : Fl.nan b = true
 ·have e : Fl.prevB b = 9221120237041090561 := by unfold Fl.prevB; rw [if_pos (.inl hn)]
  have hi : Hid (b ≠ Fl.S + Fl.INF) := by rintro rfl; exact absurd hn (by decide +kernel)
  rw [e]; clear e
  go_enter Tryz.func150, Tryz.ntmps150
  go_wp2_with (first | (go_at_call 59; refine (isNaN_any _ ‹_› _).mono ?_; rintro e w' ⟨rfl, rfl⟩) | (go_at_call 124; refine (isInf_neg _ ‹_› _).mono ?_; rintro e w' ⟨rfl, rfl⟩) | (go_at_call 147; refine (inf_neg _).mono ?_; rintro e w' ⟨rfl, rfl⟩) | (go_at_call 148; refine (nextafter_down b ‹_› ‹_› hi.out _).mono ?_; rintro e w' ⟨rfl, rfl⟩) | (go_at_call 81; refine (canon_any (Fl.downB b) ‹_› _).mono ?_; rintro e w' ⟨rfl, rfl⟩) | (go_at_call 117; go_in))
  go_ret
  exact ⟨rfl, rfl⟩
 ·have hn' := Fl.nf b hn
  by_cases h : b = Fl.S + Fl.INF
  ·have e : Fl.prevB b = 9221120237041090561 := by unfold Fl.prevB; rw [if_pos (.inr h)]
   have t : decide (b = Fl.S + Fl.INF) = true := by simpa using h
   have hi : Hid True := trivial
   rw [e]; clear e h hn
   go_enter Tryz.func150, Tryz.ntmps150
   go_wp2_with (first | (go_at_call 59; refine (isNaN_any _ ‹_› _).mono ?_; rintro e w' ⟨rfl, rfl⟩) | (go_at_call 124; refine (isInf_neg _ ‹_› _).mono ?_; rintro e w' ⟨rfl, rfl⟩) | (go_at_call 147; refine (inf_neg _).mono ?_; rintro e w' ⟨rfl, rfl⟩) | (go_at_call 148; refine (nextafter_down b ‹_› ‹_› hi.out _).mono ?_; rintro e w' ⟨rfl, rfl⟩) | (go_at_call 81; refine (canon_any (Fl.downB b) ‹_› _).mono ?_; rintro e w' ⟨rfl, rfl⟩) | (go_at_call 117; go_in))
   go_ret
   exact ⟨rfl, rfl⟩
  ·have c := Fl.canon_down b hb hn' h
   have hu : Fl.W (Fl.downB b) := c.2
   have t : decide (b = Fl.S + Fl.INF) = false := by simpa using h
   have hi : Hid (b ≠ Fl.S + Fl.INF) := h
   rw [← c.1]; clear c hn h
   go_enter Tryz.func150, Tryz.ntmps150
   go_wp2_with (first | (go_at_call 59; refine (isNaN_any _ ‹_› _).mono ?_; rintro e w' ⟨rfl, rfl⟩) | (go_at_call 124; refine (isInf_neg _ ‹_› _).mono ?_; rintro e w' ⟨rfl, rfl⟩) | (go_at_call 147; refine (inf_neg _).mono ?_; rintro e w' ⟨rfl, rfl⟩) | (go_at_call 148; refine (nextafter_down b ‹_› ‹_› hi.out _).mono ?_; rintro e w' ⟨rfl, rfl⟩) | (go_at_call 81; refine (canon_any (Fl.downB b) ‹_› _).mono ?_; rintro e w' ⟨rfl, rfl⟩) | (go_at_call 117; go_in))
   go_ret
   exact ⟨rfl, rfl⟩
end Go.Proofs.YthjfkmjeppdcnaaGreat
namespace Go.Proofs.YthjfkmjeppdcnaaGreat
set_option linter.unusedSimpArgs false
namespace Fl
def nc (c : Nat) : Nat := if c = 0 then 4503599627370495 else if c = 9223372036854775806 then 9223372036854775808 else c + 1
def pc (c : Nat) : Nat := if c ≤ 4503599627370495 then 0 else if c = 9223372036854775808 then 9223372036854775806 else c - 1
theorem code_next (b : Nat) (hb : b < 18446744073709551616) (hi : b ≠ INF) : code (nextB b) = nc (code b) := by
 by_cases hn : nan b = true
 ·rw [code_nan b hn]; unfold nextB; rw [if_pos hn]; decide +kernel
 ·have hn' := nf b hn
  have h1 := code_pos b hb hn'
  have h2 := (isCode_iff _).1 (isCode_code b hb)
  rcases of_next b hb hn' hi with ⟨s1, s2⟩ | ⟨s1, s2, s3⟩
  ·have := (isCode_iff _).1 s1
   rw [← s2, code_of _ (by omega) s1]; unfold nc; rw [if_neg (by omega), if_neg (by omega)]
  ·have h3 : ¬ (code b + 1 = 0 ∨ 9223372036854775808 ≤ code b + 1 ∧ code b + 1 ≤ 18442240474082181120 ∨ 4503599627370495 ≤ code b + 1 ∧ code b + 1 < 9223372036854775807) := by
     rw [← isCode_iff, s1]; decide
   have h4 := code_inf_iff b hb
   have h5 : code b ≠ 18442240474082181120 := fun h => hi (h4.1 h)
   have h6 : code b = 9223372036854775806 := by omega
   rw [← s2, h6, code_of _ (by decide) (by decide +kernel)]; decide
theorem code_prev (b : Nat) (hb : b < 18446744073709551616) : code (prevB b) = pc (code b) := by
 by_cases hn : nan b = true
 ·rw [code_nan b hn]; unfold prevB; rw [if_pos (.inl hn)]; decide +kernel
 ·have hn' := nf b hn
  by_cases hi : b = S + INF
  ·rw [(code_ninf_iff b hb).2 hi]; unfold prevB; rw [if_pos (.inr hi)]; decide +kernel
  ·have h1 := code_pos b hb hn'
   have h2 := (isCode_iff _).1 (isCode_code b hb)
   have h4 := code_ninf_iff b hb
   have h5 : code b ≠ 4503599627370495 := fun h => hi (h4.1 h)
   rcases of_prev b hb hn' hi with ⟨s1, s2⟩ | ⟨s1, s2, s3⟩
   ·have := (isCode_iff _).1 s1
    rw [← s2, code_of _ (by omega) s1]; unfold pc; rw [if_neg (by omega), if_neg (by omega)]
   ·have h3 : ¬ (code b - 1 = 0 ∨ 9223372036854775808 ≤ code b - 1 ∧ code b - 1 ≤ 18442240474082181120 ∨ 4503599627370495 ≤ code b - 1 ∧ code b - 1 < 9223372036854775807) := by
      rw [← isCode_iff, s1]; decide
    have h6 : code b = 9223372036854775808 := by omega
    rw [← s2, h6, code_of _ (by decide) (by decide +kernel)]; decide
theorem code_range (b : Nat) (hb : b < 18446744073709551616) : code b = 0 ∨ 9223372036854775808 ≤ code b ∧ code b ≤ 18442240474082181120 ∨ 4503599627370495 ≤ code b ∧ code b < 9223372036854775807 :=
 (isCode_iff _).1 (isCode_code b hb)
theorem nan_code (b : Nat) (hb : b < 18446744073709551616) : nan b = decide (code b = 0) := by
 by_cases hn : nan b = true
 ·rw [hn, code_nan b hn]; rfl
 ·have := code_pos b hb (nf b hn)
  rw [nf b hn]; symm; simp; omega
theorem cmpc_lt (a b : Nat) (h : code a < code b) : cmpc a b = -1 := by unfold cmpc; rw [if_pos h]
theorem cmpc_eq (a b : Nat) (h : code a = code b) : cmpc a b = 0 := by unfold cmpc; rw [if_neg (by omega), if_neg (by omega)]
theorem cmpc_gt (a b : Nat) (h : code b < code a) : cmpc a b = 1 := by unfold cmpc; rw [if_neg (by omega), if_pos h]
end Fl
end Go.Proofs.YthjfkmjeppdcnaaGreat
namespace Go.Proofs.YthjfkmjeppdcnaaGreat
set_option linter.unusedSimpArgs false
open Go.RowKit
theorem run_store_float {P : Program} (w : World) (a : Addr) (m : Mode) (k : FloatKind) (b : Nat) : (store a (.float k b) m).run P w = stored P w a (.float k b) m := run_store P w a _ m rfl
structure Up (w w' : World) : Prop extends Below w.heap.size w w' where
 drawn : w.drawn ≤ w'.drawn
instance {w w' : World} : CoeOut (Up w w') (Below w.heap.size w w') := ⟨Up.toBelow⟩
theorem Up.refl (w : World) : Up w w := ⟨Below.refl _ _, Nat.le_refl _⟩
theorem Up.trans {a b c : World} (h : Up a b) (k : Up b c) : Up a c := ⟨Below.trans h.toBelow (Below.mono k.toBelow h.size), Nat.le_trans h.drawn k.drawn⟩
theorem Up.drew {a w : World} (h : Up a w) : Up a w.drew := ⟨Below.drew h.toBelow, Nat.le_trans h.drawn (Nat.le_succ _)⟩
theorem Up.drewN {a w : World} (h : Up a w) (n : Nat) : Up a (w.drewN n) := ⟨below_drewN h.toBelow n, Nat.le_trans h.drawn (Nat.le_add_right _ _)⟩
theorem Up.alloc {a w : World} (h : Up a w) (o : Obj) : Up a (w.alloc o) := ⟨Below.alloc h.toBelow h.size o, h.drawn⟩
theorem Up.setCell {a w : World} (h : Up a w) {p : Addr} (hp : a.heap.size ≤ p.block) (u : Value) : Up a (w.setCell p u) := ⟨Below.setCell h.toBelow hp u, h.drawn⟩
theorem Up.cells {W w1 : World} (hb : Up W w1) : (∀ b o, b < W.heap.size → w1.cell? ⟨b, o, none⟩ = W.cell? ⟨b, o, none⟩) ∧ (∀ b o, b < W.heap.size → w1.frozen? ⟨b, o, none⟩ = W.frozen? ⟨b, o, none⟩) ∧ W.heap.size ≤ w1.heap.size :=
 ⟨fun b o h => Below.cell (p := ⟨b, o, none⟩) hb.toBelow h, fun b o h => Below.frozen (p := ⟨b, o, none⟩) hb.toBelow h, hb.size⟩
theorem Up.toGrown {w w' : World} (h : Up w w') : Below w.heap.size w w' := h.toBelow
attribute [local go_sem] run_bits run_frombits run_store_float
set_option maxHeartbeats 400000 in
set_option maxRecDepth 20000 in
theorem none_any (w : World) :
    Calls Tryz.prog 91 #[] w fun e w' => e = .returned (.agg #[.float .f64 0, .float .f64 0, .bool true, .bool true]) ∧ Up w w' := by
 go_enter Tryz.func91, Tryz.ntmps91
 go_wp2
 exact bodyPost_ret (v := .agg #[.float .f64 0, .float .f64 0, .bool true, .bool true]) (by simp [results, Tryz.results91, go_sem]) rfl ⟨rfl, (Up.refl _).alloc _⟩
set_option maxHeartbeats 400000 in
set_option maxRecDepth 20000 in
theorem right_any (a b : Nat) (ha : Fl.W a) (hb : Fl.W b) (p q : Bool) (w : World) :
    Calls Tryz.prog 61 #[.agg #[.float .f64 a, .float .f64 b, .bool p, .bool q]] w fun e w' => e = .returned (.bool (!Fl.nan a && !Fl.nan b)) ∧ Up w w' := by
 go_enter Tryz.func61, Tryz.ntmps61
 go_wp2_with (go_at_call 59; refine (isNaN_any _ ‹_› _).mono ?_; rintro e w' ⟨rfl, rfl⟩)
 all_goals go_ret
 all_goals exact ⟨ret_b (by simp [*]), (Up.refl _).alloc _⟩
set_option maxHeartbeats 400000 in
set_option maxRecDepth 20000 in
theorem closed_none (a b : Nat) (ha : Fl.W a) (hb : Fl.W b) (hc : Fl.code b < Fl.code a) (w : World) :
    Calls Tryz.prog 125 #[.float .f64 a, .float .f64 b] w fun e w' => e = .returned (.agg #[.float .f64 0, .float .f64 0, .bool true, .bool true]) ∧ Up w w' := by
 have e := Fl.cmpc_gt a b hc
 clear hc
 go_enter Tryz.func125, Tryz.ntmps125
 go_wp2_with (first | (go_at_call 83; refine (cmp_any _ _ ‹Fl.W a› ‹Fl.W b› _).mono ?_; rintro e w' ⟨rfl, rfl⟩) | (go_at_call 91; refine (none_any _).mono ?_; rintro e w1 ⟨rfl, hb1⟩; obtain ⟨hc1, hf1, hz1⟩ := hb1.cells))
 exact bodyPost_ret (v := .agg #[.float .f64 0, .float .f64 0, .bool true, .bool true]) (by simp [results, Tryz.results125, go_sem, hc1]) rfl ⟨rfl, (((((((Up.refl _).alloc _).trans hb1).setCell (Nat.le_refl _) _).setCell (Nat.le_refl _) _).setCell (Nat.le_refl _) _).setCell (Nat.le_refl _) _)⟩
set_option maxHeartbeats 400000 in
set_option maxRecDepth 20000 in
theorem closed_some (a b : Nat) (ha : Fl.W a) (hb : Fl.W b) (hc : Fl.code a ≤ Fl.code b) (w : World) :
    Calls Tryz.prog 125 #[.float .f64 a, .float .f64 b] w fun e w' => e = .returned (.agg #[.float .f64 a, .float .f64 b, .bool false, .bool false]) ∧ Up w w' := by
 have e := Fl.cmpc_cases a b
 have e : decide (0 < Fl.cmpc a b) = false := by simp; omega
 clear hc
 go_enter Tryz.func125, Tryz.ntmps125
 go_wp2_with (first | (go_at_call 83; refine (cmp_any _ _ ‹Fl.W a› ‹Fl.W b› _).mono ?_; rintro e w' ⟨rfl, rfl⟩))
 exact bodyPost_ret (v := .agg #[.float .f64 a, .float .f64 b, .bool false, .bool false]) (by simp [results, Tryz.results125, go_sem]) rfl ⟨rfl, (Up.refl _).alloc _⟩
set_option maxHeartbeats 400000 in
set_option maxRecDepth 20000 in
theorem first_any (a b : Nat) (ha : Fl.W a) (p q : Bool) (w : World) :
    Calls Tryz.prog 126 #[.agg #[.float .f64 a, .float .f64 b, .bool p, .bool q]] w fun e w' => e = .returned (.float .f64 (if p = true then Fl.nextB a else Fl.canon a)) ∧ Up w w' := by
 cases p
 all_goals
  go_enter Tryz.func126, Tryz.ntmps126
  go_wp2_with (first | (go_at_call 122; refine (next_any _ ‹_› _).mono ?_; rintro e w' ⟨rfl, rfl⟩) | (go_at_call 81; refine (canon_any _ ‹_› _).mono ?_; rintro e w' ⟨rfl, rfl⟩))
  go_ret
  exact ⟨rfl, (Up.refl _).alloc _⟩
set_option maxHeartbeats 400000 in
set_option maxRecDepth 20000 in
theorem last_any (a b : Nat) (hb : Fl.W b) (p q : Bool) (w : World) :
    Calls Tryz.prog 127 #[.agg #[.float .f64 a, .float .f64 b, .bool p, .bool q]] w fun e w' => e = .returned (.float .f64 (if q = true then Fl.prevB b else Fl.canon b)) ∧ Up w w' := by
 cases q
 all_goals
  go_enter Tryz.func127, Tryz.ntmps127
  go_wp2_with (first | (go_at_call 150; refine (prev_any _ ‹_› _).mono ?_; rintro e w' ⟨rfl, rfl⟩) | (go_at_call 81; refine (canon_any _ ‹_› _).mono ?_; rintro e w' ⟨rfl, rfl⟩))
  go_ret
  exact ⟨rfl, (Up.refl _).alloc _⟩
end Go.Proofs.YthjfkmjeppdcnaaGreat
namespace Go.Proofs.YthjfkmjeppdcnaaGreat
set_option linter.unusedSimpArgs false
namespace Fl
def loB (a : Nat) (p : Bool) : Nat := if p = true then nextB a else canon a
def hiB (b : Nat) (q : Bool) : Nat := if q = true then prevB b else canon b
def csE (a b : Nat) (p q : Bool) : Bool := nan a || nan b || (p && decide (a = INF)) || decide (code (hiB b q) < code (loB a p))
def csU (a b : Nat) (p q : Bool) : Nat := if csE a b p q = true then 0 else loB a p
def csV (a b : Nat) (p q : Bool) : Nat := if csE a b p q = true then 0 else hiB b q
theorem loB_W (a : Nat) (p : Bool) (h : W a) : W (loB a p) := by
 unfold loB; split
 ·exact (nextB_form a h).2
 ·exact canon_lt a h
theorem hiB_W (a : Nat) (p : Bool) (h : W a) : W (hiB a p) := by
 unfold hiB; split
 ·exact (prevB_form a h).2
 ·exact canon_lt a h
theorem loB_canon (a : Nat) (p : Bool) (h : W a) : canon (loB a p) = loB a p := by
 unfold loB; split
 ·exact (nextB_form a h).1
 ·exact canon_canon a
theorem hiB_canon (a : Nat) (p : Bool) (h : W a) : canon (hiB a p) = hiB a p := by
 unfold hiB; split
 ·exact (prevB_form a h).1
 ·exact canon_canon a
theorem csU_W (a b : Nat) (p q : Bool) (h : W a) : W (csU a b p q) := by
 unfold csU; split
 ·unfold W; decide
 ·exact loB_W a p h
theorem csV_W (a b : Nat) (p q : Bool) (h : W b) : W (csV a b p q) := by
 unfold csV; split
 ·unfold W; decide
 ·exact hiB_W b q h
theorem canon0 : canon 0 = 0 := by decide +kernel
theorem csU_canon (a b : Nat) (p q : Bool) (h : W a) : canon (csU a b p q) = csU a b p q := by
 unfold csU; split
 ·exact canon0
 ·exact loB_canon a p h
theorem csV_canon (a b : Nat) (p q : Bool) (h : W b) : canon (csV a b p q) = csV a b p q := by
 unfold csV; split
 ·exact canon0
 ·exact hiB_canon b q h
theorem csE_true (a b : Nat) (p q : Bool) (h : csE a b p q = true) : csU a b p q = 0 ∧ csV a b p q = 0 := by
 unfold csU csV; rw [if_pos h, if_pos h]; exact ⟨rfl, rfl⟩
theorem csE_false (a b : Nat) (p q : Bool) (h : csE a b p q = false) : csU a b p q = loB a p ∧ csV a b p q = hiB b q ∧ nan a = false ∧ nan b = false ∧ (p = true → a ≠ INF) ∧ code (loB a p) ≤ code (hiB b q) := by
 have hh := h
 unfold csE at hh
 simp only [Bool.or_eq_false_iff, Bool.and_eq_false_iff, decide_eq_false_iff_not] at hh
 obtain ⟨⟨⟨h1, h2⟩, h3⟩, h4⟩ := hh
 unfold csU csV; rw [h]
 refine ⟨rfl, rfl, h1, h2, ?_, by omega⟩
 intro hp; rcases h3 with h3 | h3
 ·rw [hp] at h3; cases h3
 ·exact h3
theorem nan_next (a : Nat) (h : W a) : nan (nextB a) = false := by
 by_cases hi : a = INF
 ·subst hi; decide +kernel
 ·rw [nan_code _ (nextB_form a h).2, code_next a h hi]
  unfold nc; simp only [decide_eq_false_iff_not]; (repeat' split) <;> omega
theorem nan_loB (a : Nat) (p : Bool) (h : W a) (hn : nan a = false) : nan (loB a p) = false := by
 unfold loB; split
 ·exact nan_next a h
 ·rw [nan_canon]; exact hn
theorem cs_form (a b : Nat) (p q : Bool) (ha : W a) (hb : W b) (h : csE a b p q = false) :
    0 < code (csU a b p q) ∧ code (csU a b p q) ≤ code (csV a b p q) ∧ nan (csU a b p q) = false ∧ nan (csV a b p q) = false := by
 obtain ⟨e1, e2, h1, h2, h3, h4⟩ := csE_false a b p q h
 have n1 := nan_loB a p ha h1
 have c1 := code_pos (loB a p) (loB_W a p ha) n1
 rw [e1, e2]
 refine ⟨c1, h4, n1, ?_⟩
 rw [nan_code _ (hiB_W b q hb)]; simp only [decide_eq_false_iff_not]; omega
theorem ord_code (a b : Nat) (ha : W a) (hb : W b) (na : nan a = false) (nb : nan b = false) : (Go.FloatKind.f64.format.order a b == some .eq) = decide (code a = code b) := by
 rcases cmp_cases a b ha hb with ⟨n, _⟩ | ⟨n, _⟩ | ⟨_, n, _⟩ | ⟨_, _, o, e⟩ | ⟨_, _, o, e⟩ | ⟨_, _, o, e⟩
 ·rw [na] at n; cases n
 ·rw [na] at n; cases n
 ·rw [nb] at n; cases n
 all_goals
  rw [o]
  have := cmpc_cases a b
  rw [e] at this
  first
   | (rw [decide_eq_true (by omega)]; rfl)
   | (rw [decide_eq_false (by omega)]; rfl)
theorem code_canon_inj (a b : Nat) (ha : W a) (hb : W b) (ca : canon a = a) (cb : canon b = b) (h : code a = code b) : a = b := by
 rw [← ca, ← cb, ← of_code a ha, ← of_code b hb, h]
end Fl
end Go.Proofs.YthjfkmjeppdcnaaGreat
namespace Go.Proofs.YthjfkmjeppdcnaaGreat
set_option linter.unusedSimpArgs false
open Go.RowKit
theorem Up.keep {W w' : World} (h : Up W w') {p : Addr} {v : Value} (hc : W.cell? p = some v) : w'.cell? p = some v := by
 rw [Below.cell (p := p) h.toBelow (World.block_lt_of_cell? W p hc)]; exact hc
theorem Up.keepF {W w' : World} (h : Up W w') {p : Addr} {v : Value} (hc : W.cell? p = some v) (hf : W.frozen? p = false) : w'.frozen? p = false := by
 rw [Below.frozen (p := p) h.toBelow (World.block_lt_of_cell? W p hc)]; exact hf
abbrev SpAt (n a b : Nat) (p q : Bool) (w : World) : Prop :=
 w.cell? ⟨n, 0, none⟩ = some (.float .f64 a) ∧ w.cell? ⟨n, 1, none⟩ = some (.float .f64 b) ∧ w.cell? ⟨n, 2, none⟩ = some (.bool p) ∧ w.cell? ⟨n, 3, none⟩ = some (.bool q)
abbrev FrAt (n : Nat) (w : World) : Prop :=
 w.frozen? ⟨n, 0, none⟩ = false ∧ w.frozen? ⟨n, 1, none⟩ = false ∧ w.frozen? ⟨n, 2, none⟩ = false ∧ w.frozen? ⟨n, 3, none⟩ = false
theorem SpAt.up {n a b : Nat} {p q : Bool} {W w' : World} (h : Up W w') (s : SpAt n a b p q W) : SpAt n a b p q w' := ⟨h.keep s.1, h.keep s.2.1, h.keep s.2.2.1, h.keep s.2.2.2⟩
theorem SpAt.frUp {n a b : Nat} {p q : Bool} {W w' : World} (h : Up W w') (s : SpAt n a b p q W) (f : FrAt n W) : FrAt n w' := ⟨h.keepF s.1 f.1, h.keepF s.2.1 f.2.1, h.keepF s.2.2.1 f.2.2.1, h.keepF s.2.2.2 f.2.2.2⟩
abbrev S2 (n a b : Nat) (p q : Bool) (m c d : Nat) (r s : Bool) (w : World) : Prop := SpAt n a b p q w ∧ SpAt m c d r s w ∧ FrAt m w
theorem S2.up {n a b : Nat} {p q : Bool} {m c d : Nat} {r s : Bool} {W w' : World} (h : Up W w') (k : S2 n a b p q m c d r s W) : S2 n a b p q m c d r s w' := ⟨SpAt.up h k.1, SpAt.up h k.2.1, SpAt.frUp h k.2.1 k.2.2⟩
theorem run_equalIn_float {P : Program} (w : World) (d : Nat) (t : TypeId) (a b : Nat) (h : P.underlying t = some (.float .f64)) : (Op.equalIn (d + 1) t (.float .f64 a) (.float .f64 b)).run P w = .ok (FloatKind.f64.format.order a b == some .eq) w := by
 simp [Op.equalIn, run_underlying h, Op.floatEq]
theorem eqF (w : World) (d a b : Nat) : (Op.equalIn (d + 1) 29 (.float .f64 a) (.float .f64 b)).run Tryz.prog w = .ok (FloatKind.f64.format.order a b == some .eq) w := run_equalIn_float w d _ a b Tryz.underlying29
attribute [local go_sem] run_bits run_frombits run_store_float eqF
set_option maxHeartbeats 1000000 in
set_option maxRecDepth 20000 in
theorem canonS_none (a b : Nat) (ha : Fl.W a) (hb : Fl.W b) (p q : Bool) (h : (Fl.nan a || Fl.nan b) = true ∨ (Fl.nan a = false ∧ Fl.nan b = false ∧ p = true ∧ a = Fl.INF)) (w : World) :
    Calls Tryz.prog 90 #[.agg #[.float .f64 a, .float .f64 b, .bool p, .bool q]] w fun e w' => e = .returned (.agg #[.float .f64 0, .float .f64 0, .bool true, .bool true]) ∧ Up w w' := by
 have HR := fun w => right_any a b ha hb p q w
 rcases h with h | ⟨h1, h2, rfl, h4⟩
 ·have e : (!Fl.nan a && !Fl.nan b) = false := by revert h; cases Fl.nan a <;> cases Fl.nan b <;> decide
  rw [e] at HR
  have H : Hid _ := HR
  clear HR e h
  go_enter Tryz.func90, Tryz.ntmps90
  go_wp2_with (first | (go_at_call 61; refine (H.out _).mono ?_; rintro e w1 ⟨rfl, hb1⟩; have s1 : S2 w.heap.size a b p q (w.heap.size + 1) 0 0 false false w1 := S2.up hb1 (by simp [S2, SpAt, FrAt])) | (go_at_call 91; refine (none_any _).mono ?_; rintro e w2 ⟨rfl, hb2⟩; have s2 : S2 w.heap.size a b p q (w.heap.size + 1) 0 0 false false w2 := S2.up hb2 (by assumption)))
  exact bodyPost_ret (v := .agg #[.float .f64 0, .float .f64 0, .bool true, .bool true]) (by simp [results, Tryz.results90, go_sem, s2]) rfl ⟨rfl, (by repeat (first | exact Up.refl _ | assumption | refine Up.drew ?_ | refine Up.drewN ?_ _ | refine Up.alloc ?_ _ | refine Up.setCell ?_ ?_ _ | exact Nat.le_refl _ | exact Nat.le_add_right _ _ | (dsimp only; omega) | refine Up.trans ?_ ‹Up _ _›))⟩
 ·have e : (!Fl.nan a && !Fl.nan b) = true := by rw [h1, h2]; rfl
  rw [e] at HR
  have H : Hid _ := HR
  have i1 : decide (a = Fl.INF) = true := by simpa using h4
  clear HR e h1 h2 h4
  go_enter Tryz.func90, Tryz.ntmps90
  go_wp2_with (first | (go_at_call 61; refine (H.out _).mono ?_; rintro e w1 ⟨rfl, hb1⟩; have s1 : S2 w.heap.size a b true q (w.heap.size + 1) 0 0 false false w1 := S2.up hb1 (by simp [S2, SpAt, FrAt])) | (go_at_call 124; refine (isInf_pos _ ‹Fl.W a› _).mono ?_; rintro e w' ⟨rfl, rfl⟩) | (go_at_call 91; refine (none_any _).mono ?_; rintro e w2 ⟨rfl, hb2⟩; have s2 : S2 w.heap.size a b true q (w.heap.size + 1) 0 0 false false w2 := S2.up hb2 (by assumption)))
  exact bodyPost_ret (v := .agg #[.float .f64 0, .float .f64 0, .bool true, .bool true]) (by simp [results, Tryz.results90, go_sem, s2]) rfl ⟨rfl, (by repeat (first | exact Up.refl _ | assumption | refine Up.drew ?_ | refine Up.drewN ?_ _ | refine Up.alloc ?_ _ | refine Up.setCell ?_ ?_ _ | exact Nat.le_refl _ | exact Nat.le_add_right _ _ | (dsimp only; omega) | refine Up.trans ?_ ‹Up _ _›))⟩
set_option maxHeartbeats 1000000 in
set_option maxRecDepth 20000 in
theorem canonS_go (a b : Nat) (ha : Fl.W a) (hb : Fl.W b) (p q : Bool) (na : Fl.nan a = false) (nb : Fl.nan b = false) (hi : p = true → a ≠ Fl.INF) (u v : Nat) (s : Bool)
    (HC : Hid (∀ w, Calls Tryz.prog 125 #[.float .f64 (Fl.loB a p), .float .f64 (Fl.hiB b q)] w fun e w' => e = .returned (.agg #[.float .f64 u, .float .f64 v, .bool s, .bool s]) ∧ Up w w')) (w : World) :
    Calls Tryz.prog 90 #[.agg #[.float .f64 a, .float .f64 b, .bool p, .bool q]] w fun e w' => e = .returned (.agg #[.float .f64 u, .float .f64 v, .bool s, .bool s]) ∧ Up w w' := by
 have HF : Hid (∀ w, Calls Tryz.prog 126 #[.agg #[.float .f64 a, .float .f64 b, .bool p, .bool q]] w fun e w' => e = .returned (.float .f64 (Fl.loB a p)) ∧ Up w w') := fun w => first_any a b ha p q w
 have HL : Hid (∀ w, Calls Tryz.prog 127 #[.agg #[.float .f64 a, .float .f64 b, .bool p, .bool q]] w fun e w' => e = .returned (.float .f64 (Fl.hiB b q)) ∧ Up w w') := fun w => last_any a b hb p q w
 have HR0 := fun w => right_any a b ha hb p q w
 rw [show (!Fl.nan a && !Fl.nan b) = true by rw [na, nb]; rfl] at HR0
 have HR : Hid _ := HR0
 clear HR0 na nb
 generalize Fl.loB a p = x at *
 generalize Fl.hiB b q = y at *
 cases p
 ·clear hi
  go_enter Tryz.func90, Tryz.ntmps90
  go_wp2_with (first | (go_at_call 61; refine (HR.out _).mono ?_; rintro e w1 ⟨rfl, hb1⟩; have s1 : S2 w.heap.size a b false q (w.heap.size + 1) 0 0 false false w1 := S2.up hb1 (by simp [S2, SpAt, FrAt])) | (go_at_call 124; refine (isInf_pos _ ‹Fl.W a› _).mono ?_; rintro e w' ⟨rfl, rfl⟩))
  go_region_held3 (SpAt w.heap.size a b false q) (first | (apply SpAt.up; (first | assumption | exact Up.drew (Up.refl _)); assumption) | (simp [SpAt, *, World.cell?_setCell_far])) (first | (go_at_call 126; refine (HF.out _).mono ?_; rintro e w2 ⟨rfl, hb2⟩; have s2 : S2 w.heap.size a b false q (w.heap.size + 1) 0 0 false false w2 := (by apply S2.up; assumption; first | assumption | (apply S2.up; exact Up.drew (Up.refl _); assumption))) | (go_at_call 127; refine (HL.out _).mono ?_; rintro e w3 ⟨rfl, hb3⟩; have s3 : S2 w.heap.size a b false q (w.heap.size + 1) 0 0 false false w3 := (by apply S2.up; assumption; first | assumption | (apply S2.up; exact Up.drew (Up.refl _); assumption))) | (go_at_call 125; refine (HC.out _).mono ?_; rintro e w4 ⟨rfl, hb4⟩; have s4 : S2 w.heap.size a b false q (w.heap.size + 1) 0 0 false false w4 := (by apply S2.up; assumption; first | assumption | (apply S2.up; exact Up.drew (Up.refl _); assumption))))
  go_wp2
  exact bodyPost_ret (v := .agg #[.float .f64 u, .float .f64 v, .bool s, .bool s]) (by simp [results, Tryz.results90, go_sem, s4]) rfl ⟨rfl, (by repeat (first | exact Up.refl _ | assumption | refine Up.drew ?_ | refine Up.drewN ?_ _ | refine Up.alloc ?_ _ | refine Up.setCell ?_ ?_ _ | exact Nat.le_refl _ | exact Nat.le_add_right _ _ | (dsimp only; omega) | refine Up.trans ?_ ‹Up _ _›))⟩
 ·have i1 : decide (a = Fl.INF) = false := by simpa using hi rfl
  clear hi
  go_enter Tryz.func90, Tryz.ntmps90
  go_wp2_with (first | (go_at_call 61; refine (HR.out _).mono ?_; rintro e w1 ⟨rfl, hb1⟩; have s1 : S2 w.heap.size a b true q (w.heap.size + 1) 0 0 false false w1 := S2.up hb1 (by simp [S2, SpAt, FrAt])) | (go_at_call 124; refine (isInf_pos _ ‹Fl.W a› _).mono ?_; rintro e w' ⟨rfl, rfl⟩))
  go_region_held3 (SpAt w.heap.size a b true q) (first | (apply SpAt.up; (first | assumption | exact Up.drew (Up.refl _)); assumption) | (simp [SpAt, *, World.cell?_setCell_far])) (first | (go_at_call 126; refine (HF.out _).mono ?_; rintro e w2 ⟨rfl, hb2⟩; have s2 : S2 w.heap.size a b true q (w.heap.size + 1) 0 0 false false w2 := (by apply S2.up; assumption; first | assumption | (apply S2.up; exact Up.drew (Up.refl _); assumption))) | (go_at_call 127; refine (HL.out _).mono ?_; rintro e w3 ⟨rfl, hb3⟩; have s3 : S2 w.heap.size a b true q (w.heap.size + 1) 0 0 false false w3 := (by apply S2.up; assumption; first | assumption | (apply S2.up; exact Up.drew (Up.refl _); assumption))) | (go_at_call 125; refine (HC.out _).mono ?_; rintro e w4 ⟨rfl, hb4⟩; have s4 : S2 w.heap.size a b true q (w.heap.size + 1) 0 0 false false w4 := (by apply S2.up; assumption; first | assumption | (apply S2.up; exact Up.drew (Up.refl _); assumption))))
  go_wp2
  exact bodyPost_ret (v := .agg #[.float .f64 u, .float .f64 v, .bool s, .bool s]) (by simp [results, Tryz.results90, go_sem, s4]) rfl ⟨rfl, (by repeat (first | exact Up.refl _ | assumption | refine Up.drew ?_ | refine Up.drewN ?_ _ | refine Up.alloc ?_ _ | refine Up.setCell ?_ ?_ _ | exact Nat.le_refl _ | exact Nat.le_add_right _ _ | (dsimp only; omega) | refine Up.trans ?_ ‹Up _ _›))⟩
theorem canonS_any (a b : Nat) (ha : Fl.W a) (hb : Fl.W b) (p q : Bool) (w : World) :
    Calls Tryz.prog 90 #[.agg #[.float .f64 a, .float .f64 b, .bool p, .bool q]] w fun e w' => e = .returned (.agg #[.float .f64 (Fl.csU a b p q), .float .f64 (Fl.csV a b p q), .bool (Fl.csE a b p q), .bool (Fl.csE a b p q)]) ∧ Up w w' := by
 by_cases h : Fl.csE a b p q = true
 ·have e := Fl.csE_true a b p q h
  rw [e.1, e.2, h]
  by_cases h1 : (Fl.nan a || Fl.nan b) = true
  ·exact canonS_none a b ha hb p q (.inl h1) w
  ·have h1' : (Fl.nan a || Fl.nan b) = false := by simpa using h1
   obtain ⟨na, nb⟩ := Bool.or_eq_false_iff.1 h1'
   by_cases h2 : p = true ∧ a = Fl.INF
   ·exact canonS_none a b ha hb p q (.inr ⟨na, nb, h2.1, h2.2⟩) w
   ·refine canonS_go a b ha hb p q na nb (fun hp hi => h2 ⟨hp, hi⟩) 0 0 true (fun w => closed_none _ _ (Fl.loB_W a p ha) (Fl.hiB_W b q hb) ?_ w) w
    unfold Fl.csE at h; rw [na, nb] at h
    simp only [Bool.false_or, Bool.or_eq_true, Bool.and_eq_true, decide_eq_true_eq] at h
    rcases h with h | h
    ·exact absurd h h2
    ·exact h
 ·have h' : Fl.csE a b p q = false := by simpa using h
  obtain ⟨e1, e2, na, nb, hi, hle⟩ := Fl.csE_false a b p q h'
  rw [e1, e2, h']
  exact canonS_go a b ha hb p q na nb hi _ _ false (fun w => closed_some _ _ (Fl.loB_W a p ha) (Fl.hiB_W b q hb) hle w) w
end Go.Proofs.YthjfkmjeppdcnaaGreat
namespace Go.Proofs.YthjfkmjeppdcnaaGreat
set_option linter.unusedSimpArgs false
open Go.RowKit
set_option linter.unusedVariables false
theorem Up.setCells {a : World} {b : Nat} (hb : a.heap.size ≤ b) : ∀ (vs : List Value) (o : Nat) {w : World}, Up a w → Up a (w.setCells b o vs)
 | [], _, _, h => h
 | v :: r, o, _, h => by rw [World.setCells]; exact Up.setCells hb r (o + 1) (h.setCell hb v)
abbrev spanRow (a b : Nat) (p q : Bool) : List Value := [.float .f64 a, .float .f64 b, .bool p, .bool q]
theorem SpAt.some {m a b : Nat} {p q : Bool} {w : World} (h : SpAt m a b p q w) : ∀ j, j < 4 → (w.cell? ⟨m, 0 + j, none⟩).isSome = true := by
 intro j hj
 rw [Nat.zero_add]
 match j, hj with
 | 0, _ => rw [h.1]; rfl
 | 1, _ => rw [h.2.1]; rfl
 | 2, _ => rw [h.2.2.1]; rfl
 | 3, _ => rw [h.2.2.2]; rfl
theorem SpAt.stored {m a b : Nat} {p q : Bool} {w : World} (h : SpAt m a b p q w) (x y : Nat) (r s : Bool) : SpAt m x y r s (w.setCells m 0 (spanRow x y r s)) := by
 have H := World.cell?_setCells_in m (spanRow x y r s) 0 w h.some
 exact ⟨by simpa using H 0 (by simp), by simpa using H 1 (by simp), by simpa using H 2 (by simp), by simpa using H 3 (by simp)⟩
theorem SpAt.far {m n a b : Nat} {p q : Bool} {w : World} (h : SpAt n a b p q w) (hn : n ≠ m) (vs : List Value) (o : Nat) : SpAt n a b p q (w.setCells m o vs) := by
 have H : ∀ k, (w.setCells m o vs).cell? ⟨n, k, none⟩ = w.cell? ⟨n, k, none⟩ := fun k => World.cell?_setCells_out m vs o w ⟨n, k, none⟩ (fun e => absurd e hn)
 exact ⟨by rw [H]; exact h.1, by rw [H]; exact h.2.1, by rw [H]; exact h.2.2.1, by rw [H]; exact h.2.2.2⟩
theorem FrAt.set {m n o : Nat} {w : World} (h : FrAt n w) (vs : List Value) : FrAt n (w.setCells m o vs) := by
 simp only [FrAt, World.frozen?_setCells]; exact h
theorem SpAt.there {m a b : Nat} {p q : Bool} {w : World} (h : SpAt m a b p q w) (f : FrAt m w) : w.there m 0 4 := by
 intro j hj
 refine ⟨h.some j hj, ?_⟩
 rw [Nat.zero_add]
 match j, hj with
 | 0, _ => exact f.1
 | 1, _ => exact f.2.1
 | 2, _ => exact f.2.2.1
 | 3, _ => exact f.2.2.2
theorem infoSpan : (Tryz.prog.info? 93).map (·.size) = some 4 := by kernel_rfl
theorem stepCall1 {P : Program} {ops : Array Oper} {o : Oper} {a : Act} {w : World} {K : Act → World → Prop} {Q : Exit → Act → World → Prop} {E : Prop} (hg : o.guard = none) (F : FuncId) (x : Operand) (ts : Array TypeId)
    (hop : o.op = Op.call { callee := Callee.value (Operand.func F), args := #[x], argTypes := ts }) (v : Value) (hx : a.eval x = v) (hF : a.eval (Operand.func F) = .func (.func F) #[] #[])
    (henter : (callFunc F #[v]).run P w = .ok (.enter F #[v]) w)
    (hc : Calls P F #[v] w fun e w' => ∃ r, e = .returned r ∧ K (a.put o.dst r) w') :
    if Region.wanted o (yielded ops a.tmps) = true then Oper.wp P o a w K Q else E := by
 have hw : Region.wanted o (yielded ops a.tmps) = true := by simp [Region.wanted, hg]
 rw [if_pos hw]
 unfold Oper.wp
 simp [execOp, hop, resolve, invoke, hx, hF, Deferred.ofValue]
 rw [henter]
 refine hc.mono ?_
 rintro e w' ⟨r, rfl, hk⟩
 exact hk
theorem stepAlloc {ops : Array Oper} {o : Oper} {a : Act} {w : World} {K : Act → World → Prop} {Q : Exit → Act → World → Prop} {E : Prop} (hg : o.guard = none) (hop : o.op = Op.alloc 93)
    (hK : ∀ m w', m = w.heap.size → w' = w.alloc (.cells #[.float .f64 0, .float .f64 0, .bool false, .bool false] 93) → K (a.put o.dst (.pointer (some ⟨m, 0, none⟩))) w') :
    if Region.wanted o (yielded ops a.tmps) = true then Oper.wp Tryz.prog o a w K Q else E := by
 have hw : Region.wanted o (yielded ops a.tmps) = true := by simp [Region.wanted, hg]
 rw [if_pos hw]
 obtain ⟨d, p, t, ps, af, gd⟩ := o
 subst hop
 go_simp
 exact hK _ _ rfl rfl
theorem stepStore {ops : Array Oper} {o : Oper} {a : Act} {w : World} {K : Act → World → Prop} {Q : Exit → Act → World → Prop} {E : Prop} (hg : o.guard = none) (x y : Operand) (hop : o.op = Op.store 93 x y) (m u v : Nat) (r s : Bool)
    (hx : a.eval x = .pointer (some ⟨m, 0, none⟩)) (hy : a.eval y = .agg #[.float .f64 u, .float .f64 v, .bool r, .bool s]) (ht : w.there m 0 4)
    (hK : K (a.put o.dst undef) (w.setCells m 0 (spanRow u v r s))) :
    if Region.wanted o (yielded ops a.tmps) = true then Oper.wp Tryz.prog o a w K Q else E := by
 have hw : Region.wanted o (yielded ops a.tmps) = true := by simp [Region.wanted, hg]
 rw [if_pos hw]
 exact wp_store_mid _ x y hop m 0 _ hx hy ht infoSpan (by simp [Value.oneCell']) hK
def J2 (w0 : World) (f g : Option Nat) (w : World) : Prop := Up w0 w ∧ (∀ m, f = some m → w0.heap.size ≤ m ∧ SpAt m 0 0 false false w ∧ FrAt m w) ∧ (∀ m, g = some m → w0.heap.size ≤ m ∧ SpAt m 0 0 false false w ∧ FrAt m w) ∧ (∀ m n, f = some m → g = some n → n ≠ m)
theorem J2.start (w0 : World) : J2 w0 none none w0.drew := ⟨(Up.refl _).drew, fun _ h => (by cases h), fun _ h => (by cases h), fun _ _ h => (by cases h)⟩
theorem J2.up {w0 : World} {f g : Option Nat} {w w' : World} (j : J2 w0 f g w) (u : Up w w') : J2 w0 f g w' :=
 ⟨j.1.trans u, fun m h => ⟨(j.2.1 m h).1, SpAt.up u (j.2.1 m h).2.1, SpAt.frUp u (j.2.1 m h).2.1 (j.2.1 m h).2.2⟩, fun m h => ⟨(j.2.2.1 m h).1, SpAt.up u (j.2.2.1 m h).2.1, SpAt.frUp u (j.2.2.1 m h).2.1 (j.2.2.1 m h).2.2⟩, j.2.2.2⟩
theorem newSpan (w : World) : SpAt w.heap.size 0 0 false false (w.alloc (.cells #[.float .f64 0, .float .f64 0, .bool false, .bool false] 93)) ∧ FrAt w.heap.size (w.alloc (.cells #[.float .f64 0, .float .f64 0, .bool false, .bool false] 93)) := by simp [SpAt, FrAt]
theorem J2.newF {w0 : World} {g : Option Nat} {w : World} (j : J2 w0 none g w) : J2 w0 (some w.heap.size) g (w.alloc (.cells #[.float .f64 0, .float .f64 0, .bool false, .bool false] 93)) := by
 have k := j.up ((Up.refl w).alloc (.cells #[.float .f64 0, .float .f64 0, .bool false, .bool false] 93))
 refine ⟨k.1, ?_, k.2.2.1, ?_⟩
 ·rintro m h; cases h; exact ⟨j.1.size, newSpan w⟩
 ·rintro m n h h' e; cases h; subst e; exact absurd (World.block_lt_of_cell? w _ (j.2.2.1 _ h').2.1.1) (Nat.lt_irrefl _)
theorem J2.newG {w0 : World} {f : Option Nat} {w : World} (j : J2 w0 f none w) : J2 w0 f (some w.heap.size) (w.alloc (.cells #[.float .f64 0, .float .f64 0, .bool false, .bool false] 93)) := by
 have k := j.up ((Up.refl w).alloc (.cells #[.float .f64 0, .float .f64 0, .bool false, .bool false] 93))
 refine ⟨k.1, k.2.1, ?_, ?_⟩
 ·rintro m h; cases h; exact ⟨j.1.size, newSpan w⟩
 ·rintro m n h h' e; cases h'; subst e; exact absurd (World.block_lt_of_cell? w _ (j.2.1 _ h).2.1.1) (Nat.lt_irrefl _)
theorem J2.nF {w0 : World} {g : Option Nat} {w w' : World} {m : Nat} (j : J2 w0 none g w) (hm : m = w.heap.size) (hw : w' = w.alloc (.cells #[.float .f64 0, .float .f64 0, .bool false, .bool false] 93)) : J2 w0 (some m) g w' := by subst hm hw; exact j.newF
theorem J2.nG {w0 : World} {f : Option Nat} {w w' : World} {m : Nat} (j : J2 w0 f none w) (hm : m = w.heap.size) (hw : w' = w.alloc (.cells #[.float .f64 0, .float .f64 0, .bool false, .bool false] 93)) : J2 w0 f (some m) w' := by subst hm hw; exact j.newG
theorem J2.thereF {w0 : World} {m : Nat} {g : Option Nat} {w : World} (j : J2 w0 (some m) g w) : w.there m 0 4 := (j.2.1 m rfl).2.1.there (j.2.1 m rfl).2.2
theorem J2.upF {w0 : World} {m : Nat} {g : Option Nat} {w : World} (j : J2 w0 (some m) g w) (vs : List Value) : Up w0 (w.setCells m 0 vs) := Up.setCells (j.2.1 m rfl).1 _ _ j.1
theorem J2.thereG {w0 : World} {m n : Nat} {w : World} (j : J2 w0 (some m) (some n) w) (vs : List Value) : (w.setCells m 0 vs).there n 0 4 := ((j.2.2.1 n rfl).2.1.far (j.2.2.2 m n rfl rfl) vs 0).there ((j.2.2.1 n rfl).2.2.set vs)
theorem J2.fin {w0 : World} {m n : Nat} {w : World} (j : J2 w0 (some m) (some n) w) (a b c d : Nat) (p q r s : Bool) :
    SpAt m a b p q ((w.setCells m 0 (spanRow a b p q)).setCells n 0 (spanRow c d r s)) ∧ SpAt n c d r s ((w.setCells m 0 (spanRow a b p q)).setCells n 0 (spanRow c d r s)) ∧ Up w0 ((w.setCells m 0 (spanRow a b p q)).setCells n 0 (spanRow c d r s)) :=
 ⟨((j.2.1 m rfl).2.1.stored a b p q).far (fun e => j.2.2.2 m n rfl rfl e.symm) _ _, ((j.2.2.1 n rfl).2.1.far (j.2.2.2 m n rfl rfl) _ _).stored c d r s, Up.setCells (j.2.2.1 n rfl).1 _ _ (j.upF _)⟩
abbrev A3 (w0 : World) (n a b : Nat) (p q : Bool) (m c d : Nat) (r s : Bool) (k : Nat) (w : World) : Prop := (SpAt n a b p q w ∧ SpAt m c d r s w) ∧ (SpAt k 0 0 false false w ∧ FrAt k w) ∧ Up w0 w
theorem A3.up {w0 : World} {n a b : Nat} {p q : Bool} {m c d : Nat} {r s : Bool} {k : Nat} {w' : World} (h : A3 w0 n a b p q m c d r s k w0) (u : Up w0 w') : A3 w0 n a b p q m c d r s k w' := ⟨⟨SpAt.up u h.1.1, SpAt.up u h.1.2⟩, ⟨SpAt.up u h.2.1.1, SpAt.frUp u h.2.1.1 h.2.1.2⟩, u⟩
theorem enter_canonS (args : Array Value) (w : World) : (callFunc 90 args).run Tryz.prog w = .ok (.enter 90 args) w := by kernel_rfl
abbrev R2 (m u v : Nat) (w : World) : Prop := w.cell? ⟨m, 0, none⟩ = some (.float .f64 u) ∧ w.cell? ⟨m, 1, none⟩ = some (.float .f64 v)
theorem R2.up {m u v : Nat} {w w' : World} (h : R2 m u v w) (b : Up w w') : R2 m u v w' := ⟨b.keep h.1, b.keep h.2⟩
theorem R2.new {m u v : Nat} {w w' : World} (hm : m = w.heap.size) (hw : w' = w.alloc (.cells #[.float .f64 u, .float .f64 v] 29)) : R2 m u v w' ∧ Up w w' := by subst hm hw; exact ⟨by simp [R2], (Up.refl _).alloc _⟩
theorem stepBuild2 {ops : Array Oper} {o : Oper} {a : Act} {w : World} {K : Act → World → Prop} {Q : Exit → Act → World → Prop} {E : Prop} (hg : o.guard = none) (x y : Operand) (hop : o.op = Op.buildSlice 30 2 #[(0, x), (1, y)]) (u v : Nat)
    (hx : a.eval x = .float .f64 u) (hy : a.eval y = .float .f64 v)
    (hK : ∀ m w', m = w.heap.size → w' = w.alloc (.cells #[.float .f64 u, .float .f64 v] 29) → K (a.put o.dst (.slice (some ⟨m, 0, none⟩) 2 2)) w') :
    if Region.wanted o (yielded ops a.tmps) = true then Oper.wp Tryz.prog o a w K Q else E := by
 have hw : Region.wanted o (yielded ops a.tmps) = true := by simp [Region.wanted, hg]
 rw [if_pos hw]
 obtain ⟨d, p, t, ps, af, gd⟩ := o
 subst hop
 unfold Oper.wp execOp
 simp only [List.map_toArray, List.map_cons, List.map_nil, hx, hy]
 go_simp
 exact hK _ _ rfl rfl
theorem stepCall2 {P : Program} {ops : Array Oper} {o : Oper} {a : Act} {w : World} {K : Act → World → Prop} {Q : Exit → Act → World → Prop} {E : Prop} (hg : o.guard = none) (F : FuncId) (x y : Operand) (ts : Array TypeId)
    (hop : o.op = Op.call { callee := Callee.value (Operand.func F), args := #[x, y], argTypes := ts }) (u v : Value) (hx : a.eval x = u) (hy : a.eval y = v) (hF : a.eval (Operand.func F) = .func (.func F) #[] #[])
    (henter : (callFunc F #[u, v]).run P w = .ok (.enter F #[u, v]) w)
    (hc : Calls P F #[u, v] w fun e w' => ∃ r, e = .returned r ∧ K (a.put o.dst r) w') :
    if Region.wanted o (yielded ops a.tmps) = true then Oper.wp P o a w K Q else E := by
 have hw : Region.wanted o (yielded ops a.tmps) = true := by simp [Region.wanted, hg]
 rw [if_pos hw]
 unfold Oper.wp
 simp [execOp, hop, resolve, invoke, hx, hy, hF, Deferred.ofValue]
 rw [henter]
 refine hc.mono ?_
 rintro e w' ⟨r, rfl, hk⟩
 exact hk
set_option maxHeartbeats 400000 in
set_option maxRecDepth 20000 in
theorem enter_most (args : Array Value) (w : World) : (callFunc 88 args).run Tryz.prog w = .ok (.enter 88 args) w := by kernel_rfl
set_option maxHeartbeats 400000 in
set_option maxRecDepth 20000 in
theorem enter_closed (args : Array Value) (w : World) : (callFunc 125 args).run Tryz.prog w = .ok (.enter 125 args) w := by kernel_rfl
end Go.Proofs.YthjfkmjeppdcnaaGreat
namespace Go.Proofs.YthjfkmjeppdcnaaGreat
set_option linter.unusedSimpArgs false
open Go.RowKit
namespace Fl
def hasF (u v : Nat) (e : Bool) (k : Nat) : Bool := !e && decide (code u ≤ code k) && decide (code k ≤ code v)
end Fl
abbrev S1 (m c d : Nat) (r s : Bool) (w : World) : Prop := SpAt m c d r s w ∧ FrAt m w
theorem S1.up {m c d : Nat} {r s : Bool} {W w' : World} (h : Up W w') (k : S1 m c d r s W) : S1 m c d r s w' := ⟨SpAt.up h k.1, SpAt.frUp h k.1 k.2⟩
attribute [local go_sem] run_bits run_frombits run_store_float eqF
set_option maxHeartbeats 400000 in
set_option maxRecDepth 20000 in
theorem empty_any (a b : Nat) (ha : Fl.W a) (hb : Fl.W b) (p q : Bool) (w : World) :
    Calls Tryz.prog 62 #[.agg #[.float .f64 a, .float .f64 b, .bool p, .bool q]] w fun e w' => e = .returned (.bool (Fl.csE a b p q)) ∧ Up w w' := by
 have HC := fun w => canonS_any a b ha hb p q w
 cases h : Fl.csE a b p q
 ·rw [h] at HC
  have H : Hid _ := HC
  clear HC h
  go_enter Tryz.func62, Tryz.ntmps62
  go_wp2_with (first | (go_at_call 90; refine (H.out _).mono ?_; rintro e w1 ⟨rfl, hb1⟩) | (go_at_call 91; refine (none_any _).mono ?_; rintro e w2 ⟨rfl, hb2⟩))
  go_ret
  exact ⟨rfl, (by repeat (first | exact Up.refl _ | assumption | refine Up.drew ?_ | refine Up.drewN ?_ _ | refine Up.alloc ?_ _ | refine Up.setCell ?_ ?_ _ | exact Nat.le_refl _ | exact Nat.le_add_right _ _ | (dsimp only; omega) | refine Up.trans ?_ ‹Up _ _›))⟩
 ·have e := Fl.csE_true a b p q h
  have o0 : FloatKind.f64.format.order 0 0 = some .eq := by decide +kernel
  rw [h, e.1, e.2] at HC
  have H : Hid _ := HC
  clear HC h e
  go_enter Tryz.func62, Tryz.ntmps62
  go_wp2_with (first | (go_at_call 90; refine (H.out _).mono ?_; rintro e w1 ⟨rfl, hb1⟩) | (go_at_call 91; refine (none_any _).mono ?_; rintro e w2 ⟨rfl, hb2⟩))
  go_ret
  exact ⟨rfl, (by repeat (first | exact Up.refl _ | assumption | refine Up.drew ?_ | refine Up.drewN ?_ _ | refine Up.alloc ?_ _ | refine Up.setCell ?_ ?_ _ | exact Nat.le_refl _ | exact Nat.le_add_right _ _ | (dsimp only; omega) | refine Up.trans ?_ ‹Up _ _›))⟩
set_option maxHeartbeats 1000000 in
set_option maxRecDepth 20000 in
theorem gap_any (a b c d : Nat) (hb : Fl.W b) (hc : Fl.W c) (p q r s : Bool) (w : World) :
    Calls Tryz.prog 87 #[.agg #[.float .f64 a, .float .f64 b, .bool p, .bool q], .agg #[.float .f64 c, .float .f64 d, .bool r, .bool s]] w fun e w' => e = .returned (.bool (decide (Fl.code (Fl.nextB b) < Fl.code c))) ∧ Up w w' := by
 have hn : Fl.W (Fl.nextB b) := (Fl.nextB_form b hb).2
 have c1 := Fl.cmpc_cases (Fl.nextB b) c
 have e : decide (Fl.code (Fl.nextB b) < Fl.code c) = decide (Fl.cmpc (Fl.nextB b) c < 0) := by rw [decide_eq_decide]; omega
 rw [e]; clear e c1
 go_enter Tryz.func87, Tryz.ntmps87
 go_wp2
 go_region_held3 (fun wx => SpAt w.heap.size a b p q wx ∧ SpAt (w.heap.size + 1) c d r s wx) (simp [SpAt]) (first | (go_at_call 122; refine (next_any b ‹Fl.W b› _).mono ?_; rintro e w3 ⟨rfl, rfl⟩) | (go_at_call 83; refine (cmp_any (Fl.nextB b) c ‹Fl.W (Fl.nextB b)› ‹Fl.W c› _).mono ?_; rintro e w4 ⟨rfl, rfl⟩))
 go_wp2
 go_ret
 exact ⟨rfl, (by repeat (first | exact Up.refl _ | assumption | refine Up.drew ?_ | refine Up.drewN ?_ _ | refine Up.alloc ?_ _ | refine Up.setCell ?_ ?_ _ | exact Nat.le_refl _ | exact Nat.le_add_right _ _ | (dsimp only; omega) | refine Up.trans ?_ ‹Up _ _›))⟩
end Go.Proofs.YthjfkmjeppdcnaaGreat
namespace Go.Proofs.YthjfkmjeppdcnaaGreat
set_option linter.unusedSimpArgs false
open Go.RowKit
namespace Fl
def IsForm (u v : Nat) (e : Bool) : Prop := W u ∧ W v ∧ (e = true → u = 0 ∧ v = 0) ∧ (e = false → canon u = u ∧ canon v = v ∧ nan u = false ∧ nan v = false ∧ code u ≤ code v)
theorem cs_isForm (a b : Nat) (p q : Bool) (ha : W a) (hb : W b) : IsForm (csU a b p q) (csV a b p q) (csE a b p q) := by
 refine ⟨csU_W a b p q ha, csV_W a b p q hb, csE_true a b p q, fun h => ?_⟩
 have := cs_form a b p q ha hb h
 exact ⟨csU_canon a b p q ha, csV_canon a b p q hb, this.2.2.1, this.2.2.2, this.2.1⟩
theorem cs_of_form (u v : Nat) (e : Bool) (h : IsForm u v e) : csU u v e e = u ∧ csV u v e e = v ∧ csE u v e e = e := by
 obtain ⟨_, _, h1, h2⟩ := h
 cases e
 ·obtain ⟨c1, c2, n1, n2, l⟩ := h2 rfl
  have e0 : csE u v false false = false := by
   unfold csE loB hiB; rw [n1, n2]; simp only [Bool.false_eq_true, if_false, Bool.false_and, Bool.or_false, Bool.false_or, decide_eq_false_iff_not]
   rw [c1, c2]; omega
  unfold csU csV; rw [e0]; unfold loB hiB
  simp only [Bool.false_eq_true, if_false]
  exact ⟨c1, c2, trivial⟩
 ·obtain ⟨rfl, rfl⟩ := h1 rfl
  decide +kernel
end Fl
attribute [local go_sem] run_bits run_frombits run_store_float eqF
set_option maxHeartbeats 400000 in
set_option maxRecDepth 20000 in
theorem empty_form (u v : Nat) (e : Bool) (h : Fl.IsForm u v e) (w : World) :
    Calls Tryz.prog 62 #[.agg #[.float .f64 u, .float .f64 v, .bool e, .bool e]] w fun e' w' => e' = .returned (.bool e) ∧ Up w w' := by
 have H := empty_any u v h.1 h.2.1 e e w
 obtain ⟨_, _, e3⟩ := Fl.cs_of_form u v e h
 rw [e3] at H; exact H
set_option maxHeartbeats 400000 in
set_option maxRecDepth 20000 in
theorem canon_form (u v : Nat) (e : Bool) (h : Fl.IsForm u v e) (w : World) :
    Calls Tryz.prog 90 #[.agg #[.float .f64 u, .float .f64 v, .bool e, .bool e]] w fun e' w' => e' = .returned (.agg #[.float .f64 u, .float .f64 v, .bool e, .bool e]) ∧ Up w w' := by
 have H := canonS_any u v h.1 h.2.1 e e w
 obtain ⟨e1, e2, e3⟩ := Fl.cs_of_form u v e h
 rw [e1, e2, e3] at H; exact H
end Go.Proofs.YthjfkmjeppdcnaaGreat
