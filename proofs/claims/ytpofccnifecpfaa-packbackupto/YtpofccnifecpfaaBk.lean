/- Values that are put are read back, with other bytes behind them too; a beginning is not; in plain numbers; condition: the values are right. -/
import Derived.Test.YtpofccnifecpfaaRy
import Derived.Test.YtpofccnifecpfaaSw
namespace Go.Proofs.Ytpofccnifecpfaa
open Go.RowKit
set_option linter.unusedVariables false
theorem acc_congr (x y : Nat → Nat) : ∀ k, (∀ j, j < k → x j = y j) → acc x k = acc y k
  | 0, _ => rfl
  | k + 1, h => by
    show acc x k + x k % 128 * 128 ^ k = acc y k + y k % 128 * 128 ^ k
    rw [acc_congr x y k (fun j hj => h j (by omega)), h k (by omega)]
theorem ln_congr (x y : Nat → Nat) (n : Nat) (h : ∀ i, i < n → x i = y i) : ∀ f k, ln x n f k = ln y n f k
  | 0, _ => rfl
  | f + 1, k => by
    unfold ln
    by_cases h1 : k < n ∧ k < 10
    · rw [if_pos h1, if_pos h1, h k h1.1, ln_congr x y n h f (k + 1), acc_congr x y (k + 1) (fun j hj => h j (by omega))]
    · rw [if_neg h1, if_neg h1]
theorem ln_mono (x : Nat → Nat) (n n' : Nat) (hn : n ≤ n') : ∀ f k, (ln x n f k).2 ≠ 0 → ln x n' f k = ln x n f k
  | 0, _, h => by simp [ln] at h
  | f + 1, k, h => by
    unfold ln at h ⊢
    by_cases h1 : k < n ∧ k < 10
    · rw [if_pos h1] at h ⊢
      rw [if_pos ⟨by omega, h1.2⟩]
      by_cases h2 : 128 ≤ x k
      · rw [if_pos h2] at h ⊢
        rw [if_pos h2]
        exact ln_mono x n n' hn f (k + 1) h
      · rw [if_neg h2, if_neg h2]
    · rw [if_neg h1] at h; exact absurd rfl h
theorem lkC_congr (x y : Nat → Nat) : ∀ k, (∀ j, j < k → x j = y j) → lkC x k = lkC y k
  | 0, _ => rfl
  | k + 1, h => by
    show lkC x k * 256 + x k = lkC y k * 256 + y k
    rw [lkC_congr x y k (fun j hj => h j (by omega)), h k (by omega)]
theorem vK_congr (q : Int) (x y : Nat → Nat) (n : Nat) (h : ∀ i, i < n → x i = y i) : vK q x n = vK q y n := by
  have e1 : ln x n 11 0 = ln y n 11 0 := ln_congr x y n h 11 0
  have e2 : lnK x n = lnK y n := by unfold lnK; rw [e1]
  have e3 : lnV x n = lnV y n := by unfold lnV; rw [e1]
  unfold vK
  split
  · exact e2
  · split
    · unfold lkK
      by_cases h8 : 8 ≤ n
      · rw [lkC_congr x y 8 (fun j hj => h j (by omega))]
      · rw [if_neg (fun q => h8 q.1), if_neg (fun q => h8 q.1)]
    · split
      · unfold lbK; rw [e2, e3]
      · unfold lfK
        by_cases h0 : 0 < n
        · rw [h 0 h0]
        · rw [if_neg (fun q => h0 q.1), if_neg (fun q => h0 q.1)]
theorem lnK_mono (x : Nat → Nat) (n n' : Nat) (hn : n ≤ n') (h : lnK x n ≠ 0) : lnK x n' = lnK x n ∧ lnV x n' = lnV x n := by
  have e := ln_mono x n n' hn 11 0 h
  unfold lnK lnV
  rw [e]; exact ⟨rfl, rfl⟩
theorem vK_mono (q : Int) (x : Nat → Nat) (n n' : Nat) (hn : n ≤ n') (h : vK q x n ≠ 0) : vK q x n' = vK q x n := by
  unfold vK at h ⊢
  by_cases h1 : q = 1
  · rw [if_pos h1] at h ⊢
    rw [if_pos h1]
    exact (lnK_mono x n n' hn h).1
  · rw [if_neg h1] at h ⊢
    rw [if_neg h1]
    by_cases h2 : q = 2
    · rw [if_pos h2] at h ⊢
      rw [if_pos h2]
      unfold lkK at h ⊢
      by_cases hc : 8 ≤ n ∧ Fl.isCode (lkC x 8) = true
      · rw [if_pos hc, if_pos ⟨by omega, hc.2⟩]
      · rw [if_neg hc] at h; exact absurd rfl h
    · rw [if_neg h2] at h ⊢
      rw [if_neg h2]
      by_cases h3 : q = 3
      · rw [if_pos h3] at h ⊢
        rw [if_pos h3]
        unfold lbK at h ⊢
        by_cases hc : lnK x n ≠ 0 ∧ 0 ≤ lnV x n ∧ lnV x n ≤ 4096 ∧ (lnV x n).toNat ≤ n - lnK x n
        · obtain ⟨e1, e2⟩ := lnK_mono x n n' hn hc.1
          rw [if_pos hc, e1, e2, if_pos ⟨hc.1, hc.2.1, hc.2.2.1, by omega⟩]
        · rw [if_neg hc] at h; exact absurd rfl h
      · rw [if_neg h3] at h ⊢
        rw [if_neg h3]
        unfold lfK at h ⊢
        by_cases hc : 0 < n ∧ x 0 ≤ 1
        · rw [if_pos hc, if_pos ⟨by omega, hc.2⟩]
        · rw [if_neg hc] at h; exact absurd rfl h
theorem gd_left (L M : List Nat) (i : Nat) (h : i < L.length) : gd (L ++ M) i = gd L i := by
  unfold gd; simp [List.getD, List.getElem?_append_left h]
theorem gd_right (L M : List Nat) (i : Nat) : gd (L ++ M) (L.length + i) = gd M i := by
  unfold gd; simp [List.getD, List.getElem?_append_right (Nat.le_add_right _ _)]
/-- A number at the beginning of other bytes. -/
theorem num_at_head (z : Int) (h1 : -9223372036854775808 ≤ z) (h2 : z ≤ 9223372036854775807) (x : Nat → Nat) (n : Nat) (hn : (numL z).length ≤ n) (hx : ∀ i, i < (numL z).length → x i = gd (numL z) i) : lnV x n = z ∧ lnK x n = (numL z).length := by
  obtain ⟨r1, r2⟩ := num_read z h1 h2
  have hp := (num_len z h1 h2).1
  have e : ln x (numL z).length 11 0 = ln (gd (numL z)) (numL z).length 11 0 := ln_congr _ _ _ hx 11 0
  have k1 : lnK x (numL z).length = (numL z).length := by refine Eq.trans ?_ r2; unfold lnK; rw [e]
  have v1 : lnV x (numL z).length = z := by refine Eq.trans ?_ r1; unfold lnV; rw [e]
  obtain ⟨q1, q2⟩ := lnK_mono x (numL z).length n hn (by omega)
  exact ⟨q2.trans v1, q1.trans k1⟩
theorem key_read (c : Nat) (hc : c < 18446744073709551616) (x : Nat → Nat) (hx : ∀ i, i < 8 → x i = gd (keyL c 8) i) : lkC x 8 = c := by
  have e : keyL c 8 = [c / 72057594037927936 % 256, c / 281474976710656 % 256, c / 1099511627776 % 256, c / 4294967296 % 256, c / 16777216 % 256, c / 65536 % 256, c / 256 % 256, c % 256] := by simp [keyL]
  rw [e] at hx
  have h0 := hx 0 (by omega)
  have h1 := hx 1 (by omega)
  have h2 := hx 2 (by omega)
  have h3 := hx 3 (by omega)
  have h4 := hx 4 (by omega)
  have h5 := hx 5 (by omega)
  have h6 := hx 6 (by omega)
  have h7 := hx 7 (by omega)
  simp [gd] at h0 h1 h2 h3 h4 h5 h6 h7
  have ec : lkC x 8 = x 0 * 72057594037927936 + x 1 * 281474976710656 + x 2 * 1099511627776 + x 3 * 4294967296 + x 4 * 16777216 + x 5 * 65536 + x 6 * 256 + x 7 := by simp [lkC]; omega
  rw [ec, h0, h1, h2, h3, h4, h5, h6, h7]
  omega
theorem read_back {p : PV} (hn : -9223372036854775808 ≤ p.n ∧ p.n ≤ 9223372036854775807) (hxx : p.x < 18446744073709551616) (he : pvE p = 0) (x : Nat → Nat) (n : Nat) (hl : (encV p).length ≤ n) (hx : ∀ i, i < (encV p).length → x i = gd (encV p) i) :
    (1 ≤ p.k ∧ p.k ≤ 4) ∧ vK p.k x n = (encV p).length ∧ vK p.k x n ≠ 0 ∧ ∀ u, IsV p.k x n u → SameP u p := by
  have hcase : (p.k = 1 ∨ p.k = 2 ∨ p.k = 3 ∨ p.k = 4) ∧ (p.k = 3 → p.bn ≤ 4096) := by
    unfold pvE at he
    by_cases h1 : p.k < 1 ∨ 4 < p.k
    · simp [h1] at he
    · refine ⟨by omega, fun h3 => ?_⟩
      by_cases hb : 4096 < p.bn
      · simp [h3, hb] at he
      · omega
  obtain ⟨h | h | h | h, hb⟩ := hcase
  · have ee : encV p = numL p.n := by simp [encV, h]
    rw [ee] at hl hx ⊢
    obtain ⟨e1, e2⟩ := num_at_head p.n hn.1 hn.2 x n hl hx
    have hp := (num_len p.n hn.1 hn.2).1
    have ev : vK p.k x n = lnK x n := by simp [vK, h]
    refine ⟨by omega, by rw [ev, e2], by rw [ev, e2]; omega, fun u hu => ?_⟩
    have k := hu.ek
    exact ⟨by omega, k, fun _ => by rw [hu.en, if_pos h, e1], fun h2 => by omega, fun h2 => by omega, fun h2 => by omega⟩
  · have ee : encV p = keyL (Fl.code p.x) 8 := by simp [encV, h]
    rw [ee] at hl hx ⊢
    rw [keyL_len] at hl hx ⊢
    have ec := key_read (Fl.code p.x) (Fl.code_le p.x hxx) x hx
    have hc : 8 ≤ n ∧ Fl.isCode (lkC x 8) = true := ⟨hl, by rw [ec]; exact Fl.isCode_code p.x hxx⟩
    have ev : vK p.k x n = 8 := by simp only [vK, h]; show lkK x n = 8; unfold lkK; rw [if_pos hc]
    refine ⟨by omega, ev, by omega, fun u hu => ?_⟩
    have k := hu.ek
    refine ⟨by omega, k, fun h2 => by omega, fun _ => ?_, fun h2 => by omega, fun h2 => by omega⟩
    rw [hu.ex, if_pos h]
    unfold lkV
    rw [if_pos hc, ec, Fl.of_code p.x hxx, Fl.canon_canon]
  · have ee : encV p = numL p.bn ++ byL p.bn p.bx := by simp [encV, h]
    rw [ee] at hl hx ⊢
    rw [List.length_append, byL_len] at hl hx ⊢
    have hbb := hb h
    obtain ⟨e1, e2⟩ := num_at_head (p.bn : Int) (by omega) (by omega) x n (by omega) (fun i hi => by rw [hx i (by omega), gd_left _ _ _ hi])
    have hp := (num_len (p.bn : Int) (by omega) (by omega)).1
    have hc : lnK x n ≠ 0 ∧ 0 ≤ lnV x n ∧ lnV x n ≤ 4096 ∧ (lnV x n).toNat ≤ n - lnK x n := by rw [e1, e2]; exact ⟨by omega, by omega, by omega, by simp; omega⟩
    have ev : vK p.k x n = (numL p.bn).length + p.bn := by simp only [vK, h]; show lbK x n = _; unfold lbK; rw [if_pos hc, e1, e2]; simp
    refine ⟨by omega, ev, by omega, fun u hu => ?_⟩
    have k := hu.ek
    have bb : u.bn = p.bn := by rw [hu.ebn, if_pos h, e1]; simp
    refine ⟨by omega, k, fun h2 => by omega, fun h2 => by omega, fun _ => ⟨bb, fun i hi => ?_⟩, fun h2 => by omega⟩
    rw [hu.ebx i hi, e2, hx _ (by omega), gd_right, gd_byL _ _ _ (by omega)]
  · have ee : encV p = [if p.on then 1 else 0] := by simp [encV, h]
    rw [ee] at hl hx ⊢
    have h0 := hx 0 (by simp)
    simp [gd] at h0
    simp only [List.length_singleton] at hl ⊢
    have hc : 0 < n ∧ x 0 ≤ 1 := ⟨by omega, by rw [h0]; split <;> omega⟩
    have ev : vK p.k x n = 1 := by simp only [vK, h]; show lfK x n = 1; unfold lfK; rw [if_pos hc]
    refine ⟨by omega, ev, by omega, fun u hu => ?_⟩
    have k := hu.ek
    refine ⟨by omega, k, fun h2 => by omega, fun h2 => by omega, fun h2 => by omega, fun _ => ?_⟩
    rw [hu.eon, if_pos h]
    unfold lfV
    rw [h0]
    have hn0 : 0 < n := hc.1
    cases p.on <;> simp [hn0]
theorem putL_more (f : Nat → PV) (k : Nat) : ∀ m, k ≤ m → ∃ R, putL encV f m = putL encV f k ++ R
  | 0, h => ⟨[], by obtain rfl : k = 0 := by omega
                    simp⟩
  | m + 1, h => by
    by_cases e : k = m + 1
    · subst e; exact ⟨[], by simp⟩
    · obtain ⟨R, hR⟩ := putL_more f k m (by omega)
      exact ⟨R ++ encV (f m), by show putL encV f m ++ encV (f m) = _; rw [hR, List.append_assoc]⟩
theorem firstE_zero (f : Nat → PV) (m : Nat) (h : firstE f m = 0) : ∀ i, i < m → pvE (f i) = 0 := by
  intro i hi
  have h0 : firstE f (i + 1) = 0 := by
    by_cases e : firstE f (i + 1) = 0
    · exact e
    · rw [firstE_stop f (i + 1) e m hi] at h; exact h
  have h1 : firstE f i = 0 := by
    by_cases e : firstE f i = 0
    · exact e
    · rw [firstE_stop f i e (i + 1) (by omega)] at h0; exact absurd h0 e
  simpa [firstE, h1] using h0
/-- The values of a row, read back from its bytes. -/
theorem rows_read (f : Nat → PV) (m : Nat) (hf : ∀ i, i < m → (-9223372036854775808 ≤ (f i).n ∧ (f i).n ≤ 9223372036854775807) ∧ (f i).x < 18446744073709551616) (he : firstE f m = 0) :
    ∀ k, k ≤ m → pos (fun i => (f i).k) (gd (putL encV f m)) (putL encV f m).length k = (putL encV f k).length ∧ ∀ i, i < k → (1 ≤ (f i).k ∧ (f i).k ≤ 4) ∧ vKat (fun i => (f i).k) (gd (putL encV f m)) (putL encV f m).length i ≠ 0 ∧ ∀ u, IsVat (fun i => (f i).k) (gd (putL encV f m)) (putL encV f m).length i u → SameP u (f i)
  | 0, _ => ⟨rfl, fun i hi => by omega⟩
  | k + 1, hk => by
    obtain ⟨h1, h2⟩ := rows_read f m hf he k (by omega)
    obtain ⟨R, hR⟩ := putL_more f (k + 1) m hk
    have hlen : (putL encV f m).length = (putL encV f k).length + (encV (f k)).length + R.length := by rw [hR]; simp [putL, Nat.add_assoc]
    obtain ⟨q0, q1, q2, q3⟩ := read_back (hf k (by omega)).1 (hf k (by omega)).2 (firstE_zero f m he k (by omega)) (sh (putL encV f k).length (gd (putL encV f m))) ((putL encV f m).length - (putL encV f k).length) (by omega) (fun i hi => by
      show gd (putL encV f m) ((putL encV f k).length + i) = _
      rw [hR, show putL encV f (k + 1) = putL encV f k ++ encV (f k) from rfl, List.append_assoc, gd_right, gd_left _ _ _ hi])
    have ek : vKat (fun i => (f i).k) (gd (putL encV f m)) (putL encV f m).length k = (encV (f k)).length := by unfold vKat; rw [h1]; exact q1
    refine ⟨?_, fun i hi => ?_⟩
    · show pos (fun i => (f i).k) (gd (putL encV f m)) (putL encV f m).length k + vKat (fun i => (f i).k) (gd (putL encV f m)) (putL encV f m).length k = _
      rw [h1, ek]; simp [putL]
    · by_cases e : i < k
      · exact h2 i e
      · obtain rfl : i = k := by omega
        refine ⟨q0, by rw [ek, ← q1]; exact q2, fun u hu => ?_⟩
        unfold IsVat at hu
        rw [h1] at hu
        exact q3 u hu
/-- More bytes behind change nothing. -/
theorem pos_more (ks : Nat → Int) (x y : Nat → Nat) (n n' m : Nat) (hn : n ≤ n') (hx : ∀ i, i < n → x i = y i) (h : ∀ i, i < m → vKat ks x n i ≠ 0) : ∀ k, k ≤ m → pos ks y n' k = pos ks x n k
  | 0, _ => rfl
  | k + 1, hk => by
    have h1 := pos_more ks x y n n' m hn hx h k (by omega)
    have hp := pos_le ks x n k
    have h2 := h k (by omega)
    show pos ks y n' k + vK (ks k) (sh (pos ks y n' k) y) (n' - pos ks y n' k) = pos ks x n k + vK (ks k) (sh (pos ks x n k) x) (n - pos ks x n k)
    rw [h1]
    have e1 := vK_congr (ks k) (sh (pos ks x n k) x) (sh (pos ks x n k) y) (n - pos ks x n k) (fun i hi => by show x (pos ks x n k + i) = y (pos ks x n k + i); exact hx _ (by omega))
    unfold vKat at h2
    rw [e1] at h2 ⊢
    rw [vK_mono (ks k) (sh (pos ks x n k) y) (n - pos ks x n k) (n' - pos ks x n k) (by omega) h2]
end Go.Proofs.Ytpofccnifecpfaa
