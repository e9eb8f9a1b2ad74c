/- Values that are read have just the bytes that they are put as; is Get alive; a row of kinds that came in, opened; conditions: the rows lie in memory. -/
import Derived.Test.YtpofccnifecpfaaRxf
import Derived.Test.YtpofccnifecpfaaPo
namespace Go.Proofs.Ytpofccnifecpfaa
open Go.ChangeShapes Go.WideShapes Go.RowKit Go.Joins
set_option linter.unusedVariables false
theorem acc_shift (x : Nat → Nat) : ∀ k, acc x (k + 1) = x 0 % 128 + 128 * acc (sh 1 x) k
  | 0 => by simp [acc]
  | k + 1 => by
    have h := acc_shift x k
    show acc x (k + 1) + x (k + 1) % 128 * 128 ^ (k + 1) = x 0 % 128 + 128 * (acc (sh 1 x) k + sh 1 x k % 128 * 128 ^ k)
    rw [h, show sh 1 x k = x (k + 1) by simp [sh, Nat.add_comm], Nat.pow_succ, Nat.mul_add]
    have e : x (k + 1) % 128 * (128 ^ k * 128) = 128 * (x (k + 1) % 128 * 128 ^ k) := by rw [Nat.mul_comm (128 ^ k) 128, Nat.mul_left_comm]
    omega
theorem acc_pos (x : Nat → Nat) (i : Nat) (h : x i % 128 ≠ 0) : 0 < acc x (i + 1) := by
  show 0 < acc x i + x i % 128 * 128 ^ i
  have h1 : 0 < x i % 128 * 128 ^ i := Nat.mul_pos (by omega) (Nat.pow_pos (by omega))
  omega
theorem byL_succ (n : Nat) (x : Nat → Nat) : byL (n + 1) x = x 0 :: byL n (sh 1 x) := by
  unfold byL
  rw [List.range_succ_eq_map]
  simp [sh, Function.comp_def, Nat.add_comm]
theorem byL_add (a b : Nat) (x : Nat → Nat) : byL (a + b) x = byL a x ++ byL b (sh a x) := by
  apply List.ext_getElem?
  intro i
  by_cases h : i < a
  · rw [List.getElem?_append_left (by rw [byL_len]; exact h)]
    simp [byL, h, show i < a + b by omega]
  · rw [List.getElem?_append_right (by rw [byL_len]; omega), byL_len]
    by_cases h2 : i < a + b
    · simp [byL, h2, show i - a < b by omega, sh, show a + (i - a) = i by omega]
    · simp [byL, h2, show ¬ i - a < b by omega]
theorem grp_of : ∀ (i f : Nat) (x : Nat → Nat), i ≤ f → (∀ j, j < i → 128 ≤ x j ∧ x j < 256) → x i < 128 → (0 < i → x i ≠ 0) → grp f (acc x (i + 1)) = byL (i + 1) x
  | 0, f, x, _, _, h, _ => by
    have e : acc x 1 = x 0 := by simp [acc]; omega
    rw [e, grp_small f _ h]
    simp [byL]
  | i + 1, f, x, hf, hj, h, hz => by
    obtain ⟨f', rfl⟩ : ∃ f', f = f' + 1 := ⟨f - 1, by omega⟩
    have hs : ∀ j, sh 1 x j = x (j + 1) := fun j => by simp [sh, Nat.add_comm]
    have ih := grp_of i f' (sh 1 x) (by omega) (fun j hj2 => by rw [hs]; exact hj (j + 1) (by omega)) (by rw [hs]; exact h) (fun _ => by rw [hs]; exact hz (by omega))
    have hp := acc_pos (sh 1 x) i (by rw [hs]; have := hz (by omega); omega)
    have h0 := hj 0 (by omega)
    have e := acc_shift x (i + 1)
    rw [grp_big f' _ (by omega), byL_succ, ← ih]
    rw [show acc x (i + 1 + 1) % 128 + 128 = x 0 by omega, show acc x (i + 1 + 1) / 128 = acc (sh 1 x) (i + 1) by omega]
/-- What a number that is read looks like. -/
theorem ln_form (x : Nat → Nat) (n : Nat) : ∀ f k, k + f = 11 → (ln x n f k).2 ≠ 0 → (∀ j, j < k → 128 ≤ x j) → ∃ i, k ≤ i ∧ i < 10 ∧ i < n ∧ (∀ j, j < i → 128 ≤ x j) ∧ x i < 128 ∧ (0 < i → x i ≠ 0) ∧ ln x n f k = (unf (acc x (i + 1)), i + 1)
  | 0, k, _, h, _ => by simp [ln] at h
  | f + 1, k, hk, h, hj => by
    unfold ln at h ⊢
    by_cases h1 : k < n ∧ k < 10
    · rw [if_pos h1] at h ⊢
      by_cases h2 : 128 ≤ x k
      · rw [if_pos h2] at h ⊢
        obtain ⟨i, q1, q2⟩ := ln_form x n f (k + 1) (by omega) h (fun j hj2 => by
          by_cases e : j = k
          · subst e; exact h2
          · exact hj j (by omega))
        exact ⟨i, by omega, q2⟩
      · rw [if_neg h2] at h ⊢
        by_cases h3 : (0 < k ∧ x k = 0) ∨ (k = 9 ∧ 1 < x k)
        · rw [if_pos h3] at h; exact absurd rfl h
        · rw [if_neg h3] at h ⊢
          exact ⟨k, Nat.le_refl _, h1.2, h1.1, hj, by omega, fun h0 e => h3 (.inl ⟨h0, e⟩), rfl⟩
    · rw [if_neg h1] at h; exact absurd rfl h
theorem num_back (x : Nat → Nat) (n : Nat) (hx : ∀ i, i < n → x i < 256) (h : lnK x n ≠ 0) : numL (lnV x n) = byL (lnK x n) x := by
  obtain ⟨i, _, h1, h2, h3, h4, h5, h6⟩ := ln_form x n 11 0 rfl h (fun j hj => by omega)
  unfold lnV lnK numL
  rw [h6]
  simp only [fold_unf]
  exact grp_of i 10 x (by omega) (fun j hj => ⟨h3 j hj, hx j (by omega)⟩) h4 h5
theorem key_back (x : Nat → Nat) (hx : ∀ i, i < 8 → x i < 256) : keyL (lkC x 8) 8 = byL 8 x := by
  have h0 := hx 0 (by omega)
  have h1 := hx 1 (by omega)
  have h2 := hx 2 (by omega)
  have h3 := hx 3 (by omega)
  have h4 := hx 4 (by omega)
  have h5 := hx 5 (by omega)
  have h6 := hx 6 (by omega)
  have h7 := hx 7 (by omega)
  have e : byL 8 x = [x 0, x 1, x 2, x 3, x 4, x 5, x 6, x 7] := rfl
  rw [e]
  have ec : lkC x 8 = x 0 * 72057594037927936 + x 1 * 281474976710656 + x 2 * 1099511627776 + x 3 * 4294967296 + x 4 * 16777216 + x 5 * 65536 + x 6 * 256 + x 7 := by simp [lkC]; omega
  generalize lkC x 8 = c at *
  simp [keyL]
  omega
theorem enc_of {q : Int} {x : Nat → Nat} {n : Nat} {p : PV} (hq : 1 ≤ q ∧ q ≤ 4) (hx : ∀ i, i < n → x i < 256) (hz : vK q x n ≠ 0) (h : IsV q x n p) : encV p = byL (vK q x n) x ∧ pvE p = 0 := by
  obtain ⟨ek, en, ex, ebn, ebx, eon, _⟩ := h
  obtain rfl | rfl | rfl | rfl : q = 1 ∨ q = 2 ∨ q = 3 ∨ q = 4 := by omega
  · have e : vK 1 x n = lnK x n := by simp [vK]
    rw [e] at hz ⊢
    simp at en
    exact ⟨by simp only [encV, ek, en]; exact num_back x n hx hz, by simp [pvE, ek]⟩
  · have e : vK 2 x n = lkK x n := by simp [vK]
    rw [e] at hz ⊢
    simp at ex
    have hc : 8 ≤ n ∧ Fl.isCode (lkC x 8) = true := by
      unfold lkK at hz
      by_cases hc : 8 ≤ n ∧ Fl.isCode (lkC x 8) = true
      · exact hc
      · rw [if_neg hc] at hz; exact absurd rfl hz
    refine ⟨?_, by simp [pvE, ek]⟩
    rw [show lkK x n = 8 by unfold lkK; rw [if_pos hc]]
    simp only [encV, ek, ex]
    rw [show lkV x n = Fl.of (lkC x 8) by unfold lkV; rw [if_pos hc], Fl.code_of _ (Nat.lt_of_lt_of_le (lkC_lt x n hx 8 hc.1) (by decide)) hc.2]
    exact key_back x (fun i hi => hx i (by omega))
  · have e : vK 3 x n = lbK x n := by simp [vK]
    rw [e] at hz ⊢
    simp at ebn
    have hc : lnK x n ≠ 0 ∧ 0 ≤ lnV x n ∧ lnV x n ≤ 4096 ∧ (lnV x n).toNat ≤ n - lnK x n := by
      unfold lbK at hz
      by_cases hc : lnK x n ≠ 0 ∧ 0 ≤ lnV x n ∧ lnV x n ≤ 4096 ∧ (lnV x n).toNat ≤ n - lnK x n
      · exact hc
      · rw [if_neg hc] at hz; exact absurd rfl hz
    refine ⟨?_, ?_⟩
    · rw [show lbK x n = lnK x n + (lnV x n).toNat by unfold lbK; rw [if_pos hc], byL_add, ← num_back x n hx hc.1]
      have e1 : ((p.bn : Nat) : Int) = lnV x n := by rw [ebn]; omega
      have e2 : byL p.bn p.bx = byL (lnV x n).toNat (sh (lnK x n) x) := by
        rw [← ebn]
        unfold byL
        apply List.map_congr_left
        intro i hi
        exact ebx i (by simpa using hi)
      show (if p.k = 1 then numL p.n else if p.k = 2 then keyL (Fl.code p.x) 8 else if p.k = 3 then numL p.bn ++ byL p.bn p.bx else [if p.on then 1 else 0]) = _
      rw [ek, if_neg (by decide), if_neg (by decide), if_pos rfl, e1, e2]
    · unfold pvE
      rw [ek, if_neg (by decide), if_neg]
      rw [ebn]; omega
  · have e : vK 4 x n = lfK x n := by simp [vK]
    rw [e] at hz ⊢
    simp at eon
    have hc : 0 < n ∧ x 0 ≤ 1 := by
      unfold lfK at hz
      by_cases hc : 0 < n ∧ x 0 ≤ 1
      · exact hc
      · rw [if_neg hc] at hz; exact absurd rfl hz
    refine ⟨?_, by simp [pvE, ek]⟩
    rw [show lfK x n = 1 by unfold lfK; rw [if_pos hc]]
    show (if p.k = 1 then numL p.n else if p.k = 2 then keyL (Fl.code p.x) 8 else if p.k = 3 then numL p.bn ++ byL p.bn p.bx else [if p.on then 1 else 0]) = _
    rw [ek, if_neg (by decide), if_neg (by decide), if_neg (by decide), eon]
    simp only [byL, lfV]
    by_cases h1 : x 0 = 1
    · simp [h1, hc.1]
    · have : x 0 = 0 := by omega
      simp [this]
theorem rows_back (ks : Nat → Int) (x : Nat → Nat) (n m : Nat) (f : Nat → PV) (hx : ∀ i, i < n → x i < 256) (hq : ∀ i, i < m → 1 ≤ ks i ∧ ks i ≤ 4) (h : ∀ i, i < m → vKat ks x n i ≠ 0 ∧ IsVat ks x n i (f i)) : ∀ k, k ≤ m → putL encV f k = byL (pos ks x n k) x ∧ firstE f k = 0
  | 0, _ => ⟨rfl, rfl⟩
  | k + 1, hk => by
    obtain ⟨h1, h2⟩ := rows_back ks x n m f hx hq h k (by omega)
    obtain ⟨h3, h4⟩ := h k (by omega)
    have hp := pos_le ks x n k
    obtain ⟨h5, h6⟩ := enc_of (hq k (by omega)) (fun i hi => by show x (pos ks x n k + i) < 256; exact hx _ (by omega)) h3 h4
    refine ⟨?_, by simp [firstE, h2, h6]⟩
    show putL encV f k ++ encV (f k) = byL (pos ks x n k + vKat ks x n k) x
    rw [h1, h5, byL_add]
    rfl
theorem cellsInt : Try.prog.cellsOf 3 = 1 := by kernel_rfl
/-- A row of kinds. -/
def KRow (w : World) (v : Value) (m : Nat) (ks : Nat → Int) : Prop := ∃ ka kc, v = .slice ka m kc ∧ KAt w ka m ks
theorem open_ints {H : Type} {enc : TypeId × Value → H} {w : World} {base : Nat} {v : Value} {d : DataW H} {ps : List MemPlace} (hv : Value.okWide Try.prog w .any base 23 v) (h : DataW.Trod enc Try.prog w 0 (fun _ => true) true 23 v d ps) :
    ∃ (m : Nat) (ks : Nat → Int), KRow w v m ks ∧ ((d = .nil ∧ m = 0) ∨ ∃ elems spare, d = .slice elems spare ∧ elems.length = m) := by
  obtain ⟨a0, len0, cap0, rfl⟩ := okWide_slice Try.underlying23 hv
  obtain ⟨fuel, hf⟩ := h
  rcases DataW.trod_slice Try.underlying23 hf with ⟨hcs, hd⟩ | ⟨a, len, cap, elems, rest, m, _, hcs, hd, hb, hl, hm, hlen, hel, _, _⟩
  · simp [Value.cells] at hcs
    obtain ⟨rfl, rfl, rfl⟩ := hcs
    simp at hd
    exact ⟨0, fun _ => 0, ⟨none, 0, rfl, fun i hi => by omega⟩, .inl ⟨hd.1, rfl⟩⟩
  · simp [Value.cells] at hcs
    obtain ⟨ha, hln, hcp⟩ := hcs
    rw [ha, hln, hcp]
    clear ha hln hcp hf hv a0 len0 cap0
    simp only [Prod.mk.injEq] at hd
    have hdd : d = .slice (elems.map (·.1)) (rest.map (·.1)) := hd.1
    by_cases hz : len = 0
    · subst hz; exact ⟨0, fun _ => 0, ⟨_, _, rfl, fun i hi => by omega⟩, .inr ⟨_, _, hdd, by simpa using hlen⟩⟩
    · have each : ∀ i, i < len → ∃ n : Int, w.cell? (a.add i) = some (.int .i64 n) := by
        intro i hi
        have h1 := hel i hi
        have h2 : elems[i]? = some (elems[i]'(by omega)) := List.getElem?_eq_getElem (by omega)
        rw [h2, cellsInt, Nat.mul_one, Option.bind_eq_some_iff] at h1
        obtain ⟨cs', hcs, hy'⟩ := h1
        obtain ⟨n, rfl, _, hw⟩ := DataW.trod_int Try.underlying3 hy'
        exact ⟨n, cell_of_cells?_one hcs⟩
      obtain ⟨b, off, spot⟩ := a
      obtain ⟨n0, h0⟩ := each 0 (by omega)
      have hspot : spot = none := by simpa [Addr.add] using World.cell?_spot h0
      subst hspot
      refine ⟨len, fun i => match w.cell? ⟨b, off + i, none⟩ with | some (.int _ n) => n | _ => 0, ⟨_, _, rfl, fun i hi => ⟨b, off, rfl, ?_⟩⟩, .inr ⟨_, _, hdd, by simpa using hlen⟩⟩
      obtain ⟨n, hn⟩ := each i hi
      rw [Go.WideShapes.add_plain] at hn
      simp only [hn]
theorem one_one : lnK (fun _ => 1) 1 = 1 ∧ lnV (fun _ => 1) 1 = -1 := by decide +kernel
set_option maxHeartbeats 1000000 in
theorem getting_get (w W : World) (hW : W = (w.alloc (.cells #[.int .u8 1] 5)).alloc (.cells #[.int .i64 1] 3)) :
    Calls Try.prog 9 #[.slice (some ⟨w.heap.size, 0, none⟩) 1 1, .slice (some ⟨w.heap.size + 1, 0, none⟩) 1 1] W fun e w' => ∃ g off cap, e = .returned (.tuple #[.slice (some ⟨g, off, none⟩) 1 cap, .int .i64 0]) ∧ w'.cell? ⟨g, off + 1, none⟩ = some (.int .i64 (-1)) ∧ Up w w' := by
  have hrow : ByRow W (.slice (some ⟨w.heap.size, 0, none⟩) 1 1) 1 (fun _ => 1) := by
    refine .inr ⟨by omega, by unfold maxLen; omega, w.heap.size, 0, 1, rfl, fun i hi => ⟨by simp, ?_⟩, by omega, by unfold maxLen; omega⟩
    obtain rfl : i = 0 := by omega
    rw [hW]
    exact ((Up.refl _).alloc _).keep (cell_new w _ _ _ 0 _ rfl)
  have hk : KAt W (some ⟨w.heap.size + 1, 0, none⟩) 1 (fun _ => 1) := by
    intro i hi
    obtain rfl : i = 0 := by omega
    refine ⟨w.heap.size + 1, 0, rfl, ?_⟩
    rw [hW]
    have := cell_new (w.alloc (.cells #[.int .u8 1] 5)) #[.int .i64 1] 3 (0, 0) 0 (.int .i64 1) rfl
    rw [show (w.alloc (.cells #[.int .u8 1] 5)).heap.size = w.heap.size + 1 by simp] at this
    exact this
  refine (get_any _ 1 1 1 1 _ _ _ W hrow hk (by omega)).mono ?_
  rintro e w' ⟨ho, hu⟩
  have e0 : sh 0 (fun _ : Nat => 1) = (fun _ => 1) := by funext i; rfl
  have hv1 : vKat (fun _ => 1) (fun _ => 1) 1 0 = 1 := by show vK 1 (sh 0 (fun _ => 1)) 1 = 1; rw [e0]; simp [vK, one_one.1]
  have hup : Up w w' := Up.trans (by rw [hW]; exact ((Up.refl w).alloc _).alloc _) hu
  rcases ho with ⟨⟨i, _, h⟩, _⟩ | ⟨_, _, _, v, f, rfl, hown, he⟩ | ⟨_, h, _⟩
  · simp at h
  · obtain ⟨ad, c, rfl, hs⟩ := hown.shape
    obtain ⟨b, off, rfl, hat⟩ := hs 0 (by omega)
    refine ⟨b, off, c, rfl, ?_, hup⟩
    have h1 := hat.c1
    rw [(he 0 (by omega)).1.en] at h1
    simp only [Nat.zero_mul, Nat.add_zero] at h1
    rw [h1]
    show some (Value.int .i64 (if (1 : Int) = 1 then lnV (sh 0 (fun _ => 1)) 1 else 0)) = _
    rw [e0, one_one.2]; rfl
  · rcases h with ⟨i, hi, h⟩ | h
    · obtain rfl : i = 0 := by omega
      omega
    · have h2 : pos (fun _ => 1) (fun _ => 1) 1 1 = 0 + vKat (fun _ => 1) (fun _ => 1) 1 0 := rfl
      omega
set_option maxHeartbeats 1000000 in
theorem getting_any (w : World) :
    Calls Try.prog 8 #[] w fun e w' => e = .returned (.bool true) ∧ Up w w' := by
  have HG := hid (getting_get w)
  go_enter Try.func8, Try.ntmps8
  go_wp2_with (go_at_call 9; refine (HG.out _ rfl).mono ?_; rintro e w1 ⟨g, off, cap, rfl, hc, hu⟩)
  go_ret
  exact ⟨rfl, hu⟩
end Go.Proofs.Ytpofccnifecpfaa
