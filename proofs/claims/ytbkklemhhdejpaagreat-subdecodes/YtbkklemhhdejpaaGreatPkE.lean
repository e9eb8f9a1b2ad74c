/- What is read is what was put; the document's GetNum, and its One at a key; conditions: the rows lie in memory. -/
import Derived.Test.YtbkklemhhdejpaaGreatPkC
import Derived.Deep.Cut
namespace Go.Proofs.YtbkklemhhdejpaaGreat.Pk
set_option maxRecDepth 20000
open Go.ChangeShapes Go.WideShapes Go.RowKit Go.Joins
set_option linter.unusedVariables false
attribute [local go_sem] run_bits run_frombits run_store_float
theorem acc_shift (x : Nat → Nat) : ∀ k, acc x (k + 1) = x 0 % 128 + 128 * acc (sh 1 x) k
  | 0 => by simp [acc]
  | k + 1 => by
    have h := acc_shift x k
    show acc x (k + 1) + x (k + 1) % 128 * 128 ^ (k + 1) = x 0 % 128 + 128 * (acc (sh 1 x) k + sh 1 x k % 128 * 128 ^ k)
    rw [h, show sh 1 x k = x (k + 1) by simp [sh, Nat.add_comm], Nat.pow_succ, Nat.mul_add]
    have e : x (k + 1) % 128 * (128 ^ k * 128) = 128 * (x (k + 1) % 128 * 128 ^ k) := by rw [Nat.mul_comm (128 ^ k) 128, Nat.mul_left_comm]
    omega
theorem acc_pos (x : Nat → Nat) (i : Nat) (h : x i % 128 ≠ 0) : 0 < acc x (i + 1) := by
  show 0 < acc x i + x i % 128 * 128 ^ i
  have h1 : 0 < x i % 128 * 128 ^ i := Nat.mul_pos (by omega) (Nat.pow_pos (by omega))
  omega
theorem byL_succ (n : Nat) (x : Nat → Nat) : byL (n + 1) x = x 0 :: byL n (sh 1 x) := by
  unfold byL
  rw [List.range_succ_eq_map]
  simp [sh, Function.comp_def, Nat.add_comm]
theorem byL_add (a b : Nat) (x : Nat → Nat) : byL (a + b) x = byL a x ++ byL b (sh a x) := by
  apply List.ext_getElem?
  intro i
  by_cases h : i < a
  · rw [List.getElem?_append_left (by rw [byL_len]; exact h)]
    simp [byL, h, show i < a + b by omega]
  · rw [List.getElem?_append_right (by rw [byL_len]; omega), byL_len]
    by_cases h2 : i < a + b
    · simp [byL, h2, show i - a < b by omega, sh, show a + (i - a) = i by omega]
    · simp [byL, h2, show ¬ i - a < b by omega]
theorem grp_of : ∀ (i f : Nat) (x : Nat → Nat), i ≤ f → (∀ j, j < i → 128 ≤ x j ∧ x j < 256) → x i < 128 → (0 < i → x i ≠ 0) → grp f (acc x (i + 1)) = byL (i + 1) x
  | 0, f, x, _, _, h, _ => by
    have e : acc x 1 = x 0 := by simp [acc]; omega
    rw [e, grp_small f _ h]
    simp [byL]
  | i + 1, f, x, hf, hj, h, hz => by
    obtain ⟨f', rfl⟩ : ∃ f', f = f' + 1 := ⟨f - 1, by omega⟩
    have hs : ∀ j, sh 1 x j = x (j + 1) := fun j => by simp [sh, Nat.add_comm]
    have ih := grp_of i f' (sh 1 x) (by omega) (fun j hj2 => by rw [hs]; exact hj (j + 1) (by omega)) (by rw [hs]; exact h) (fun _ => by rw [hs]; exact hz (by omega))
    have hp := acc_pos (sh 1 x) i (by rw [hs]; have := hz (by omega); omega)
    have h0 := hj 0 (by omega)
    have e := acc_shift x (i + 1)
    rw [grp_big f' _ (by omega), byL_succ, ← ih]
    rw [show acc x (i + 1 + 1) % 128 + 128 = x 0 by omega, show acc x (i + 1 + 1) / 128 = acc (sh 1 x) (i + 1) by omega]
/-- What a number that is read looks like. -/
theorem ln_form (x : Nat → Nat) (n : Nat) : ∀ f k, k + f = 11 → (ln x n f k).2 ≠ 0 → (∀ j, j < k → 128 ≤ x j) → ∃ i, k ≤ i ∧ i < 10 ∧ i < n ∧ (∀ j, j < i → 128 ≤ x j) ∧ x i < 128 ∧ (0 < i → x i ≠ 0) ∧ ln x n f k = (unf (acc x (i + 1)), i + 1)
  | 0, k, _, h, _ => by simp [ln] at h
  | f + 1, k, hk, h, hj => by
    unfold ln at h ⊢
    by_cases h1 : k < n ∧ k < 10
    · rw [if_pos h1] at h ⊢
      by_cases h2 : 128 ≤ x k
      · rw [if_pos h2] at h ⊢
        obtain ⟨i, q1, q2⟩ := ln_form x n f (k + 1) (by omega) h (fun j hj2 => by
          by_cases e : j = k
          · subst e; exact h2
          · exact hj j (by omega))
        exact ⟨i, by omega, q2⟩
      · rw [if_neg h2] at h ⊢
        by_cases h3 : (0 < k ∧ x k = 0) ∨ (k = 9 ∧ 1 < x k)
        · rw [if_pos h3] at h; exact absurd rfl h
        · rw [if_neg h3] at h ⊢
          exact ⟨k, Nat.le_refl _, h1.2, h1.1, hj, by omega, fun h0 e => h3 (.inl ⟨h0, e⟩), rfl⟩
    · rw [if_neg h1] at h; exact absurd rfl h
theorem num_back (x : Nat → Nat) (n : Nat) (hx : ∀ i, i < n → x i < 256) (h : lnK x n ≠ 0) : numL (lnV x n) = byL (lnK x n) x := by
  obtain ⟨i, _, h1, h2, h3, h4, h5, h6⟩ := ln_form x n 11 0 rfl h (fun j hj => by omega)
  unfold lnV lnK numL
  rw [h6]
  simp only [fold_unf]
  exact grp_of i 10 x (by omega) (fun j hj => ⟨h3 j hj, hx j (by omega)⟩) h4 h5
theorem key_back (x : Nat → Nat) (hx : ∀ i, i < 8 → x i < 256) : keyL (lkC x 8) 8 = byL 8 x := by
  have h0 := hx 0 (by omega)
  have h1 := hx 1 (by omega)
  have h2 := hx 2 (by omega)
  have h3 := hx 3 (by omega)
  have h4 := hx 4 (by omega)
  have h5 := hx 5 (by omega)
  have h6 := hx 6 (by omega)
  have h7 := hx 7 (by omega)
  have e : byL 8 x = [x 0, x 1, x 2, x 3, x 4, x 5, x 6, x 7] := rfl
  rw [e]
  have ec : lkC x 8 = x 0 * 72057594037927936 + x 1 * 281474976710656 + x 2 * 1099511627776 + x 3 * 4294967296 + x 4 * 16777216 + x 5 * 65536 + x 6 * 256 + x 7 := by simp [lkC]; omega
  generalize lkC x 8 = c at *
  simp [keyL]
  omega
theorem lnV_in (x : Nat → Nat) (n : Nat) (hx : ∀ i, i < n → x i < 256) : -9223372036854775808 ≤ lnV x n ∧ lnV x n ≤ 9223372036854775807 := by
  have go : ∀ f k, k + f = 11 → -9223372036854775808 ≤ (ln x n f k).1 ∧ (ln x n f k).1 ≤ 9223372036854775807 := by
    intro f
    induction f with
    | zero => intro k _; unfold ln; exact ⟨by decide, by decide⟩
    | succ f ih =>
      intro k hk
      unfold ln
      split
      · split
        · exact ih (k + 1) (by omega)
        · split
          · exact ⟨by decide, by decide⟩
          · next h1 h2 h3 =>
            apply unf_in
            have ha := acc_lt x k
            show acc x k + x k % 128 * 128 ^ k < _
            by_cases h9 : k = 9
            · subst h9
              have : x 9 % 128 ≤ 1 := by omega
              have e : (128 : Nat) ^ 9 = 9223372036854775808 := by decide
              rw [e] at *
              have : x 9 % 128 * 9223372036854775808 ≤ 1 * 9223372036854775808 := Nat.mul_le_mul_right _ this
              omega
            · have hp : (128 : Nat) ^ (k + 1) ≤ 128 ^ 9 := Nat.pow_le_pow_right (by omega) (by omega)
              have e : (128 : Nat) ^ 9 = 9223372036854775808 := by decide
              have := acc_lt x (k + 1)
              have e2 : acc x (k + 1) = acc x k + x k % 128 * 128 ^ k := rfl
              omega
      · exact ⟨by decide, by decide⟩
  exact go 11 0 rfl
theorem canon_of (c : Nat) (hc : c < 18446744073709551616) (h : Fl.isCode c = true) : Fl.canon (Fl.of c) = Fl.of c := by
  have e := Fl.of_code (Fl.of c) (Fl.of_lt c hc)
  rw [Fl.code_of c hc h] at e
  exact e.symm
theorem pow9 (t : Nat) (ht : t ≤ 9) : (128 : Nat) ^ t ≤ 9223372036854775808 := by
  have h : (128 : Nat) ^ t ≤ 128 ^ 9 := Nat.pow_le_pow_right (by omega) ht
  have e : (128 : Nat) ^ 9 = 9223372036854775808 := by decide
  omega
set_option maxHeartbeats 4000000 in
set_option maxRecDepth 20000 in
theorem refGetNum_some (b off n cap : Nat) (x : Nat → Nat) (hm : n ≤ maxLen) (w : World) (hc : ∀ i, i < n → x i < 256 ∧ w.cell? ⟨b, off + i, none⟩ = some (.int .u8 (x i : Int))) :
    Calls Tryz.prog 26 #[.slice (some ⟨b, off, none⟩) n cap] w fun e w' => e = .returned (.tuple #[.int .i64 (lnV x n), .int .i64 (lnK x n : Nat)]) ∧ w' = w := by
  unfold maxLen at hm
  have HC := hid hc
  clear hc
  have HG : Hid (lnV x n = (ln x n 11 0).1 ∧ lnK x n = (ln x n 11 0).2) := ⟨rfl, rfl⟩
  generalize lnV x n = V at *
  generalize lnK x n = K at *
  go_enter Tryz.func26, Tryz.ntmps26
  go_wp2
  go_loop [4, 5] (fun u i => ∃ k : Nat, k ≤ 9 ∧ i = .int .i64 (k : Nat) ∧ u = .int .u64 (acc x k : Nat) ∧ V = (ln x n (11 - k) k).1 ∧ K = (ln x n (11 - k) k).2) (fun _ i => 10 - (intOf i).toNat)
  case atStart => exact ⟨0, by omega, rfl, rfl, HG.out.1, HG.out.2⟩
  case round =>
    obtain ⟨k, hk, rfl, rfl, hV, hK⟩ := hrel
    have H1 := hid hV
    have H2 := hid hK
    clear hV hK HG
    by_cases hlt : k < n
    · obtain ⟨hx, hcell⟩ := HC.out k hlt
      clear HC
      have hA := acc_lt x k
      have hp9 := pow9 k hk
      have l10 : (k : Int) < 10 := by omega
      by_cases hb : (k = 9 ∧ 1 < x k) ∨ (0 < k ∧ x k = 0)
      · have hz : ln x n (11 - k) k = (0, 0) := by
          by_cases h128 : 128 ≤ x k
          · have h9 : k = 9 := by omega
            rw [ln_go x n k hlt (by omega) h128, h9]
            exact ln_stop x n _ _ (by omega)
          · exact ln_bad x n k hlt (by omega) h128 (by omega)
        have hV := H1.out
        have hK := H2.out
        rw [hz] at hV hK
        subst hV hK
        clear hz H1 H2 hA hp9
        by_cases h9 : k = 9 ∧ 1 < x k
        · obtain ⟨h9a, h9b⟩ := h9
          have t1 : ((k : Int) == 9) = true := by rw [h9a]; rfl
          have t2 : decide ((1 : Int) < (x k : Int)) = true := by rw [decide_eq_true_eq]; omega
          clear hb h9a h9b
          generalize acc x k = A at *
          go_wp2
          go_ret2
          exact ⟨rfl, rfl⟩
        · have h0 : 0 < k ∧ x k = 0 := by rcases hb with h | h; exact absurd h h9; exact h
          obtain ⟨h0a, h0b⟩ := h0
          have t2 : ((x k : Int) == 0) = true := by rw [h0b]; rfl
          have t3 : decide ((1 : Int) < (x k : Int)) = false := by rw [h0b]; rfl
          by_cases h9k : k = 9
          · have t4 : ((k : Int) == 9) = true := by rw [h9k]; rfl
            clear hb h9 h0b h9k
            generalize acc x k = A at *
            go_wp2
            go_ret2
            exact ⟨rfl, rfl⟩
          · have t4 : ((k : Int) == 9) = false := by rw [beq_eq_false_iff_ne]; omega
            clear hb h9 h0b h9k
            generalize acc x k = A at *
            go_wp2
            go_ret2
            exact ⟨rfl, rfl⟩
      · have hacc : acc x (k + 1) = acc x k + x k % 128 * 128 ^ k := rfl
        have hD : (((k : Int) == 9) = true ∧ decide ((1 : Int) < (x k : Int)) = false ∧ 0 < k ∧ ((x k : Int) == 0) = false) ∨ (((k : Int) == 9) = false ∧ True ∧ 0 < k ∧ ((x k : Int) == 0) = false) ∨ (((k : Int) == 9) = false ∧ True ∧ ¬ 0 < k ∧ True) := by
          by_cases h9 : k = 9
          · left
            refine ⟨by rw [h9]; rfl, by rw [decide_eq_false_iff_not]; omega, by omega, by rw [beq_eq_false_iff_ne]; omega⟩
          · right
            by_cases h0 : 0 < k
            · left
              exact ⟨by rw [beq_eq_false_iff_ne]; omega, trivial, h0, by rw [beq_eq_false_iff_ne]; omega⟩
            · right
              exact ⟨by rw [beq_eq_false_iff_ne]; omega, trivial, h0, trivial⟩
        have hsm : ∀ t, t ≤ k → x k % 128 * 128 ^ t ≤ 9223372036854775808 ∧ (t < k → x k % 128 * 128 ^ t * 128 = x k % 128 * 128 ^ (t + 1)) := by
          intro t ht
          refine ⟨?_, fun _ => by rw [Nat.pow_succ, Nat.mul_assoc]⟩
          by_cases h9 : k = 9
          · have : x k % 128 ≤ 1 := by omega
            have h2 := pow9 t (by omega)
            have : x k % 128 * 128 ^ t ≤ 1 * 128 ^ t := Nat.mul_le_mul_right _ this
            omega
          · have h3 : x k % 128 * 128 ^ t ≤ 127 * 128 ^ t := Nat.mul_le_mul_right _ (by omega)
            have h4 : (128 : Nat) ^ t ≤ 128 ^ 8 := Nat.pow_le_pow_right (by omega) (by omega)
            have e : (128 : Nat) ^ 8 = 72057594037927936 := by decide
            omega
        have HSm := hid hsm
        have hbnd : acc x (k + 1) < 18446744073709551616 := by
          have := (hsm k (Nat.le_refl _)).1
          omega
        have HAcc := hid hacc
        have HBnd := hid hbnd
        have HBad := hid hb
        have hAk : acc x k < 9223372036854775808 := by omega
        clear hacc hbnd hsm hb hA hp9
        rcases hD with ⟨t1, t2, t3, t4⟩ | ⟨t1, t2, t3, t4⟩ | ⟨t1, t2, t3, t4⟩
        · skip
          generalize hA : acc x k = A at *
          go_wp2
          go_loop [6, 7] (fun q j => ∃ t : Nat, t ≤ k ∧ j = .int .i64 (t : Nat) ∧ q = .int .u64 ((x k % 128 * 128 ^ t : Nat) : Int)) (fun _ j => k - (intOf j).toNat)
          case atStart => exact ⟨0, Nat.zero_le _, rfl, by simp⟩
          case round =>
            obtain ⟨t, ht, rfl, rfl⟩ := hrel
            obtain ⟨s1, s2⟩ := HSm.out t ht
            by_cases htk : t < k
            · have s3 := s2 htk
              have eW : IntKind.u64.wrap (((x k % 128 * 128 ^ t : Nat) : Int) * 128) = ((x k % 128 * 128 ^ (t + 1) : Nat) : Int) := by
                have := (HSm.out (t + 1) htk).1
                rw [IntKind.wrap_u64]; omega
              clear s2 s3
              have HS1 := hid s1
              clear s1
              generalize x k % 128 * 128 ^ t = B at *
              go_wp2
              go_round
              case rel => exact ⟨t + 1, htk, by go_num, by simp⟩
              case measure => simp [intOf]; omega
            · obtain rfl : k = t := by omega
              have hU : A + x k % 128 * 128 ^ k < 18446744073709551616 := by rw [← HAcc.out]; exact HBnd.out
              have HEnd := hid (ln_end x n k hlt (by omega))
              have HGo := hid (ln_go x n k hlt (by omega))
              rw [HAcc.out] at HEnd
              have HAc2 := hid HAcc.out
              clear HSm HAcc HBnd s1 s2 htk
              generalize x k % 128 * 128 ^ k = B at *
              have eS : IntKind.u64.wrap ((A : Int) + (B : Int)) = ((A + B : Nat) : Int) := by rw [IntKind.wrap_u64]; omega
              by_cases h128 : 128 ≤ x k
              · have t6 : decide ((x k : Int) < 128) = false := by rw [decide_eq_false_iff_not]; omega
                have hk8 : k ≤ 8 := by have := HBad.out; omega
                have HL := hid (HGo.out h128)
                clear h128 HEnd HGo
                go_wp2
                go_round
                case rel => exact ⟨k + 1, by omega, by go_num, by rw [HAc2.out]; simp, by rw [← HL.out]; exact H1.out, by rw [← HL.out]; exact H2.out⟩
                case measure => simp [intOf]; omega
              · have t6 : decide ((x k : Int) < 128) = true := by rw [decide_eq_true_eq]; omega
                have hE := HEnd.out h128 (by have := HBad.out; omega)
                have hV : Hid (V = unf (A + B)) := by have h := H1.out; rw [hE] at h; exact h
                have hK : Hid (K = k + 1) := by have h := H2.out; rw [hE] at h; exact h
                clear hE HEnd HGo H1 H2 HBad h128 HAc2
                generalize A + B = U at *
                by_cases hpar : U % 2 = 1
                · have t7 : ((U : Int) % 2 == 1) = true := by rw [beq_iff_eq]; omega
                  have hun : unf U = -((U / 2 : Nat) : Int) - 1 := by unfold unf; rw [if_neg (by omega)]
                  clear hpar
                  go_wp2
                  go_ret2
                  exact ⟨by rw [hV.out, hK.out, hun]; rfl, rfl⟩
                · have t7 : ((U : Int) % 2 == 1) = false := by rw [beq_eq_false_iff_ne]; omega
                  have hun : unf U = ((U / 2 : Nat) : Int) := by unfold unf; rw [if_pos (by omega)]
                  clear hpar
                  go_wp2
                  go_ret2
                  exact ⟨by rw [hV.out, hK.out, hun]; rfl, rfl⟩
        · skip
          generalize hA : acc x k = A at *
          go_wp2
          go_loop [6, 7] (fun q j => ∃ t : Nat, t ≤ k ∧ j = .int .i64 (t : Nat) ∧ q = .int .u64 ((x k % 128 * 128 ^ t : Nat) : Int)) (fun _ j => k - (intOf j).toNat)
          case atStart => exact ⟨0, Nat.zero_le _, rfl, by simp⟩
          case round =>
            obtain ⟨t, ht, rfl, rfl⟩ := hrel
            obtain ⟨s1, s2⟩ := HSm.out t ht
            by_cases htk : t < k
            · have s3 := s2 htk
              have eW : IntKind.u64.wrap (((x k % 128 * 128 ^ t : Nat) : Int) * 128) = ((x k % 128 * 128 ^ (t + 1) : Nat) : Int) := by
                have := (HSm.out (t + 1) htk).1
                rw [IntKind.wrap_u64]; omega
              clear s2 s3
              have HS1 := hid s1
              clear s1
              generalize x k % 128 * 128 ^ t = B at *
              go_wp2
              go_round
              case rel => exact ⟨t + 1, htk, by go_num, by simp⟩
              case measure => simp [intOf]; omega
            · obtain rfl : k = t := by omega
              have hU : A + x k % 128 * 128 ^ k < 18446744073709551616 := by rw [← HAcc.out]; exact HBnd.out
              have HEnd := hid (ln_end x n k hlt (by omega))
              have HGo := hid (ln_go x n k hlt (by omega))
              rw [HAcc.out] at HEnd
              have HAc2 := hid HAcc.out
              clear HSm HAcc HBnd s1 s2 htk
              generalize x k % 128 * 128 ^ k = B at *
              have eS : IntKind.u64.wrap ((A : Int) + (B : Int)) = ((A + B : Nat) : Int) := by rw [IntKind.wrap_u64]; omega
              by_cases h128 : 128 ≤ x k
              · have t6 : decide ((x k : Int) < 128) = false := by rw [decide_eq_false_iff_not]; omega
                have hk8 : k ≤ 8 := by have := HBad.out; omega
                have HL := hid (HGo.out h128)
                clear h128 HEnd HGo
                go_wp2
                go_round
                case rel => exact ⟨k + 1, by omega, by go_num, by rw [HAc2.out]; simp, by rw [← HL.out]; exact H1.out, by rw [← HL.out]; exact H2.out⟩
                case measure => simp [intOf]; omega
              · have t6 : decide ((x k : Int) < 128) = true := by rw [decide_eq_true_eq]; omega
                have hE := HEnd.out h128 (by have := HBad.out; omega)
                have hV : Hid (V = unf (A + B)) := by have h := H1.out; rw [hE] at h; exact h
                have hK : Hid (K = k + 1) := by have h := H2.out; rw [hE] at h; exact h
                clear hE HEnd HGo H1 H2 HBad h128 HAc2
                generalize A + B = U at *
                by_cases hpar : U % 2 = 1
                · have t7 : ((U : Int) % 2 == 1) = true := by rw [beq_iff_eq]; omega
                  have hun : unf U = -((U / 2 : Nat) : Int) - 1 := by unfold unf; rw [if_neg (by omega)]
                  clear hpar
                  go_wp2
                  go_ret2
                  exact ⟨by rw [hV.out, hK.out, hun]; rfl, rfl⟩
                · have t7 : ((U : Int) % 2 == 1) = false := by rw [beq_eq_false_iff_ne]; omega
                  have hun : unf U = ((U / 2 : Nat) : Int) := by unfold unf; rw [if_pos (by omega)]
                  clear hpar
                  go_wp2
                  go_ret2
                  exact ⟨by rw [hV.out, hK.out, hun]; rfl, rfl⟩
        · skip
          generalize hA : acc x k = A at *
          go_wp2
          go_loop [6, 7] (fun q j => ∃ t : Nat, t ≤ k ∧ j = .int .i64 (t : Nat) ∧ q = .int .u64 ((x k % 128 * 128 ^ t : Nat) : Int)) (fun _ j => k - (intOf j).toNat)
          case atStart => exact ⟨0, Nat.zero_le _, rfl, by simp⟩
          case round =>
            obtain ⟨t, ht, rfl, rfl⟩ := hrel
            obtain ⟨s1, s2⟩ := HSm.out t ht
            by_cases htk : t < k
            · have s3 := s2 htk
              have eW : IntKind.u64.wrap (((x k % 128 * 128 ^ t : Nat) : Int) * 128) = ((x k % 128 * 128 ^ (t + 1) : Nat) : Int) := by
                have := (HSm.out (t + 1) htk).1
                rw [IntKind.wrap_u64]; omega
              clear s2 s3
              have HS1 := hid s1
              clear s1
              generalize x k % 128 * 128 ^ t = B at *
              go_wp2
              go_round
              case rel => exact ⟨t + 1, htk, by go_num, by simp⟩
              case measure => simp [intOf]; omega
            · obtain rfl : k = t := by omega
              have hU : A + x k % 128 * 128 ^ k < 18446744073709551616 := by rw [← HAcc.out]; exact HBnd.out
              have HEnd := hid (ln_end x n k hlt (by omega))
              have HGo := hid (ln_go x n k hlt (by omega))
              rw [HAcc.out] at HEnd
              have HAc2 := hid HAcc.out
              clear HSm HAcc HBnd s1 s2 htk
              generalize x k % 128 * 128 ^ k = B at *
              have eS : IntKind.u64.wrap ((A : Int) + (B : Int)) = ((A + B : Nat) : Int) := by rw [IntKind.wrap_u64]; omega
              by_cases h128 : 128 ≤ x k
              · have t6 : decide ((x k : Int) < 128) = false := by rw [decide_eq_false_iff_not]; omega
                have hk8 : k ≤ 8 := by have := HBad.out; omega
                have HL := hid (HGo.out h128)
                clear h128 HEnd HGo
                go_wp2
                go_round
                case rel => exact ⟨k + 1, by omega, by go_num, by rw [HAc2.out]; simp, by rw [← HL.out]; exact H1.out, by rw [← HL.out]; exact H2.out⟩
                case measure => simp [intOf]; omega
              · have t6 : decide ((x k : Int) < 128) = true := by rw [decide_eq_true_eq]; omega
                have hE := HEnd.out h128 (by have := HBad.out; omega)
                have hV : Hid (V = unf (A + B)) := by have h := H1.out; rw [hE] at h; exact h
                have hK : Hid (K = k + 1) := by have h := H2.out; rw [hE] at h; exact h
                clear hE HEnd HGo H1 H2 HBad h128 HAc2
                generalize A + B = U at *
                by_cases hpar : U % 2 = 1
                · have t7 : ((U : Int) % 2 == 1) = true := by rw [beq_iff_eq]; omega
                  have hun : unf U = -((U / 2 : Nat) : Int) - 1 := by unfold unf; rw [if_neg (by omega)]
                  clear hpar
                  go_wp2
                  go_ret2
                  exact ⟨by rw [hV.out, hK.out, hun]; rfl, rfl⟩
                · have t7 : ((U : Int) % 2 == 1) = false := by rw [beq_eq_false_iff_ne]; omega
                  have hun : unf U = ((U / 2 : Nat) : Int) := by unfold unf; rw [if_pos (by omega)]
                  clear hpar
                  go_wp2
                  go_ret2
                  exact ⟨by rw [hV.out, hK.out, hun]; rfl, rfl⟩
    · have hz := ln_stop x n (11 - k) k (by omega)
      have hV := H1.out
      have hK := H2.out
      rw [hz] at hV hK
      subst hV hK
      clear hz
      go_wp2
      all_goals go_ret2
      all_goals exact ⟨rfl, rfl⟩
set_option maxHeartbeats 400000 in
set_option maxRecDepth 20000 in
theorem refGetNum_none (a : Option Addr) (c : Nat) (w : World) :
    Calls Tryz.prog 26 #[.slice a 0 c] w fun e w' => e = .returned (.tuple #[.int .i64 0, .int .i64 0]) ∧ w' = w := by
  go_enter Tryz.func26, Tryz.ntmps26
  go_wp2
  refine wp_loop_rounds 1 ?_
  rw [rounds_succ]
  go_wp2
  go_ret2
  exact ⟨rfl, rfl⟩
theorem refGetNum_any (v : Value) (n : Nat) (x : Nat → Nat) (w : World) (hv : ByRow w v n x) :
    Calls Tryz.prog 26 #[v] w fun e w' => e = .returned (.tuple #[.int .i64 (lnV x n), .int .i64 (lnK x n : Nat)]) ∧ w' = w := by
  rcases hv with ⟨rfl, a, c, rfl, _⟩ | ⟨hn, hm, b, off, cap, rfl, hc, _⟩
  · have h := ln_stop x 0 11 0 (by omega)
    rw [show lnV x 0 = 0 by unfold lnV; rw [h], show lnK x 0 = 0 by unfold lnK; rw [h]]
    exact refGetNum_none a c w
  · exact refGetNum_some b off n cap x hm w hc
/-- A variable of the document's value. -/
def BoxR (w : World) (b : Nat) (p : Array Value) : Prop := w.heap[b]? = some (.cells p 84 (0, 0))
theorem BoxR.up {w w' : World} {b : Nat} {p : Array Value} (h : BoxR w b p) (u : Up w w') : BoxR w' b p := (u.block b (lt_of_block h)).trans h
theorem BoxR.cell {w : World} {b : Nat} {p : Array Value} (h : BoxR w b p) (j : Nat) (u : Value) (hj : p[j]? = some u) : w.cell? ⟨b, j, none⟩ = some u := by unfold BoxR at h; simp [World.cell?, h, hj]
theorem BoxR.put {w : World} {b : Nat} {p : Array Value} (h : BoxR w b p) (j : Nat) (u : Value) : BoxR (w.setCell ⟨b, j, none⟩ u) b (p.setIfInBounds j u) := heap_setCell_same w b j _ _ u h
theorem BoxR.free {w : World} {b : Nat} {p : Array Value} (h : BoxR w b p) (j : Nat) : w.frozen? ⟨b, j, none⟩ = false := by unfold BoxR at h; simp [World.frozen?, h]
theorem BoxR.lt {w : World} {b : Nat} {p : Array Value} (h : BoxR w b p) : b < w.heap.size := lt_of_block h
theorem boxes (w : World) (q : Int) : (BoxR ((w.alloc (.cells #[.int .i64 0, .int .i64 0, .float .f64 0, .slice none 0 0, .bool false] 84)).alloc (.cells #[.int .i64 q, .int .i64 0, .float .f64 0, .slice none 0 0, .bool false] 84)) w.heap.size #[.int .i64 0, .int .i64 0, .float .f64 0, .slice none 0 0, .bool false] ∧ BoxR ((w.alloc (.cells #[.int .i64 0, .int .i64 0, .float .f64 0, .slice none 0 0, .bool false] 84)).alloc (.cells #[.int .i64 q, .int .i64 0, .float .f64 0, .slice none 0 0, .bool false] 84)) (w.heap.size + 1) #[.int .i64 q, .int .i64 0, .float .f64 0, .slice none 0 0, .bool false]) ∧ Up w ((w.alloc (.cells #[.int .i64 0, .int .i64 0, .float .f64 0, .slice none 0 0, .bool false] 84)).alloc (.cells #[.int .i64 q, .int .i64 0, .float .f64 0, .slice none 0 0, .bool false] 84)) := by
  refine ⟨⟨?_, ?_⟩, ((Up.refl w).alloc _).alloc _⟩
  · unfold BoxR; rw [Below.heap_alloc _ _ _ (by simp)]; exact heap_new _ _
  · have := heap_new (w.alloc (.cells #[.int .i64 0, .int .i64 0, .float .f64 0, .slice none 0 0, .bool false] 84)) (.cells #[.int .i64 q, .int .i64 0, .float .f64 0, .slice none 0 0, .bool false] 84)
    rw [show (w.alloc (.cells #[.int .i64 0, .int .i64 0, .float .f64 0, .slice none 0 0, .bool false] 84)).heap.size = w.heap.size + 1 by simp] at this
    exact this
/-- What One answers of a key. -/
def OneK (w : World) (n : Nat) (x : Nat → Nat) (e : Ending) (w' : World) : Prop := ∃ X : Nat, e = .returned (.tuple #[.agg #[.int .i64 2, .int .i64 0, .float .f64 X, .slice none 0 0, .bool false], .int .i64 (lkK x n : Nat)]) ∧ (lkK x n ≠ 0 → X = lkV x n) ∧ Up w w'
set_option maxHeartbeats 400000 in
set_option maxRecDepth 20000 in
theorem one_2short (v : Value) (n : Nat) (x : Nat → Nat) (w : World) (hv : ByRow w v n x) (hn : n < 8) :
    Calls Tryz.prog 50 #[v, .int .i64 2] w fun e w' => OneK w n x e w' := by
  have HK : lkK x n = 0 := by unfold lkK; rw [if_neg (by omega)]
  obtain ⟨va, vc, rfl⟩ := hv.slice
  unfold OneK
  rw [HK]
  clear hv HK
  go_enter Tryz.func50, Tryz.ntmps50
  go_upto_region 2 with fail
  have hbx := boxes w 2
  generalize ((w.alloc (.cells #[.int .i64 0, .int .i64 0, .float .f64 0, .slice none 0 0, .bool false] 84)).alloc (.cells #[.int .i64 2, .int .i64 0, .float .f64 0, .slice none 0 0, .bool false] 84)) = WW at hbx ⊢
  obtain ⟨⟨hb4, hb5⟩, uW⟩ := hbx
  have q0 := (hb5).cell 0 _ rfl
  have q1 := (hb5).cell 1 _ rfl
  have q2 := (hb5).cell 2 _ rfl
  have q3 := (hb5).cell 3 _ rfl
  have q4 := (hb5).cell 4 _ rfl
  have p0 := (hb4).cell 0 _ rfl
  have p1 := (hb4).cell 1 _ rfl
  have p2 := (hb4).cell 2 _ rfl
  have p3 := (hb4).cell 3 _ rfl
  have p4 := (hb4).cell 4 _ rfl
  have z0 := (hb4).free 0
  have z1 := (hb4).free 1
  have z2 := (hb4).free 2
  have z3 := (hb4).free 3
  have z4 := (hb4).free 4
  have HX4 := hid (hb4)
  clear hb4 hb5
  go_wp2
  have hfin := (((((HX4.out.put 0 (.int .i64 2)).put 1 (.int .i64 0)).put 2 (.float .f64 0)).put 3 (.slice none 0 0)).put 4 (.bool false))
  have UF : Up w (((((WW.setCell ⟨w.heap.size, 0, none⟩ (.int .i64 2)).setCell ⟨w.heap.size, 1, none⟩ (.int .i64 0)).setCell ⟨w.heap.size, 2, none⟩ (.float .f64 0)).setCell ⟨w.heap.size, 3, none⟩ (.slice none 0 0)).setCell ⟨w.heap.size, 4, none⟩ (.bool false)) := (((((uW).setCell (Nat.le_refl _) _).setCell (Nat.le_refl _) _).setCell (Nat.le_refl _) _).setCell (Nat.le_refl _) _).setCell (Nat.le_refl _) _
  have g0 := hfin.cell 0 (.int .i64 2) rfl
  have g1 := hfin.cell 1 (.int .i64 0) rfl
  have g2 := hfin.cell 2 (.float .f64 0) rfl
  have g3 := hfin.cell 3 (.slice none 0 0) rfl
  have g4 := hfin.cell 4 (.bool false) rfl
  refine bodyPost_ret (v := .tuple #[.agg #[.int .i64 2, .int .i64 0, .float .f64 0, .slice none 0 0, .bool false], .int .i64 0]) (by simp [results, Tryz.results50, go_sem, g0, g1, g2, g3, g4]) rfl ⟨0, rfl, fun h => absurd rfl h, UF⟩
set_option maxHeartbeats 1000000 in
set_option maxRecDepth 20000 in
theorem one_2 (b off n cap : Nat) (x : Nat → Nat) (w : World) (hn : 8 ≤ n) (hnc : n ≤ cap) (hm : cap ≤ maxLen) (hc : ∀ i, i < n → x i < 256 ∧ w.cell? ⟨b, off + i, none⟩ = some (.int .u8 (x i : Int))) :
    Calls Tryz.prog 50 #[.slice (some ⟨b, off, none⟩) n cap, .int .i64 2] w fun e w' => OneK w n x e w' := by
  unfold maxLen at hm
  have HL := hid (lkC_lt x n (fun i hi => (hc i hi).1))
  have HW : Fl.W (lkC x 8) := by have := HL.out 8 hn; unfold Fl.W; exact Nat.lt_of_lt_of_le this (by decide)
  have HIC := hid (fun W => isCode_any (lkC x 8) HW W)
  have HOF := hid (fun W => rof_any (lkC x 8) HW W)
  have HLT := hid (Fl.of_lt (lkC x 8) HW)
  have HC := hid (fun (W : World) (hW : Up w W) i hi => (⟨(hc i hi).1, hW.keep (hc i hi).2⟩ : x i < 256 ∧ W.cell? ⟨b, off + i, none⟩ = some (.int .u8 (x i : Int))))
  have HKy : Hid (Fl.isCode (lkC x 8) = true → lkK x n = 8 ∧ lkV x n = Fl.of (lkC x 8)) := fun h => ⟨by unfold lkK; rw [if_pos ⟨hn, h⟩], by unfold lkV; rw [if_pos ⟨hn, h⟩]⟩
  have HKn : Hid (Fl.isCode (lkC x 8) = false → lkK x n = 0) := fun h => by unfold lkK; rw [if_neg (by simp [h])]
  clear hc HW
  unfold OneK
  generalize hKK : lkK x n = KK
  have HKK := hid hKK
  clear hKK
  go_enter Tryz.func50, Tryz.ntmps50
  go_upto_region 2 with fail
  have hbx := boxes w 2
  generalize ((w.alloc (.cells #[.int .i64 0, .int .i64 0, .float .f64 0, .slice none 0 0, .bool false] 84)).alloc (.cells #[.int .i64 2, .int .i64 0, .float .f64 0, .slice none 0 0, .bool false] 84)) = WW at hbx ⊢
  obtain ⟨⟨hb4, hb5⟩, uW⟩ := hbx
  have HB4 := hid hb4
  have HB5 := hid hb5
  have UW := hid uW
  clear hb4 hb5 uW
  go_wp2
  go_loop [9, 10] (fun u i => ∃ k : Nat, k ≤ 8 ∧ i = .int .i64 (k : Nat) ∧ u = .int .u64 (lkC x k : Nat)) (fun _ i => 8 - (intOf i).toNat)
  case atStart => exact ⟨0, by omega, rfl, rfl⟩
  case round =>
    obtain ⟨k, hk, rfl, rfl⟩ := hrel
    by_cases hlt : k < 8
    · obtain ⟨hx, hcell⟩ := HC.out _ UW.out k (by omega)
      have h1 := HL.out k (by omega)
      have h2 : (256 : Nat) ^ k ≤ 256 ^ 7 := Nat.pow_le_pow_right (by omega) (by omega)
      have h3 : lkC x k < 72057594037927936 := Nat.lt_of_lt_of_le h1 (Nat.le_trans h2 (by decide))
      have HS : Hid (lkC x (k + 1) = lkC x k * 256 + x k) := rfl
      clear HC h1 h2 HL HKy HKn HIC HOF HLT
      generalize lkC x k = A at *
      have e1 : IntKind.u64.wrap ((A : Int) * 256) = (A : Int) * 256 := by rw [IntKind.wrap_u64]; omega
      have e2 : IntKind.u64.wrap ((A : Int) * 256 + (x k : Int)) = ((A * 256 + x k : Nat) : Int) := by rw [IntKind.wrap_u64]; omega
      go_wp2
      go_round
      case rel => exact ⟨k + 1, by omega, by go_num, by rw [HS.out]; first | rfl | (simp; done)⟩
      case measure => simp [intOf]; omega
    · obtain rfl : k = 8 := by omega
      have hb4 := HB4.out
      have hb5 := HB5.out
      have uW := UW.out
      cases hcode : Fl.isCode (lkC x 8)
      · rw [hcode] at HIC
        have hK0 : KK = 0 := HKK.out.symm.trans (HKn.out hcode)
        subst hK0
        clear HKy HKn HOF HLT HL HC hcode HKK
        generalize lkC x 8 = A at *
        have q0 := (hb5).cell 0 _ rfl
        have q1 := (hb5).cell 1 _ rfl
        have q2 := (hb5).cell 2 _ rfl
        have q3 := (hb5).cell 3 _ rfl
        have q4 := (hb5).cell 4 _ rfl
        have p0 := (hb4).cell 0 _ rfl
        have p1 := (hb4).cell 1 _ rfl
        have p2 := (hb4).cell 2 _ rfl
        have p3 := (hb4).cell 3 _ rfl
        have p4 := (hb4).cell 4 _ rfl
        have z0 := (hb4).free 0
        have z1 := (hb4).free 1
        have z2 := (hb4).free 2
        have z3 := (hb4).free 3
        have z4 := (hb4).free 4
        have HX4 := hid (hb4)
        clear hb4 hb5
        go_wp2_with (go_at_call 77; refine (HIC.out _).mono ?_; rintro e w1 ⟨rfl, hw⟩; have hw2 := hw.symm; subst hw2)
        have hfin := (((((HX4.out.put 0 (.int .i64 2)).put 1 (.int .i64 0)).put 2 (.float .f64 0)).put 3 (.slice none 0 0)).put 4 (.bool false))
        have UF : Up w (((((WW.setCell ⟨w.heap.size, 0, none⟩ (.int .i64 2)).setCell ⟨w.heap.size, 1, none⟩ (.int .i64 0)).setCell ⟨w.heap.size, 2, none⟩ (.float .f64 0)).setCell ⟨w.heap.size, 3, none⟩ (.slice none 0 0)).setCell ⟨w.heap.size, 4, none⟩ (.bool false)) := (((((uW).setCell (Nat.le_refl _) _).setCell (Nat.le_refl _) _).setCell (Nat.le_refl _) _).setCell (Nat.le_refl _) _).setCell (Nat.le_refl _) _
        have g0 := hfin.cell 0 (.int .i64 2) rfl
        have g1 := hfin.cell 1 (.int .i64 0) rfl
        have g2 := hfin.cell 2 (.float .f64 0) rfl
        have g3 := hfin.cell 3 (.slice none 0 0) rfl
        have g4 := hfin.cell 4 (.bool false) rfl
        refine bodyPost_ret (v := .tuple #[.agg #[.int .i64 2, .int .i64 0, .float .f64 0, .slice none 0 0, .bool false], .int .i64 0]) (by simp [results, Tryz.results50, go_sem, g0, g1, g2, g3, g4]) rfl ⟨0, rfl, fun h => absurd rfl h, UF⟩
      · rw [hcode] at HIC
        obtain ⟨hK8', hV8⟩ := HKy.out hcode
        have hK8 : KK = 8 := HKK.out.symm.trans hK8'
        subst hK8
        have HI : Hid (Fl.of (lkC x 8) = lkV x n) := hV8.symm
        clear HKy HKn HL HC hcode hK8' hV8 HKK
        generalize Fl.of (lkC x 8) = V at *
        generalize lkC x 8 = A at *
        have hb6 : BoxR (WW.setCell ⟨w.heap.size + 1, 2, none⟩ (.float .f64 V)) (w.heap.size + 1) #[.int .i64 2, .int .i64 0, .float .f64 V, .slice none 0 0, .bool false] := heap_setCell_same _ (w.heap.size + 1) 2 _ _ (.float .f64 V) hb5
        have hb7 : BoxR (WW.setCell ⟨w.heap.size + 1, 2, none⟩ (.float .f64 V)) w.heap.size #[.int .i64 0, .int .i64 0, .float .f64 0, .slice none 0 0, .bool false] := (Below.heap_setCell _ _ _ _ (by simp)).trans hb4
        have f2 := hb5.free 2
        have d2 := hb5.cell 2 _ rfl
        have q0 := (hb6).cell 0 _ rfl
        have q1 := (hb6).cell 1 _ rfl
        have q2 := (hb6).cell 2 _ rfl
        have q3 := (hb6).cell 3 _ rfl
        have q4 := (hb6).cell 4 _ rfl
        have p0 := (hb7).cell 0 _ rfl
        have p1 := (hb7).cell 1 _ rfl
        have p2 := (hb7).cell 2 _ rfl
        have p3 := (hb7).cell 3 _ rfl
        have p4 := (hb7).cell 4 _ rfl
        have z0 := (hb7).free 0
        have z1 := (hb7).free 1
        have z2 := (hb7).free 2
        have z3 := (hb7).free 3
        have z4 := (hb7).free 4
        have HX4 := hid (hb7)
        clear hb4 hb5 hb6 hb7
        go_wp2_with (first | (go_at_call 77; refine (HIC.out _).mono ?_; rintro e w1 ⟨rfl, hw⟩; have hw2 := hw.symm; subst hw2) | (go_at_call 78; refine (HOF.out _).mono ?_; rintro e w1 ⟨rfl, hw⟩; have hw2 := hw.symm; subst hw2))
        have hfin := (((((HX4.out.put 0 (.int .i64 2)).put 1 (.int .i64 0)).put 2 (.float .f64 V)).put 3 (.slice none 0 0)).put 4 (.bool false))
        have UF : Up w ((((((WW.setCell ⟨w.heap.size + 1, 2, none⟩ (.float .f64 V)).setCell ⟨w.heap.size, 0, none⟩ (.int .i64 2)).setCell ⟨w.heap.size, 1, none⟩ (.int .i64 0)).setCell ⟨w.heap.size, 2, none⟩ (.float .f64 V)).setCell ⟨w.heap.size, 3, none⟩ (.slice none 0 0)).setCell ⟨w.heap.size, 4, none⟩ (.bool false)) := (((((uW.setCell (p := ⟨w.heap.size + 1, 2, none⟩) (Nat.le_succ _) _).setCell (Nat.le_refl _) _).setCell (Nat.le_refl _) _).setCell (Nat.le_refl _) _).setCell (Nat.le_refl _) _).setCell (Nat.le_refl _) _
        have g0 := hfin.cell 0 (.int .i64 2) rfl
        have g1 := hfin.cell 1 (.int .i64 0) rfl
        have g2 := hfin.cell 2 (.float .f64 V) rfl
        have g3 := hfin.cell 3 (.slice none 0 0) rfl
        have g4 := hfin.cell 4 (.bool false) rfl
        refine bodyPost_ret (v := .tuple #[.agg #[.int .i64 2, .int .i64 0, .float .f64 V, .slice none 0 0, .bool false], .int .i64 8]) (by simp [results, Tryz.results50, go_sem, g0, g1, g2, g3, g4]) rfl ⟨V, rfl, fun _ => HI.out, UF⟩
theorem one_key (v : Value) (n : Nat) (x : Nat → Nat) (w : World) (hv : ByRow w v n x) :
    Calls Tryz.prog 50 #[v, .int .i64 2] w fun e w' => OneK w n x e w' := by
  by_cases h : 8 ≤ n
  · obtain ⟨b, off, cap, rfl, hc, hnc, hm⟩ := hv.cells (by omega)
    exact one_2 b off n cap x w h hnc hm hc
  · exact one_2short v n x w hv (by omega)
end Go.Proofs.YtbkklemhhdejpaaGreat.Pk
