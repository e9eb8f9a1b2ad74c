/- The number with which bytes begin, as the document's GetNum has it; condition: the row lies in memory. -/
import Derived.Test.YtgpfmohaogppiaaPkC
namespace Go.Proofs.Ytgpfmohaogppiaa.Pk
open Go.RowKit
set_option maxRecDepth 20000
set_option linter.unusedVariables false
theorem pow9 (t : Nat) (ht : t ≤ 9) : (128 : Nat) ^ t ≤ 9223372036854775808 := by
  have h : (128 : Nat) ^ t ≤ 128 ^ 9 := Nat.pow_le_pow_right (by omega) ht
  have e : (128 : Nat) ^ 9 = 9223372036854775808 := by decide
  omega
set_option maxHeartbeats 4000000 in
set_option maxRecDepth 20000 in
theorem refGetNum_some (b off n cap : Nat) (x : Nat → Nat) (hm : n ≤ maxLen) (w : World) (hc : ∀ i, i < n → x i < 256 ∧ w.cell? ⟨b, off + i, none⟩ = some (.int .u8 (x i : Int))) :
    Calls Try.prog 59 #[.slice (some ⟨b, off, none⟩) n cap] w fun e w' => e = .returned (.tuple #[.int .i64 (lnV x n), .int .i64 (lnK x n : Nat)]) ∧ w' = w := by
  unfold maxLen at hm
  have HC := hid hc
  clear hc
  have HG : Hid (lnV x n = (ln x n 11 0).1 ∧ lnK x n = (ln x n 11 0).2) := ⟨rfl, rfl⟩
  generalize lnV x n = V at *
  generalize lnK x n = K at *
  go_enter Try.func59, Try.ntmps59
  go_wp2
  go_loop [4, 5] (fun u i => ∃ k : Nat, k ≤ 9 ∧ i = .int .i64 (k : Nat) ∧ u = .int .u64 (acc x k : Nat) ∧ V = (ln x n (11 - k) k).1 ∧ K = (ln x n (11 - k) k).2) (fun _ i => 10 - (intOf i).toNat)
  case atStart => exact ⟨0, by omega, rfl, rfl, HG.out.1, HG.out.2⟩
  case round =>
    obtain ⟨k, hk, rfl, rfl, hV, hK⟩ := hrel
    have H1 := hid hV
    have H2 := hid hK
    clear hV hK HG
    by_cases hlt : k < n
    · obtain ⟨hx, hcell⟩ := HC.out k hlt
      clear HC
      have hA := acc_lt x k
      have hp9 := pow9 k hk
      have l10 : (k : Int) < 10 := by omega
      by_cases hb : (k = 9 ∧ 1 < x k) ∨ (0 < k ∧ x k = 0)
      · have hz : ln x n (11 - k) k = (0, 0) := by
          by_cases h128 : 128 ≤ x k
          · have h9 : k = 9 := by omega
            rw [ln_go x n k hlt (by omega) h128, h9]
            exact ln_stop x n _ _ (by omega)
          · exact ln_bad x n k hlt (by omega) h128 (by omega)
        have hV := H1.out
        have hK := H2.out
        rw [hz] at hV hK
        subst hV hK
        clear hz H1 H2 hA hp9
        by_cases h9 : k = 9 ∧ 1 < x k
        · obtain ⟨h9a, h9b⟩ := h9
          have t1 : ((k : Int) == 9) = true := by rw [h9a]; rfl
          have t2 : decide ((1 : Int) < (x k : Int)) = true := by rw [decide_eq_true_eq]; omega
          clear hb h9a h9b
          generalize acc x k = A at *
          go_wp2
          go_ret2
          exact ⟨rfl, rfl⟩
        · have h0 : 0 < k ∧ x k = 0 := by rcases hb with h | h; exact absurd h h9; exact h
          obtain ⟨h0a, h0b⟩ := h0
          have t2 : ((x k : Int) == 0) = true := by rw [h0b]; rfl
          have t3 : decide ((1 : Int) < (x k : Int)) = false := by rw [h0b]; rfl
          by_cases h9k : k = 9
          · have t4 : ((k : Int) == 9) = true := by rw [h9k]; rfl
            clear hb h9 h0b h9k
            generalize acc x k = A at *
            go_wp2
            go_ret2
            exact ⟨rfl, rfl⟩
          · have t4 : ((k : Int) == 9) = false := by rw [beq_eq_false_iff_ne]; omega
            clear hb h9 h0b h9k
            generalize acc x k = A at *
            go_wp2
            go_ret2
            exact ⟨rfl, rfl⟩
      · have hacc : acc x (k + 1) = acc x k + x k % 128 * 128 ^ k := rfl
        have hD : (((k : Int) == 9) = true ∧ decide ((1 : Int) < (x k : Int)) = false ∧ 0 < k ∧ ((x k : Int) == 0) = false) ∨ (((k : Int) == 9) = false ∧ True ∧ 0 < k ∧ ((x k : Int) == 0) = false) ∨ (((k : Int) == 9) = false ∧ True ∧ ¬ 0 < k ∧ True) := by
          by_cases h9 : k = 9
          · left
            refine ⟨by rw [h9]; rfl, by rw [decide_eq_false_iff_not]; omega, by omega, by rw [beq_eq_false_iff_ne]; omega⟩
          · right
            by_cases h0 : 0 < k
            · left
              exact ⟨by rw [beq_eq_false_iff_ne]; omega, trivial, h0, by rw [beq_eq_false_iff_ne]; omega⟩
            · right
              exact ⟨by rw [beq_eq_false_iff_ne]; omega, trivial, h0, trivial⟩
        have hsm : ∀ t, t ≤ k → x k % 128 * 128 ^ t ≤ 9223372036854775808 ∧ (t < k → x k % 128 * 128 ^ t * 128 = x k % 128 * 128 ^ (t + 1)) := by
          intro t ht
          refine ⟨?_, fun _ => by rw [Nat.pow_succ, Nat.mul_assoc]⟩
          by_cases h9 : k = 9
          · have : x k % 128 ≤ 1 := by omega
            have h2 := pow9 t (by omega)
            have : x k % 128 * 128 ^ t ≤ 1 * 128 ^ t := Nat.mul_le_mul_right _ this
            omega
          · have h3 : x k % 128 * 128 ^ t ≤ 127 * 128 ^ t := Nat.mul_le_mul_right _ (by omega)
            have h4 : (128 : Nat) ^ t ≤ 128 ^ 8 := Nat.pow_le_pow_right (by omega) (by omega)
            have e : (128 : Nat) ^ 8 = 72057594037927936 := by decide
            omega
        have HSm := hid hsm
        have hbnd : acc x (k + 1) < 18446744073709551616 := by
          have := (hsm k (Nat.le_refl _)).1
          omega
        have HAcc := hid hacc
        have HBnd := hid hbnd
        have HBad := hid hb
        have hAk : acc x k < 9223372036854775808 := by omega
        clear hacc hbnd hsm hb hA hp9
        rcases hD with ⟨t1, t2, t3, t4⟩ | ⟨t1, t2, t3, t4⟩ | ⟨t1, t2, t3, t4⟩
        · skip
          generalize hA : acc x k = A at *
          go_wp2
          go_loop [6, 7] (fun q j => ∃ t : Nat, t ≤ k ∧ j = .int .i64 (t : Nat) ∧ q = .int .u64 ((x k % 128 * 128 ^ t : Nat) : Int)) (fun _ j => k - (intOf j).toNat)
          case atStart => exact ⟨0, Nat.zero_le _, rfl, by simp⟩
          case round =>
            obtain ⟨t, ht, rfl, rfl⟩ := hrel
            obtain ⟨s1, s2⟩ := HSm.out t ht
            by_cases htk : t < k
            · have s3 := s2 htk
              have eW : IntKind.u64.wrap (((x k % 128 * 128 ^ t : Nat) : Int) * 128) = ((x k % 128 * 128 ^ (t + 1) : Nat) : Int) := by
                have := (HSm.out (t + 1) htk).1
                rw [IntKind.wrap_u64]; omega
              clear s2 s3
              have HS1 := hid s1
              clear s1
              generalize x k % 128 * 128 ^ t = B at *
              go_wp2
              go_round
              case rel => exact ⟨t + 1, htk, by go_num, by simp⟩
              case measure => simp [intOf]; omega
            · obtain rfl : k = t := by omega
              have hU : A + x k % 128 * 128 ^ k < 18446744073709551616 := by rw [← HAcc.out]; exact HBnd.out
              have HEnd := hid (ln_end x n k hlt (by omega))
              have HGo := hid (ln_go x n k hlt (by omega))
              rw [HAcc.out] at HEnd
              have HAc2 := hid HAcc.out
              clear HSm HAcc HBnd s1 s2 htk
              generalize x k % 128 * 128 ^ k = B at *
              have eS : IntKind.u64.wrap ((A : Int) + (B : Int)) = ((A + B : Nat) : Int) := by rw [IntKind.wrap_u64]; omega
              by_cases h128 : 128 ≤ x k
              · have t6 : decide ((x k : Int) < 128) = false := by rw [decide_eq_false_iff_not]; omega
                have hk8 : k ≤ 8 := by have := HBad.out; omega
                have HL := hid (HGo.out h128)
                clear h128 HEnd HGo
                go_wp2
                go_round
                case rel => exact ⟨k + 1, by omega, by go_num, by rw [HAc2.out]; simp, by rw [← HL.out]; exact H1.out, by rw [← HL.out]; exact H2.out⟩
                case measure => simp [intOf]; omega
              · have t6 : decide ((x k : Int) < 128) = true := by rw [decide_eq_true_eq]; omega
                have hE := HEnd.out h128 (by have := HBad.out; omega)
                have hV : Hid (V = unf (A + B)) := by have h := H1.out; rw [hE] at h; exact h
                have hK : Hid (K = k + 1) := by have h := H2.out; rw [hE] at h; exact h
                clear hE HEnd HGo H1 H2 HBad h128 HAc2
                generalize A + B = U at *
                by_cases hpar : U % 2 = 1
                · have t7 : ((U : Int) % 2 == 1) = true := by rw [beq_iff_eq]; omega
                  have hun : unf U = -((U / 2 : Nat) : Int) - 1 := by unfold unf; rw [if_neg (by omega)]
                  clear hpar
                  go_wp2
                  go_ret2
                  exact ⟨by rw [hV.out, hK.out, hun]; rfl, rfl⟩
                · have t7 : ((U : Int) % 2 == 1) = false := by rw [beq_eq_false_iff_ne]; omega
                  have hun : unf U = ((U / 2 : Nat) : Int) := by unfold unf; rw [if_pos (by omega)]
                  clear hpar
                  go_wp2
                  go_ret2
                  exact ⟨by rw [hV.out, hK.out, hun]; rfl, rfl⟩
        · skip
          generalize hA : acc x k = A at *
          go_wp2
          go_loop [6, 7] (fun q j => ∃ t : Nat, t ≤ k ∧ j = .int .i64 (t : Nat) ∧ q = .int .u64 ((x k % 128 * 128 ^ t : Nat) : Int)) (fun _ j => k - (intOf j).toNat)
          case atStart => exact ⟨0, Nat.zero_le _, rfl, by simp⟩
          case round =>
            obtain ⟨t, ht, rfl, rfl⟩ := hrel
            obtain ⟨s1, s2⟩ := HSm.out t ht
            by_cases htk : t < k
            · have s3 := s2 htk
              have eW : IntKind.u64.wrap (((x k % 128 * 128 ^ t : Nat) : Int) * 128) = ((x k % 128 * 128 ^ (t + 1) : Nat) : Int) := by
                have := (HSm.out (t + 1) htk).1
                rw [IntKind.wrap_u64]; omega
              clear s2 s3
              have HS1 := hid s1
              clear s1
              generalize x k % 128 * 128 ^ t = B at *
              go_wp2
              go_round
              case rel => exact ⟨t + 1, htk, by go_num, by simp⟩
              case measure => simp [intOf]; omega
            · obtain rfl : k = t := by omega
              have hU : A + x k % 128 * 128 ^ k < 18446744073709551616 := by rw [← HAcc.out]; exact HBnd.out
              have HEnd := hid (ln_end x n k hlt (by omega))
              have HGo := hid (ln_go x n k hlt (by omega))
              rw [HAcc.out] at HEnd
              have HAc2 := hid HAcc.out
              clear HSm HAcc HBnd s1 s2 htk
              generalize x k % 128 * 128 ^ k = B at *
              have eS : IntKind.u64.wrap ((A : Int) + (B : Int)) = ((A + B : Nat) : Int) := by rw [IntKind.wrap_u64]; omega
              by_cases h128 : 128 ≤ x k
              · have t6 : decide ((x k : Int) < 128) = false := by rw [decide_eq_false_iff_not]; omega
                have hk8 : k ≤ 8 := by have := HBad.out; omega
                have HL := hid (HGo.out h128)
                clear h128 HEnd HGo
                go_wp2
                go_round
                case rel => exact ⟨k + 1, by omega, by go_num, by rw [HAc2.out]; simp, by rw [← HL.out]; exact H1.out, by rw [← HL.out]; exact H2.out⟩
                case measure => simp [intOf]; omega
              · have t6 : decide ((x k : Int) < 128) = true := by rw [decide_eq_true_eq]; omega
                have hE := HEnd.out h128 (by have := HBad.out; omega)
                have hV : Hid (V = unf (A + B)) := by have h := H1.out; rw [hE] at h; exact h
                have hK : Hid (K = k + 1) := by have h := H2.out; rw [hE] at h; exact h
                clear hE HEnd HGo H1 H2 HBad h128 HAc2
                generalize A + B = U at *
                by_cases hpar : U % 2 = 1
                · have t7 : ((U : Int) % 2 == 1) = true := by rw [beq_iff_eq]; omega
                  have hun : unf U = -((U / 2 : Nat) : Int) - 1 := by unfold unf; rw [if_neg (by omega)]
                  clear hpar
                  go_wp2
                  go_ret2
                  exact ⟨by rw [hV.out, hK.out, hun]; rfl, rfl⟩
                · have t7 : ((U : Int) % 2 == 1) = false := by rw [beq_eq_false_iff_ne]; omega
                  have hun : unf U = ((U / 2 : Nat) : Int) := by unfold unf; rw [if_pos (by omega)]
                  clear hpar
                  go_wp2
                  go_ret2
                  exact ⟨by rw [hV.out, hK.out, hun]; rfl, rfl⟩
        · skip
          generalize hA : acc x k = A at *
          go_wp2
          go_loop [6, 7] (fun q j => ∃ t : Nat, t ≤ k ∧ j = .int .i64 (t : Nat) ∧ q = .int .u64 ((x k % 128 * 128 ^ t : Nat) : Int)) (fun _ j => k - (intOf j).toNat)
          case atStart => exact ⟨0, Nat.zero_le _, rfl, by simp⟩
          case round =>
            obtain ⟨t, ht, rfl, rfl⟩ := hrel
            obtain ⟨s1, s2⟩ := HSm.out t ht
            by_cases htk : t < k
            · have s3 := s2 htk
              have eW : IntKind.u64.wrap (((x k % 128 * 128 ^ t : Nat) : Int) * 128) = ((x k % 128 * 128 ^ (t + 1) : Nat) : Int) := by
                have := (HSm.out (t + 1) htk).1
                rw [IntKind.wrap_u64]; omega
              clear s2 s3
              have HS1 := hid s1
              clear s1
              generalize x k % 128 * 128 ^ t = B at *
              go_wp2
              go_round
              case rel => exact ⟨t + 1, htk, by go_num, by simp⟩
              case measure => simp [intOf]; omega
            · obtain rfl : k = t := by omega
              have hU : A + x k % 128 * 128 ^ k < 18446744073709551616 := by rw [← HAcc.out]; exact HBnd.out
              have HEnd := hid (ln_end x n k hlt (by omega))
              have HGo := hid (ln_go x n k hlt (by omega))
              rw [HAcc.out] at HEnd
              have HAc2 := hid HAcc.out
              clear HSm HAcc HBnd s1 s2 htk
              generalize x k % 128 * 128 ^ k = B at *
              have eS : IntKind.u64.wrap ((A : Int) + (B : Int)) = ((A + B : Nat) : Int) := by rw [IntKind.wrap_u64]; omega
              by_cases h128 : 128 ≤ x k
              · have t6 : decide ((x k : Int) < 128) = false := by rw [decide_eq_false_iff_not]; omega
                have hk8 : k ≤ 8 := by have := HBad.out; omega
                have HL := hid (HGo.out h128)
                clear h128 HEnd HGo
                go_wp2
                go_round
                case rel => exact ⟨k + 1, by omega, by go_num, by rw [HAc2.out]; simp, by rw [← HL.out]; exact H1.out, by rw [← HL.out]; exact H2.out⟩
                case measure => simp [intOf]; omega
              · have t6 : decide ((x k : Int) < 128) = true := by rw [decide_eq_true_eq]; omega
                have hE := HEnd.out h128 (by have := HBad.out; omega)
                have hV : Hid (V = unf (A + B)) := by have h := H1.out; rw [hE] at h; exact h
                have hK : Hid (K = k + 1) := by have h := H2.out; rw [hE] at h; exact h
                clear hE HEnd HGo H1 H2 HBad h128 HAc2
                generalize A + B = U at *
                by_cases hpar : U % 2 = 1
                · have t7 : ((U : Int) % 2 == 1) = true := by rw [beq_iff_eq]; omega
                  have hun : unf U = -((U / 2 : Nat) : Int) - 1 := by unfold unf; rw [if_neg (by omega)]
                  clear hpar
                  go_wp2
                  go_ret2
                  exact ⟨by rw [hV.out, hK.out, hun]; rfl, rfl⟩
                · have t7 : ((U : Int) % 2 == 1) = false := by rw [beq_eq_false_iff_ne]; omega
                  have hun : unf U = ((U / 2 : Nat) : Int) := by unfold unf; rw [if_pos (by omega)]
                  clear hpar
                  go_wp2
                  go_ret2
                  exact ⟨by rw [hV.out, hK.out, hun]; rfl, rfl⟩
    · have hz := ln_stop x n (11 - k) k (by omega)
      have hV := H1.out
      have hK := H2.out
      rw [hz] at hV hK
      subst hV hK
      clear hz
      go_wp2
      all_goals go_ret2
      all_goals exact ⟨rfl, rfl⟩
set_option maxHeartbeats 400000 in
set_option maxRecDepth 20000 in
theorem refGetNum_none (a : Option Addr) (c : Nat) (w : World) :
    Calls Try.prog 59 #[.slice a 0 c] w fun e w' => e = .returned (.tuple #[.int .i64 0, .int .i64 0]) ∧ w' = w := by
  go_enter Try.func59, Try.ntmps59
  go_wp2
  refine wp_loop_rounds 1 ?_
  rw [rounds_succ]
  go_wp2
  go_ret2
  exact ⟨rfl, rfl⟩
theorem refGetNum_any (v : Value) (n : Nat) (x : Nat → Nat) (w : World) (hv : ByRow w v n x) :
    Calls Try.prog 59 #[v] w fun e w' => e = .returned (.tuple #[.int .i64 (lnV x n), .int .i64 (lnK x n : Nat)]) ∧ w' = w := by
  rcases hv with ⟨rfl, a, c, rfl, _⟩ | ⟨hn, hm, b, off, cap, rfl, hc, _⟩
  · have h := ln_stop x 0 11 0 (by omega)
    rw [show lnV x 0 = 0 by unfold lnV; rw [h], show lnK x 0 = 0 by unfold lnK; rw [h]]
    exact refGetNum_none a c w
  · exact refGetNum_some b off n cap x hm w hc
end Go.Proofs.Ytgpfmohaogppiaa.Pk
