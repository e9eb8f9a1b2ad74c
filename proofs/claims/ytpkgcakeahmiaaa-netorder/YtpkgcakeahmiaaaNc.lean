/- The law NetOrder's walk; no condition. -/
import Derived.Test.YtpkgcakeahmiaaaNb
namespace Go.Proofs.Ytpkgcakeahmiaaa
open Go.RowKit Go.Lib Go.ChangeShapes Go.WideShapes
set_option linter.unusedVariables false
set_option linter.unusedSimpArgs false
set_option maxRecDepth 20000
theorem and_mask (a : Int) (m : Nat) (hm : m < 9223372036854775808) : ∃ M : Nat, M ≤ m ∧ bits .and .i64 a (m : Int) = (M : Int) := by
  refine ⟨(BitVec.ofInt 64 a &&& BitVec.ofInt 64 (m : Int)).toNat, ?_, ?_⟩
  · rw [BitVec.toNat_and, BitVec.ofInt_natCast, BitVec.toNat_ofNat, Nat.mod_eq_of_lt (by omega)]
    exact Nat.and_le_right
  · have h : (BitVec.ofInt 64 a &&& BitVec.ofInt 64 (m : Int)).toNat ≤ m := by
      rw [BitVec.toNat_and, BitVec.ofInt_natCast, BitVec.toNat_ofNat, Nat.mod_eq_of_lt (by omega)]
      exact Nat.and_le_right
    show IntKind.i64.wrap ((BitVec.ofInt 64 a &&& BitVec.ofInt 64 (m : Int)).toNat : Int) = _
    generalize (BitVec.ofInt 64 a &&& BitVec.ofInt 64 (m : Int)).toNat = r at *
    simp [IntKind.wrap, IntKind.bits, IntKind.signed]
    omega
def ordP (f : Nat → Value × List Nat) (j : Nat) : List PL := (List.range j).map fun (i : Nat) => ((i : Int), (1 : Int), (f i).2)
theorem ordP_len (f : Nat → Value × List Nat) (j : Nat) : (ordP f j).length = j := by simp [ordP]
theorem ordP_succ (f : Nat → Value × List Nat) (j : Nat) : ordP f (j + 1) = ordP f j ++ [((j : Int), (1 : Int), (f j).2)] := by simp [ordP, List.range_succ]
theorem ord_send (f : Nat → Value × List Nat) (i k : Nat) : sendC k (ordP f (min i k)) = (if i < k then 0 else 3) ∧ sendP k (ordP f (min i k)) ((i : Int), (1 : Int), (f i).2) = ordP f (min (i + 1) k) := by
  unfold sendC sendP
  rw [ordP_len]
  by_cases c : i < k
  · rw [if_pos (by omega), if_pos c, if_pos (by omega), show min i k = i by omega, show min (i + 1) k = i + 1 by omega, ordP_succ]
    exact ⟨rfl, rfl⟩
  · rw [if_neg (by omega), if_neg c, if_neg (by omega), show min i k = k by omega, show min (i + 1) k = k by omega]
    exact ⟨rfl, rfl⟩
theorem ord_take (f : Nat → Value × List Nat) (i n k : Nat) (hi : i < n) : hasP ((ordP f (min n k)).drop i) 0 = decide (i < k) ∧ (i < k → takeX ((ordP f (min n k)).drop i) 0 = ((i : Int), (1 : Int), (f i).2)) ∧ dropP ((ordP f (min n k)).drop i) 0 = (ordP f (min n k)).drop (i + 1) := by
  have hh : hasP ((ordP f (min n k)).drop i) 0 = decide (i < k) := by
    unfold hasP
    rw [List.length_drop, ordP_len]
    by_cases c : i < k
    · rw [decide_eq_true c, decide_eq_true]; omega
    · rw [decide_eq_false c, decide_eq_false]; omega
  refine ⟨hh, fun c => ?_, ?_⟩
  · unfold takeX
    rw [hh, if_pos (by simpa using c)]
    show ((ordP f (min n k)).drop i).getD 0 _ = _
    rw [List.getD_eq_getElem?_getD, List.getElem?_drop, Nat.add_zero]
    unfold ordP
    rw [List.getElem?_map, List.getElem?_range (by omega)]
    rfl
  · unfold dropP
    rw [hh]
    by_cases c : i < k
    · rw [if_pos (by simpa using c)]
      show ((ordP f (min n k)).drop i).eraseIdx 0 = _
      rw [List.eraseIdx_zero, List.tail_drop]
    · rw [if_neg (by simpa using c), List.drop_of_length_le (by rw [ordP_len]; omega), List.drop_of_length_le (by rw [ordP_len]; omega)]
theorem take_none (Q : List PL) (h : hasP Q 0 = false) : takeX Q 0 = (0, 0, []) := by unfold takeX; rw [h, if_neg (by simp)]
theorem mostN_small (k : Nat) (h : k ≤ 1000) : mostN (k : Int) = k := by unfold mostN; omega
set_option maxHeartbeats 4000000 in
set_option maxRecDepth 20000 in
theorem orderLaw (a0 : Int) (v1 : Value) (n : Nat) (f : Nat → Value × List Nat) (w : World) (h : BsRow w v1 n f) : Calls Try.prog 3 #[.int .i64 a0, v1] w fun e w' => e = .returned (.bool true) ∧ Old w w' := by
  obtain ⟨hnm, pa, ca, rfl, hnc, hbs⟩ := h
  have HO := hid hbs
  clear hbs
  obtain ⟨M, hM, eM⟩ := and_mask a0 31 (by omega)
  have eM2 : bits .and .i64 a0 31 = (M : Int) := eM
  obtain ⟨k, hk⟩ : ∃ k, k = 1 + M := ⟨_, rfl⟩
  have ek : IntKind.i64.wrap (1 + (M : Int)) = ((k : Nat) : Int) := by rw [IntKind.wrap_i64]; omega
  have HK := hid (show 1 ≤ k ∧ k ≤ 32 from by omega)
  have HMo := hid (mostN_small k (by omega))
  have l1 : (1 : Int) + (M : Int) = (k : Int) := by omega
  have lk : (k : Int) ≤ 32 := by omega
  clear hM eM hk
  go_enter Try.func3, Try.ntmps3
  go_upto_region 5 with (first | (go_at_call 6; refine (newN w _ _ (Old.refl _)).mono ?_; rintro e w1 ⟨nb, rfl, d1, _⟩; rw [HMo.out] at d1; have D1 := hid d1; clear d1) | (go_at_call 7; refine (alive_any _).mono ?_; rintro e w2 ⟨rfl, u2⟩; have D2 := hid (D1.out.old u2); clear u2 D1))
  clear eM2 ek l1
  go_wp2
  go_loopw [26] (fun c wr => ∃ i : Nat, i ≤ n ∧ c = .int .i64 (i : Nat) ∧ Net w wr nb k (ordP f (min i k)) []) (fun c _ => n - (intOf c).toNat)
  case atStart => exact ⟨0, Nat.zero_le _, rfl, by simpa [ordP] using D2.out⟩
  case round =>
    obtain ⟨i, hi, rfl, hD⟩ := hrel
    have HD := hid hD
    clear hD D2
    by_cases hlt : i < n
    · obtain ⟨bb, off, e, hr, hL, hcell⟩ := HO.out i hlt
      subst e
      have c0 := HD.out.base.keep hcell
      have HR := hid (hr.old HD.out.base)
      have HL := hid hL
      have HS := hid (ord_send f i k)
      clear hr hL hcell
      generalize f i = p at *
      obtain ⟨pv, pL⟩ := p
      obtain ⟨pB, cB, eB⟩ := HR.out.len
      dsimp only at eB
      subst eB
      dsimp only at c0
      have l2 : (0 : Int) ≤ (i : Int) := by omega
      have l3 : (i : Int) < (n : Int) := by omega
      have l4 : (n : Int) ≤ 9223372036854775807 := by omega
      by_cases hc : i < k
      · have l5 : (i : Int) < (k : Int) := by omega
        have E1 := hid (show sendC k (ordP f (min i k)) = 0 from by rw [HS.out.1, if_pos hc])
        clear hc
        go_wp2_with (go_at_call 8; refine (sendN w _ nb k _ [] (i : Int) 1 _ pL HD.out HR.out HL.out).mono ?_; rintro e w3 ⟨rfl, d3, -⟩; rw [E1.out]; rw [HS.out.2] at d3; have D3 := hid d3; clear d3)
        go_roundw
        case rel => exact ⟨i + 1, hlt, by go_num, D3.out⟩
        case measure => simp [intOf]; omega
      · have l5 : ¬ (i : Int) < (k : Int) := by omega
        have E1 := hid (show sendC k (ordP f (min i k)) = 3 from by rw [HS.out.1, if_neg hc])
        clear hc
        go_wp2_with (go_at_call 8; refine (sendN w _ nb k _ [] (i : Int) 1 _ pL HD.out HR.out HL.out).mono ?_; rintro e w3 ⟨rfl, d3, -⟩; rw [E1.out]; rw [HS.out.2] at d3; have D3 := hid d3; clear d3)
        go_roundw
        case rel => exact ⟨i + 1, hlt, by go_num, D3.out⟩
        case measure => simp [intOf]; omega
    · have l3 : ¬ ((i : Int) < (n : Int)) := by omega
      obtain rfl : i = n := by omega
      clear hlt
      go_upto_region 13 with (fail)
      generalize wr = wy at *
      go_loopw [45] (fun c wr => ∃ j : Nat, j ≤ i ∧ c = .int .i64 (j : Nat) ∧ Net w wr nb k ((ordP f (min i k)).drop j) []) (fun c _ => i - (intOf c).toNat)
      case atStart => exact ⟨0, Nat.zero_le _, rfl, by simpa using HD.out⟩
      case round =>
        obtain ⟨j, hj, rfl, hD2⟩ := hrel
        have HD2 := hid hD2
        clear hD2 HD
        by_cases hlt : j < i
        · obtain ⟨bb, off, e, hr, hL, hcell⟩ := HO.out j hlt
          subst e
          have c0 := HD2.out.base.keep hcell
          have HR := hid hr
          have HT := hid (ord_take f j i k hlt)
          clear hr hL hcell
          have l2 : (0 : Int) ≤ (j : Int) := by omega
          have l3 : (j : Int) < (i : Int) := by omega
          have l4 : (i : Int) ≤ 9223372036854775807 := by omega
          by_cases hc : j < k
          · have l5 : (j : Int) < (k : Int) := by omega
            have HTk := hid (takeN w wr nb k ((ordP f (min i k)).drop j) [] 0 HD2.out)
            rw [HT.out.2.1 hc, HT.out.1, HT.out.2.2, decide_eq_true hc] at HTk
            clear hc HT
            generalize hfj : f j = p at *
            clear hfj
            obtain ⟨pv, pL⟩ := p
            obtain ⟨pB, cB, eB⟩ := HR.out.len
            dsimp only at eB
            subst eB
            dsimp only at c0 HTk
            go_upto_region 16 with (go_at_call 9; refine HTk.out.mono ?_; rintro e w4 ⟨a4, c4, rfl, o4, d4, -⟩; have O4 := hid o4; have D4 := hid d4; clear o4 d4)
            obtain ⟨y0, y1, y2, -, -, -⟩ := box3 (alloc_at w4 (.cells #[.int .i64 (j : Nat), .int .i64 1, .slice a4 pL.length c4] 30))
            have U4 := hid (show Old w4 (w4.alloc (.cells #[.int .i64 (j : Nat), .int .i64 1, .slice a4 pL.length c4] 30)) from (Old.refl w4).alloc _)
            generalize w4.alloc (.cells #[.int .i64 (j : Nat), .int .i64 1, .slice a4 pL.length c4] 30) = w5 at *
            generalize w4.heap.size = bx at *
            go_wp2_with (go_at_call 10; refine (sameL _ _ pL _ (O4.out.old U4.out).row (HR.out.old (D4.out.base.trans U4.out))).mono ?_; rintro e w6 ⟨rfl, u6⟩; have D6 := hid ((D4.out.old U4.out).old u6); clear u6)
            go_roundw
            case rel => exact ⟨j + 1, hlt, by go_num, D6.out⟩
            case measure => simp [intOf]; omega
          · have l5 : ¬ (j : Int) < (k : Int) := by omega
            have hf0 : hasP ((ordP f (min i k)).drop j) 0 = false := by rw [HT.out.1]; simpa using hc
            have HTk := hid (takeN w wr nb k ((ordP f (min i k)).drop j) [] 0 HD2.out)
            rw [take_none _ hf0, hf0, HT.out.2.2] at HTk
            clear hc HT hf0
            generalize hfj : f j = p at *
            clear hfj
            obtain ⟨pv, pL⟩ := p
            obtain ⟨pB, cB, eB⟩ := HR.out.len
            dsimp only at eB
            subst eB
            dsimp only at c0 HTk
            go_upto_region 16 with (go_at_call 9; refine HTk.out.mono ?_; rintro e w4 ⟨a4, c4, rfl, o4, d4, -⟩; have D4 := hid d4; clear o4 d4)
            have U4 := hid (show Old w4 (w4.alloc (.cells #[.int .i64 0, .int .i64 0, .slice a4 0 c4] 30)) from (Old.refl w4).alloc _)
            go_wp2
            go_roundw
            case rel => exact ⟨j + 1, hlt, by go_num, D4.out.old U4.out⟩
            case measure => simp [intOf]; omega
        · obtain rfl : j = i := by omega
          have l2 : ¬ (j : Int) < (j : Int) := by omega
          have HE := hid (show (ordP f (min j k)).drop j = [] from List.drop_of_length_le (by rw [ordP_len]; omega))
          rw [HE.out] at HD2
          clear HE hlt
          have HDr := hid (dropN w wr nb k [] [] 0 HD2.out)
          rw [show hasP [] 0 = false from rfl] at HDr
          go_wp2_with (first | (go_at_call 11; refine (lenN w _ nb _ _ _ HD2.out).mono ?_; rintro e w' ⟨rfl, hw⟩; have hw2 := hw.symm; subst hw2) | (go_at_call 12; refine HDr.out.mono ?_; rintro e w7 ⟨rfl, d7, -⟩; have D7 := hid d7; clear d7))
          go_ret
          exact ⟨rfl, D7.out.base⟩
end Go.Proofs.Ytpkgcakeahmiaaa
