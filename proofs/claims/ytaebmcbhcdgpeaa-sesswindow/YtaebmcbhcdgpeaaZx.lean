/- The law SessWindow at all numbers: the walk; no condition. -/
import Derived.Test.YtaebmcbhcdgpeaaZw
namespace Go.Proofs.Ytaebmcbhcdgpeaa
open Go.RowKit Go.Lib
set_option linter.unusedVariables false
set_option linter.unusedSimpArgs false
set_option maxRecDepth 20000
set_option maxHeartbeats 8000000 in
set_option maxRecDepth 20000 in
theorem windowLaw (a b c : Int) (w : World) : Calls Try.prog 3 #[.int .i64 a, .int .i64 b, .int .i64 c] w fun e w' => e = .returned (.bool true) ∧ Old w w' := by
  obtain ⟨I, hI, eI⟩ := and_mask a 1023 (by omega)
  obtain ⟨J, hJ, eJ⟩ := and_mask b 1023 (by omega)
  obtain ⟨K, hK, eK⟩ := and_mask c 31 (by omega)
  replace eI : bits .and .i64 a 1023 = (I : Int) := eI
  replace eJ : bits .and .i64 b 1023 = (J : Int) := eJ
  replace eK : bits .and .i64 c 31 = (K : Int) := eK
  have lI : (I : Int) ≤ 1023 := by omega
  have lJ : (J : Int) ≤ 1023 := by omega
  have lK : (K : Int) ≤ 31 := by omega
  go_enter Try.func3, Try.ntmps3
  go_upto_region 7 with (first | (go_at_call 9; refine (newT_any _).mono ?_; rintro e w1 ⟨tb, mb, rfl, t1⟩; have T1 := hid t1; clear t1) | (go_at_call 10; refine (alive_any _).mono ?_; rintro e w2 ⟨rfl, u2⟩; have T2 := hid (T1.out.up u2); clear u2))
  clear T1 eI eJ eK
  obtain ⟨id, hid1, hid2, eid⟩ : ∃ id : Int, 1 ≤ id ∧ id ≤ 2000 ∧ 1 + (I : Int) = id := ⟨_, by omega, by omega, rfl⟩
  obtain ⟨f, hf1, hf2, ef⟩ : ∃ f : Int, 1 ≤ f ∧ f ≤ 2000 ∧ 1 + (J : Int) = f := ⟨_, by omega, by omega, rfl⟩
  rw [eid, ef, show (1 : Int) + (K : Int) = (K : Int) + 1 by omega]
  clear eid ef lI lJ hI hJ
  have HLo := hid (fun (i j : Nat) (hi : i ≤ 100) (hj : j ≤ 200) => lookW (id := id) (f := f) ⟨hid1, hid2⟩ ⟨hf1, hf2⟩ i j hi hj)
  have HPw := hid (fun (i : Nat) (hi : i ≤ 100) => putW (id := id) (f := f) ⟨hid1, hid2⟩ ⟨hf1, hf2⟩ i hi)
  have HRow := hid (LW_row id f (K + 1))
  have HHi := hid (rowW_hi f K)
  have HLe := hid (rowW_len f (K + 1))
  have HN1 := hid (show N64 id from ⟨by omega, by omega⟩)
  go_wp2
  go_loopw [8] (fun i wr => ∃ (k : Nat) (Bs : List Nat), k ≤ K + 1 ∧ i = .int .i64 (k : Nat) ∧ Tab w wr tb Bs (kW id k) (LW id f k)) (fun i _ => K + 1 - (intOf i).toNat)
  case atStart => exact ⟨0, _, Nat.zero_le _, rfl, T2.out⟩
  case round =>
    obtain ⟨k, Bs, hk, rfl, hT⟩ := hrel
    have T := hid hT
    clear hT T2
    by_cases hlt : k < K + 1
    · have l1 : (k : Int) < (K : Int) + 1 := by omega
      have l2 : (k : Int) ≤ 31 := by omega
      have HP := hid (show Calls Try.prog 11 #[.pointer (some ⟨tb, 0, none⟩), .int .i64 id, .int .i64 (f + (k : Int)), .agg #[.int .i64 0, .int .i64 (k : Int)]] wr _ from putT_any w tb Bs (kW id k) (LW id f k) id (itW f k) wr T.out HN1.out ⟨by show _ ≤ f + (k : Int); omega, by show f + (k : Int) ≤ _; omega⟩)
      rw [HPw.out k (by omega)] at HP
      clear HLo HPw HRow HHi HLe
      go_wp2_with (go_at_call 11; refine HP.out.mono ?_; rintro e w3 ⟨rfl, h3⟩; obtain ⟨_, Bs3, t3, _⟩ := h3.resolve_left (fun q => q.1 rfl); have T3 := hid t3; clear h3 t3)
      go_roundw
      case rel => exact ⟨k + 1, Bs3, hlt, by go_num, T3.out⟩
      case measure => simp [intOf]; omega
    · obtain rfl : k = K + 1 := by omega
      have l1 : ¬ ((K : Int) + 1 < (K : Int) + 1) := by omega
      go_upto_region 13 with fail
      rw [show f + ((K : Int) + 1) - 1 = f + (K : Int) by omega]
      have HH := hid (high_any tb Bs _ _ id wr T.out.tab T.out.ok HN1.out)
      rw [HRow.out, HHi.out] at HH
      have HKe := hid (fun (W : World) (u : Old wr W) => kept_any tb Bs _ _ id W (T.out.tab.old u) T.out.ok HN1.out)
      rw [HRow.out] at HKe
      generalize rowW f (K + 1) = R at *
      clear HRow HHi HPw
      obtain ⟨rl, hrl, hmin⟩ : ∃ rl : Nat, R.length = rl ∧ ((K + 1 ≤ 8 ∧ rl = K + 1) ∨ (8 ≤ K ∧ rl = 8)) := ⟨_, HLe.out, by by_cases q : K + 1 ≤ 8; exact Or.inl ⟨q, by omega⟩; exact Or.inr ⟨by omega, by omega⟩⟩
      have HRl := hid hrl
      clear hrl HLe
      rcases hmin with ⟨q, rfl⟩ | ⟨q, rfl⟩
      · have z1 : (K : Int) + 1 ≤ 8 := by omega
        have z2 : ¬ (8 : Int) < (K : Int) + 1 := by omega
        have z3 : min ((K : Int) + 1) 8 = (K : Int) + 1 := by omega
        go_upto_region 15 with (first | (go_at_call 12; refine HH.out.mono ?_; rintro e w4 ⟨rfl, u4⟩; have U4 := hid u4; clear u4) | (go_at_call 13; refine (HKe.out _ U4.out).mono ?_; rintro e w5 ⟨ve, rfl, oe, ue⟩; obtain ⟨pe, ce, ee⟩ := oe.len; rw [HRl.out] at ee; subst ee; have U5 := hid (U4.out.trans ue); clear oe ue))
        have T5 := hid (T.out.up U5.out)
        clear T U4 U5 HH HKe
        go_wp2
        go_loopw [10] (fun z wr => ∃ j : Nat, j ≤ K + 4 ∧ z = .int .i64 (f + (j : Int)) ∧ Old w5 wr) (fun z _ => K + 4 - (intOf z - f).toNat)
        case atStart => exact ⟨0, Nat.zero_le _, by simp, Old.refl _⟩
        case round =>
          obtain ⟨j, hj, rfl, hu⟩ := hrel
          have V := hid hu
          clear hu
          by_cases hjt : j < K + 4
          · obtain ⟨hc, hv⟩ := HLo.out (K + 1) j (by omega) (by omega)
            have HK := hid (look_any tb Bs _ _ id (f + (j : Int)) wr (T5.out.tab.old V.out) T5.out.ok HN1.out ⟨by omega, by omega⟩)
            have l1 : f + (j : Int) ≤ f + (K : Int) + 3 := by omega
            have lj : (j : Int) ≤ 35 := by omega
            have lf : f ≤ 2000 := hf2
            have lf1 : 1 ≤ f := hf1
            clear HLo
            by_cases c : j < K + 1 ∧ K + 1 ≤ j + 8
            · rw [if_pos c] at hc
              have m1 : ¬ f + (j : Int) ≤ f + (K : Int) - 8 := by omega
              have m2 : f + (j : Int) ≤ f + (K : Int) := by omega
              have hv' := hv c
              have m3 : f + (j : Int) - f = (j : Int) := by omega
              clear c hv
              rw [hc, hv'] at HK
              go_upto_region 19 with (go_at_call 14; refine HK.out.mono ?_; rintro e w6 ⟨rfl, u6⟩; have V6 := hid (V.out.trans u6); clear u6)
              generalize hw : w6.alloc (.cells #[.int .i64 0, .int .i64 (j : Int)] 28) = w7 at *
              obtain ⟨⟨x0, x1⟩, _, hu7⟩ := verd_new w6 0 (j : Int) w7 hw _ rfl
              generalize w6.heap.size = vb at *
              have V7 := hid (V6.out.trans hu7)
              clear hw hu7 HK
              go_wp2
              go_roundw
              case rel => exact ⟨j + 1, hjt, by go_num, V7.out⟩
              case measure => simp [intOf]; omega
            · rw [if_neg c] at hc
              generalize hlv : lookV (LW id f (K + 1)) id (f + (j : Int)) = lv at *
              obtain ⟨v1, v2⟩ := lv
              simp only at HK
              clear hv hlv
              by_cases d : K + 1 ≤ j
              · rw [if_pos d] at hc
                have m1 : ¬ f + (j : Int) ≤ f + (K : Int) - 8 := by omega
                have m2 : ¬ f + (j : Int) ≤ f + (K : Int) := by omega
                clear c d
                rw [hc] at HK
                go_upto_region 19 with (go_at_call 14; refine HK.out.mono ?_; rintro e w6 ⟨rfl, u6⟩; have V6 := hid (V.out.trans u6); clear u6)
                generalize hw : w6.alloc (.cells #[.int .i64 v1, .int .i64 v2] 28) = w7 at *
                obtain ⟨⟨x0, x1⟩, _, hu7⟩ := verd_new w6 v1 v2 w7 hw _ rfl
                generalize w6.heap.size = vb at *
                have V7 := hid (V6.out.trans hu7)
                clear hw hu7 HK
                go_wp2
                go_roundw
                case rel => exact ⟨j + 1, hjt, by go_num, V7.out⟩
                case measure => simp [intOf]; omega
              · exact absurd z1 (by omega)
          · have l1 : ¬ f + (j : Int) ≤ f + (K : Int) + 3 := by omega
            clear HLo
            go_wp2
            go_ret
            exact ⟨rfl, T5.out.old.trans V.out⟩
      · have z1 : (8 : Int) < (K : Int) + 1 := by omega
        have z2 : ¬ (K : Int) + 1 ≤ 8 := by omega
        have z3 : min ((K : Int) + 1) 8 = 8 := by omega
        go_upto_region 15 with (first | (go_at_call 12; refine HH.out.mono ?_; rintro e w4 ⟨rfl, u4⟩; have U4 := hid u4; clear u4) | (go_at_call 13; refine (HKe.out _ U4.out).mono ?_; rintro e w5 ⟨ve, rfl, oe, ue⟩; obtain ⟨pe, ce, ee⟩ := oe.len; rw [HRl.out] at ee; subst ee; have U5 := hid (U4.out.trans ue); clear oe ue))
        have T5 := hid (T.out.up U5.out)
        clear T U4 U5 HH HKe
        go_wp2
        go_loopw [10] (fun z wr => ∃ j : Nat, j ≤ K + 4 ∧ z = .int .i64 (f + (j : Int)) ∧ Old w5 wr) (fun z _ => K + 4 - (intOf z - f).toNat)
        case atStart => exact ⟨0, Nat.zero_le _, by simp, Old.refl _⟩
        case round =>
          obtain ⟨j, hj, rfl, hu⟩ := hrel
          have V := hid hu
          clear hu
          by_cases hjt : j < K + 4
          · obtain ⟨hc, hv⟩ := HLo.out (K + 1) j (by omega) (by omega)
            have HK := hid (look_any tb Bs _ _ id (f + (j : Int)) wr (T5.out.tab.old V.out) T5.out.ok HN1.out ⟨by omega, by omega⟩)
            have l1 : f + (j : Int) ≤ f + (K : Int) + 3 := by omega
            have lj : (j : Int) ≤ 35 := by omega
            have lf : f ≤ 2000 := hf2
            have lf1 : 1 ≤ f := hf1
            clear HLo
            by_cases c : j < K + 1 ∧ K + 1 ≤ j + 8
            · rw [if_pos c] at hc
              have m1 : ¬ f + (j : Int) ≤ f + (K : Int) - 8 := by omega
              have m2 : f + (j : Int) ≤ f + (K : Int) := by omega
              have hv' := hv c
              have m3 : f + (j : Int) - f = (j : Int) := by omega
              clear c hv
              rw [hc, hv'] at HK
              go_upto_region 19 with (go_at_call 14; refine HK.out.mono ?_; rintro e w6 ⟨rfl, u6⟩; have V6 := hid (V.out.trans u6); clear u6)
              generalize hw : w6.alloc (.cells #[.int .i64 0, .int .i64 (j : Int)] 28) = w7 at *
              obtain ⟨⟨x0, x1⟩, _, hu7⟩ := verd_new w6 0 (j : Int) w7 hw _ rfl
              generalize w6.heap.size = vb at *
              have V7 := hid (V6.out.trans hu7)
              clear hw hu7 HK
              go_wp2
              go_roundw
              case rel => exact ⟨j + 1, hjt, by go_num, V7.out⟩
              case measure => simp [intOf]; omega
            · rw [if_neg c] at hc
              generalize hlv : lookV (LW id f (K + 1)) id (f + (j : Int)) = lv at *
              obtain ⟨v1, v2⟩ := lv
              simp only at HK
              clear hv hlv
              by_cases d : K + 1 ≤ j
              · rw [if_pos d] at hc
                have m1 : ¬ f + (j : Int) ≤ f + (K : Int) - 8 := by omega
                have m2 : ¬ f + (j : Int) ≤ f + (K : Int) := by omega
                clear c d
                rw [hc] at HK
                go_upto_region 19 with (go_at_call 14; refine HK.out.mono ?_; rintro e w6 ⟨rfl, u6⟩; have V6 := hid (V.out.trans u6); clear u6)
                generalize hw : w6.alloc (.cells #[.int .i64 v1, .int .i64 v2] 28) = w7 at *
                obtain ⟨⟨x0, x1⟩, _, hu7⟩ := verd_new w6 v1 v2 w7 hw _ rfl
                generalize w6.heap.size = vb at *
                have V7 := hid (V6.out.trans hu7)
                clear hw hu7 HK
                go_wp2
                go_roundw
                case rel => exact ⟨j + 1, hjt, by go_num, V7.out⟩
                case measure => simp [intOf]; omega
              · rw [if_neg d] at hc
                have m1 : f + (j : Int) ≤ f + (K : Int) - 8 := by omega
                clear c d
                rw [hc] at HK
                go_upto_region 19 with (go_at_call 14; refine HK.out.mono ?_; rintro e w6 ⟨rfl, u6⟩; have V6 := hid (V.out.trans u6); clear u6)
                generalize hw : w6.alloc (.cells #[.int .i64 v1, .int .i64 v2] 28) = w7 at *
                obtain ⟨⟨x0, x1⟩, _, hu7⟩ := verd_new w6 v1 v2 w7 hw _ rfl
                generalize w6.heap.size = vb at *
                have V7 := hid (V6.out.trans hu7)
                clear hw hu7 HK
                go_wp2
                go_roundw
                case rel => exact ⟨j + 1, hjt, by go_num, V7.out⟩
                case measure => simp [intOf]; omega
          · have l1 : ¬ f + (j : Int) ≤ f + (K : Int) + 3 := by omega
            clear HLo
            go_wp2
            go_ret
            exact ⟨rfl, T5.out.old.trans V.out⟩
end Go.Proofs.Ytaebmcbhcdgpeaa
