/- The law HardRaw's walk; conditions: the table is laid. -/
import Derived.Test.YtdjlkmghdpmdiaaDoorG7j
namespace Go.Proofs.YtdjlkmghdpmdiaaDoor
open Go.RowKit Go.Lib Go.ChangeShapes Go.WideShapes
set_option linter.unusedVariables false
set_option linter.unusedSimpArgs false
set_option maxRecDepth 20000
set_option maxHeartbeats 8000000 in
set_option maxRecDepth 20000 in
theorem rawLaw (vb vc vk : Value) (L M : List Nat) (kp : List Bool) (w : World) (ht : Pk.Tab w) (hL : Rw w vb L) (hM : Rw w vc M) (hK : BArg w vk kp) : Calls Tryd.prog 5 #[vb, vc, vk] w fun e w' => e = .returned (.bool true) ∧ Old w w' := by
  have HT := hid ht
  obtain ⟨ab, cb, eb⟩ := hL.len
  obtain ⟨ac, cc, ec⟩ := hM.len
  subst eb ec
  have HL := hid hL
  have HM := hid hM
  have HK := hid hK
  clear ht hL hM hK
  obtain ⟨z, hz⟩ : ∃ z, IntKind.i64.wrap ((L.length : Int) + (M.length : Int)) = z := ⟨_, rfl⟩
  by_cases c1 : 3000 < z
  · go_enter Tryd.func5, Tryd.ntmps5
    go_wp2_with (first | (go_at_call 6; refine (newD w _ (Old.refl _)).mono ?_; rintro e w1 ⟨db, rfl, dd1, _⟩; have D1 := hid dd1; clear dd1) | (go_at_call 7; refine (alive_any _ (HT.out.up D1.out.base)).mono ?_; rintro e w1b ⟨rfl, u1⟩; have D1b := hid (D1.out.old u1); clear u1))
    go_ret
    exact ⟨rfl, D1b.out.base⟩
  · go_enter Tryd.func5, Tryd.ntmps5
    go_upto_region 6 with (first | (go_at_call 6; refine (newD w _ (Old.refl _)).mono ?_; rintro e w1 ⟨db, rfl, dd1, _⟩; have D1 := hid dd1; clear dd1) | (go_at_call 7; refine (alive_any _ (HT.out.up D1.out.base)).mono ?_; rintro e w1b ⟨rfl, u1⟩; have D1b := hid (D1.out.old u1); clear u1))
    clear D1
    go_upto_region 7 with (go_at_call 15; refine (createD w _ db _ [] sH D1b.out).mono ?_; rintro e w2 ⟨rfl, d, -⟩; have D2 := hid d; clear d)
    go_upto_region 8 with (go_at_call 16; refine (writeD w _ db _ [] sH 0 _ L D2.out (Rw.old HL.out D2.out.base) (fun h0 g e => .inl (Rw.lt HL.out (List.length_pos_iff.2 h0) g e)) (by omega)).mono ?_; rintro e w3 ⟨rfl, d, -⟩; have D3 := hid d; clear d)
    go_upto_region 9 with (go_at_call 15; refine (createD w _ db _ [] sT D3.out).mono ?_; rintro e w4 ⟨rfl, d, -⟩; have D4 := hid d; clear d)
    go_upto_region 10 with (go_at_call 16; refine (writeD w _ db _ [] sT 0 _ M D4.out (Rw.old HM.out D4.out.base) (fun h0 g e => .inl (Rw.lt HM.out (List.length_pos_iff.2 h0) g e)) (by omega)).mono ?_; rintro e w5 ⟨rfl, d, -⟩; have D5 := hid d; clear d)
    clear D1b D2 D3 D4
    have HP := hid (raw_keys L M)
    generalize writeP (createP (writeP (createP pd0 sH) sH 0 L) sT) sT 0 M = q0 at *
    go_upto_region 11 with (go_at_call 14; refine (crashD w _ db q0 [] _ kp D5.out (HK.out.1.old D5.out.base) HK.out.2.1 (fun h0 g e => .inl (HK.out.2.2 h0 g e))).mono ?_; rintro e w6 ⟨rfl, S, hS, -, d6, -⟩; have D6 := hid d6; have HS := hid hS; clear d6 hS)
    obtain ⟨he, y, hv, hg, hk⟩ := re_raw (kp := kp) HP.out HS.out
    have HE := hid he
    have HG := hid hg
    have HKs := hid hk
    have HV := hid hv
    clear he hv hg hk HP HS D5
    generalize crashP q0 S kp = q at *
    obtain ⟨t, v, hr⟩ : ∃ t v, rdP y = (t, v) := ⟨_, _, rfl⟩
    have HR := hid hr
    have hy := rd_right y
    rw [hr] at hy
    obtain ⟨c2, c3, c4, c5⟩ := rgt_iff.1 hy
    have c2 : 0 ≤ t := c2
    have c3 : t ≤ 1099511627776 := c3
    have c4 : 0 ≤ v := c4
    have c5 : v ≤ 7 := c5
    clear hr hy
    go_upto_region 12 with (go_at_call 8; refine (open_ok w _ db q [] D6.out HT.out HE.out).mono ?_; rintro e w7 ⟨hb, rfl, d7, b7, -, -⟩; rw [HV.out, HR.out] at b7; have D7 := hid d7; have B7 := hid b7; clear d7 b7)
    clear D6 HE HV
    generalize opP q = q1 at *
    go_upto_region 14 with (first | (go_at_call 12; refine (term_any hb _ t v _ B7.out).mono ?_; rintro e w8 ⟨rfl, hw⟩; have hw2 := hw.symm; subst hw2; clear hw) | (go_at_call 13; refine (vote_any hb _ t v _ B7.out).mono ?_; rintro e w8 ⟨rfl, hw⟩; have hw2 := hw.symm; subst hw2; clear hw))
    go_upto_region 15 with (go_at_call 14; refine (crashD w _ db q1 ([] ++ [hb]) _ [] D7.out (BRow.none _) (.inl rfl) (fun h => by simp at h)).mono ?_; rintro e w8 ⟨rfl, S2, -, -, d8, k8⟩; have D8 := hid d8; have B8 := hid (k8.at (by simp) B7.out); clear d8 k8)
    clear D7 B7
    obtain ⟨he2, hv2, hn2⟩ := re_two HG.out HKs.out S2
    have HE2 := hid he2
    have HV2 := hid hv2
    have HN2 := hid hn2
    clear he2 hv2 hn2 HG HKs
    generalize crashP q1 S2 [] = q2 at *
    go_upto_region 16 with (go_at_call 8; refine (open_ok w _ db q2 ([] ++ [hb]) D8.out HT.out HE2.out).mono ?_; rintro e w9 ⟨hb2, rfl, d9, b10, -, k9⟩; rw [HV2.out, HR.out] at b10; have D9 := hid d9; have B10 := hid b10; have B9 := hid (k9.at (by simp) B8.out); clear d9 b10 k9)
    clear D8 B8 HE2 HV2
    go_wp2_with (first | (go_at_call 12; refine (term_any hb _ t v _ B9.out).mono ?_; rintro e w8 ⟨rfl, hw⟩; have hw2 := hw.symm; subst hw2; clear hw) | (go_at_call 12; refine (term_any hb2 _ t v _ B10.out).mono ?_; rintro e w8 ⟨rfl, hw⟩; have hw2 := hw.symm; subst hw2; clear hw) | (go_at_call 13; refine (vote_any hb _ t v _ B9.out).mono ?_; rintro e w8 ⟨rfl, hw⟩; have hw2 := hw.symm; subst hw2; clear hw) | (go_at_call 13; refine (vote_any hb2 _ t v _ B10.out).mono ?_; rintro e w8 ⟨rfl, hw⟩; have hw2 := hw.symm; subst hw2; clear hw) | (go_at_call 17; refine (namesD w _ db _ _ D9.out).mono ?_; rintro e w11 ⟨vn, S9, rfl, hS9, -, oS9, u9⟩; have e9 := hS9.length_eq; rw [HN2.out] at e9; obtain ⟨a9, c9, z9⟩ := oS9.len; rw [e9] at z9; subst z9; have U9 := hid u9; clear e9 hS9 oS9 u9))
    go_ret
    exact ⟨rfl, D9.out.base.trans U9.out⟩
end Go.Proofs.YtdjlkmghdpmdiaaDoor
