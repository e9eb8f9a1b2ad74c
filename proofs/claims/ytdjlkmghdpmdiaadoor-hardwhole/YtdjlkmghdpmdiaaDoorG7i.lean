/- The law HardSteps' walk; conditions: the table is laid. -/
import Derived.Test.YtdjlkmghdpmdiaaDoorG7h
namespace Go.Proofs.YtdjlkmghdpmdiaaDoor
open Go.RowKit Go.Lib Go.ChangeShapes Go.WideShapes
set_option linter.unusedVariables false
set_option linter.unusedSimpArgs false
set_option maxRecDepth 20000
theorem and_mask (a : Int) (m : Nat) (hm : m < 9223372036854775808) : ∃ M : Nat, M ≤ m ∧ bits .and .i64 a (m : Int) = (M : Int) := by
  refine ⟨(BitVec.ofInt 64 a &&& BitVec.ofInt 64 (m : Int)).toNat, ?_, ?_⟩
  · rw [BitVec.toNat_and, BitVec.ofInt_natCast, BitVec.toNat_ofNat, Nat.mod_eq_of_lt (by omega)]
    exact Nat.and_le_right
  · have h : (BitVec.ofInt 64 a &&& BitVec.ofInt 64 (m : Int)).toNat ≤ m := by
      rw [BitVec.toNat_and, BitVec.ofInt_natCast, BitVec.toNat_ofNat, Nat.mod_eq_of_lt (by omega)]
      exact Nat.and_le_right
    show IntKind.i64.wrap ((BitVec.ofInt 64 a &&& BitVec.ofInt 64 (m : Int)).toNat : Int) = _
    generalize (BitVec.ofInt 64 a &&& BitVec.ofInt 64 (m : Int)).toNat = r at *
    simp [IntKind.wrap, IntKind.bits, IntKind.signed]
    omega
theorem st_wrong {p : PD} {t v t0 v0 : Int} (h : rgt t v = false) : saveC p t v t0 v0 = 1 ∧ saveP p t v t0 v0 = p ∧ saveV p t v t0 v0 = (t0, v0) := by
  have e : saveC p t v t0 v0 = 1 := by unfold saveC; rw [if_pos h]
  exact ⟨e, by unfold saveP; rw [if_pos h], by unfold saveV; rw [e, if_neg (by decide)]⟩
theorem st_same {p : PD} {t v : Int} (h : rgt t v = true) : saveC p t v t v = 0 ∧ saveP p t v t v = p ∧ saveV p t v t v = (t, v) := by
  have h2 : ¬ rgt t v = false := by rw [h]; decide
  have e : saveC p t v t v = 0 := by unfold saveC; rw [if_neg h2, if_pos ⟨rfl, rfl⟩]
  exact ⟨e, by unfold saveP; rw [if_neg h2, if_pos ⟨rfl, rfl⟩], by unfold saveV; rw [e, if_pos rfl]⟩
theorem st_few {t v t0 v0 : Int} (fs : PFs) (k : Int) (h : rgt t v = true) (hn : ¬ (t = t0 ∧ v = v0)) (hk : 1 ≤ k ∧ k ≤ 4) (hT : getP fs sT = none) (hl : fs.length ≤ 255) : saveC ⟨fs, false, k⟩ t v t0 v0 = 50 ∧ (saveP ⟨fs, false, k⟩ t v t0 v0).down = true ∧ ∃ ys : PFs, (saveP ⟨fs, false, k⟩ t v t0 v0).fs = fs ++ ys ∧ ∀ y ∈ ys, y.1 = sT := by
  obtain ⟨e1, e2⟩ := save_new (p := ⟨fs, false, k⟩) h hn
  obtain ⟨h1, h2, h3, h4, -⟩ := sv_all fs k (frB (payL t v)) (by omega) hT hl (fr_le t v)
  rw [e1, e2]
  have hc : k = 1 ∨ k = 2 ∨ k = 3 ∨ k = 4 := by omega
  rcases hc with c | c | c | c
  · rw [(h1 c).1, (h1 c).2]; exact ⟨rfl, rfl, [], by simp, by simp⟩
  · rw [(h2 c).1, (h2 c).2]; exact ⟨rfl, rfl, _, rfl, by simp⟩
  · rw [(h3 c).1, (h3 c).2]; exact ⟨rfl, rfl, _, rfl, by simp⟩
  · rw [(h4 c).1, (h4 c).2]; exact ⟨rfl, rfl, _, rfl, by simp⟩
theorem st_all {t v t0 v0 : Int} (fs : PFs) (k : Int) (h : rgt t v = true) (hn : ¬ (t = t0 ∧ v = v0)) (hk : k = 0 ∨ 5 ≤ k) (hT : getP fs sT = none) (hl : fs.length ≤ 255) : saveC ⟨fs, false, k⟩ t v t0 v0 = 0 ∧ saveP ⟨fs, false, k⟩ t v t0 v0 = ⟨putP fs sH ⟨frB (payL t v), frB (payL t v)⟩, false, max 0 (k - 4)⟩ ∧ saveV ⟨fs, false, k⟩ t v t0 v0 = (t, v) := by
  obtain ⟨e1, e2⟩ := save_new (p := ⟨fs, false, k⟩) h hn
  obtain ⟨-, -, -, -, h5⟩ := sv_all fs k (frB (payL t v)) (by omega) hT hl (fr_le t v)
  have e3 : saveC ⟨fs, false, k⟩ t v t0 v0 = 0 := e1.trans (h5 hk).1
  exact ⟨e3, e2.trans (h5 hk).2, by unfold saveV; rw [e3, if_pos rfl]⟩
set_option maxHeartbeats 8000000 in
set_option maxRecDepth 20000 in
theorem stepsLaw (t v n0 : Int) (w : World) (ht : Pk.Tab w) (r1 : -9223372036854775808 ≤ t ∧ t ≤ 9223372036854775807) (r2 : -9223372036854775808 ≤ v ∧ v ≤ 9223372036854775807) : Calls Tryd.prog 3 #[.int .i64 t, .int .i64 v, .int .i64 n0] w fun e w' => e = .returned (.bool true) ∧ Old w w' := by
  have HT := hid ht
  have HR := hid (And.intro r1 r2)
  have HA := hid op_zero
  obtain ⟨M, hM, eM⟩ := and_mask n0 7 (by omega)
  have eM : bits .and .i64 n0 7 = (M : Int) := eM
  obtain ⟨k, hk⟩ : ∃ k : Nat, k = M + 1 := ⟨_, rfl⟩
  have lw : IntKind.i64.wrap (1 + (M : Int)) = (k : Int) := by rw [IntKind.wrap_i64]; omega
  have HK := hid (show 1 ≤ k ∧ k ≤ 8 from by omega)
  have HMx := hid (show max (0 : Int) (k : Int) = (k : Int) from by omega)
  clear ht r1 r2 hk hM
  by_cases c1 : 0 ≤ t
  · by_cases c2 : t ≤ 1099511627776
    · by_cases c3 : 0 ≤ v
      · by_cases c4 : v ≤ 7
        · have hr : rgt t v = true := rgt_iff.2 ⟨c1, c2, c3, c4⟩
          by_cases hs : t = 0 ∧ v = 0
          · skip
            obtain ⟨rfl, rfl⟩ := hs
            have HS := hid (st_same (p := ⟨[], false, (k : Int)⟩) (t := 0) (v := 0) hr)
            clear hr c1 c2 c3 c4
            go_enter Tryd.func3, Tryd.ntmps3
            go_upto_region 5 with (first | (go_at_call 6; refine (newD w _ (Old.refl _)).mono ?_; rintro e w1 ⟨db, rfl, dd1, _⟩; have D1 := hid dd1; clear dd1) | (go_at_call 7; refine (alive_any _ (HT.out.up D1.out.base)).mono ?_; rintro e w1b ⟨rfl, u1⟩; have D1b := hid (D1.out.old u1); clear u1) | (go_at_call 8; refine (open_ok w _ db pd0 [] D1b.out HT.out HA.out.1).mono ?_; rintro e w2 ⟨hb, rfl, d2, b2, l2, -⟩; rw [HA.out.2.1] at d2; rw [HA.out.2.2] at b2; have D2 := hid d2; have B2 := hid b2; have L2 := hid l2; clear d2 b2 l2))
            go_upto_region 11 with (go_at_call 9; refine (failD w _ db _ _ _ D2.out (by have := HK.out; omega)).mono ?_; rintro e w3 ⟨rfl, d3, k3⟩; rw [HMx.out] at d3; have D3 := hid (show Dsk w w3 db ⟨[], false, (k : Int)⟩ ([] ++ [hb]) from d3); have B3 := hid (k3.at (by simp) B2.out); clear d3 k3)
            clear D1 D1b D2 B2
            go_wp2_with (first | (go_at_call 10; refine (save_any w _ db hb _ ([] ++ [hb]) 0 0 0 0 D3.out (by simp) B3.out L2.out HT.out HR.out.1 HR.out.2).mono ?_; rintro e w4 ⟨rfl, d4, b4⟩; rw [HS.out.1]; rw [HS.out.2.1] at d4; rw [HS.out.2.2] at b4; have D4 := hid d4; have B4 := hid b4; clear d4 b4) | (go_at_call 11; refine (downD w _ db _ _ D4.out).mono ?_; rintro e w8 ⟨rfl, hw⟩; have hw2 := hw.symm; subst hw2; clear hw))
            all_goals (go_ret; exact ⟨rfl, D4.out.base⟩)
          have HNs := hid hs
          by_cases hk4 : k ≤ 4
          · skip
            have HS := hid (st_few (t := t) (v := v) (t0 := 0) (v0 := 0) [] (k : Int) hr hs (by have := HK.out; omega) rfl (by simp))
            have l4 : (k : Int) ≤ 4 := by omega
            by_cases z1 : t = 0
            · have z2 : ¬ v = 0 := fun e => hs ⟨z1, e⟩
              have d2 : (v == 0) = false := by rw [beq_eq_false_iff_ne]; exact z2
              subst z1
              clear hs hr c1 c2
              go_enter Tryd.func3, Tryd.ntmps3
              go_upto_region 5 with (first | (go_at_call 6; refine (newD w _ (Old.refl _)).mono ?_; rintro e w1 ⟨db, rfl, dd1, _⟩; have D1 := hid dd1; clear dd1) | (go_at_call 7; refine (alive_any _ (HT.out.up D1.out.base)).mono ?_; rintro e w1b ⟨rfl, u1⟩; have D1b := hid (D1.out.old u1); clear u1) | (go_at_call 8; refine (open_ok w _ db pd0 [] D1b.out HT.out HA.out.1).mono ?_; rintro e w2 ⟨hb, rfl, d2, b2, l2, -⟩; rw [HA.out.2.1] at d2; rw [HA.out.2.2] at b2; have D2 := hid d2; have B2 := hid b2; have L2 := hid l2; clear d2 b2 l2))
              go_upto_region 11 with (go_at_call 9; refine (failD w _ db _ _ _ D2.out (by have := HK.out; omega)).mono ?_; rintro e w3 ⟨rfl, d3, k3⟩; rw [HMx.out] at d3; have D3 := hid (show Dsk w w3 db ⟨[], false, (k : Int)⟩ ([] ++ [hb]) from d3); have B3 := hid (k3.at (by simp) B2.out); clear d3 k3)
              clear D1 D1b D2 B2
              go_wp2_with (first | (go_at_call 10; refine (save_any w _ db hb _ ([] ++ [hb]) 0 v 0 0 D3.out (by simp) B3.out L2.out HT.out HR.out.1 HR.out.2).mono ?_; rintro e w4 ⟨rfl, d4, b4⟩; rw [HS.out.1]; have D4 := hid d4; have B4 := hid b4; clear d4 b4) | (go_at_call 11; refine (downD w _ db _ _ D4.out).mono ?_; rintro e w8 ⟨rfl, hw⟩; have hw2 := hw.symm; subst hw2; clear hw; rw [HS.out.2.1]))
              all_goals (go_ret; exact ⟨rfl, D4.out.base⟩)
            · have d1 : (t == 0) = false := by rw [beq_eq_false_iff_ne]; exact z1
              clear hs hr
              go_enter Tryd.func3, Tryd.ntmps3
              go_upto_region 5 with (first | (go_at_call 6; refine (newD w _ (Old.refl _)).mono ?_; rintro e w1 ⟨db, rfl, dd1, _⟩; have D1 := hid dd1; clear dd1) | (go_at_call 7; refine (alive_any _ (HT.out.up D1.out.base)).mono ?_; rintro e w1b ⟨rfl, u1⟩; have D1b := hid (D1.out.old u1); clear u1) | (go_at_call 8; refine (open_ok w _ db pd0 [] D1b.out HT.out HA.out.1).mono ?_; rintro e w2 ⟨hb, rfl, d2, b2, l2, -⟩; rw [HA.out.2.1] at d2; rw [HA.out.2.2] at b2; have D2 := hid d2; have B2 := hid b2; have L2 := hid l2; clear d2 b2 l2))
              go_upto_region 11 with (go_at_call 9; refine (failD w _ db _ _ _ D2.out (by have := HK.out; omega)).mono ?_; rintro e w3 ⟨rfl, d3, k3⟩; rw [HMx.out] at d3; have D3 := hid (show Dsk w w3 db ⟨[], false, (k : Int)⟩ ([] ++ [hb]) from d3); have B3 := hid (k3.at (by simp) B2.out); clear d3 k3)
              clear D1 D1b D2 B2
              go_wp2_with (first | (go_at_call 10; refine (save_any w _ db hb _ ([] ++ [hb]) t v 0 0 D3.out (by simp) B3.out L2.out HT.out HR.out.1 HR.out.2).mono ?_; rintro e w4 ⟨rfl, d4, b4⟩; rw [HS.out.1]; have D4 := hid d4; have B4 := hid b4; clear d4 b4) | (go_at_call 11; refine (downD w _ db _ _ D4.out).mono ?_; rintro e w8 ⟨rfl, hw⟩; have hw2 := hw.symm; subst hw2; clear hw; rw [HS.out.2.1]))
              all_goals (go_ret; exact ⟨rfl, D4.out.base⟩)
          · skip
            have HS := hid (st_all (t := t) (v := v) (t0 := 0) (v0 := 0) [] (k : Int) hr hs (.inr (by omega)) rfl (by simp))
            have l4 : ¬ (k : Int) ≤ 4 := by omega
            have HW := hid (fun (p : PD) => st_same (p := p) hr)
            by_cases z1 : t = 0
            · have z2 : ¬ v = 0 := fun e => hs ⟨z1, e⟩
              have d2 : (v == 0) = false := by rw [beq_eq_false_iff_ne]; exact z2
              subst z1
              clear hs hr c1 c2
              go_enter Tryd.func3, Tryd.ntmps3
              go_upto_region 5 with (first | (go_at_call 6; refine (newD w _ (Old.refl _)).mono ?_; rintro e w1 ⟨db, rfl, dd1, _⟩; have D1 := hid dd1; clear dd1) | (go_at_call 7; refine (alive_any _ (HT.out.up D1.out.base)).mono ?_; rintro e w1b ⟨rfl, u1⟩; have D1b := hid (D1.out.old u1); clear u1) | (go_at_call 8; refine (open_ok w _ db pd0 [] D1b.out HT.out HA.out.1).mono ?_; rintro e w2 ⟨hb, rfl, d2, b2, l2, -⟩; rw [HA.out.2.1] at d2; rw [HA.out.2.2] at b2; have D2 := hid d2; have B2 := hid b2; have L2 := hid l2; clear d2 b2 l2))
              go_upto_region 11 with (go_at_call 9; refine (failD w _ db _ _ _ D2.out (by have := HK.out; omega)).mono ?_; rintro e w3 ⟨rfl, d3, k3⟩; rw [HMx.out] at d3; have D3 := hid (show Dsk w w3 db ⟨[], false, (k : Int)⟩ ([] ++ [hb]) from d3); have B3 := hid (k3.at (by simp) B2.out); clear d3 k3)
              clear D1 D1b D2 B2
              go_upto_region 12 with (go_at_call 10; refine (save_any w _ db hb _ ([] ++ [hb]) 0 v 0 0 D3.out (by simp) B3.out L2.out HT.out HR.out.1 HR.out.2).mono ?_; rintro e w4 ⟨rfl, d4, b4⟩; rw [HS.out.1]; rw [HS.out.2.1] at d4; rw [HS.out.2.2] at b4; have D4 := hid d4; have B4 := hid b4; clear d4 b4)
              go_wp2_with (first | (go_at_call 10; refine (save_any w _ db hb _ ([] ++ [hb]) 0 v _ _ D4.out (by simp) B4.out L2.out HT.out HR.out.1 HR.out.2).mono ?_; rintro e w5 ⟨rfl, d5, -⟩; rw [(HW.out _).1]; rw [(HW.out _).2.1] at d5; have D5 := hid d5; clear d5) | (go_at_call 12; refine (term_any hb _ _ _ _ B4.out).mono ?_; rintro e w8 ⟨rfl, hw⟩; have hw2 := hw.symm; subst hw2; clear hw) | (go_at_call 13; refine (vote_any hb _ _ _ _ B4.out).mono ?_; rintro e w8 ⟨rfl, hw⟩; have hw2 := hw.symm; subst hw2; clear hw) | (go_at_call 11; refine (downD w _ db _ _ D5.out).mono ?_; rintro e w8 ⟨rfl, hw⟩; have hw2 := hw.symm; subst hw2; clear hw))
              go_ret
              exact ⟨rfl, D5.out.base⟩
            · have d1 : (t == 0) = false := by rw [beq_eq_false_iff_ne]; exact z1
              clear hs hr
              go_enter Tryd.func3, Tryd.ntmps3
              go_upto_region 5 with (first | (go_at_call 6; refine (newD w _ (Old.refl _)).mono ?_; rintro e w1 ⟨db, rfl, dd1, _⟩; have D1 := hid dd1; clear dd1) | (go_at_call 7; refine (alive_any _ (HT.out.up D1.out.base)).mono ?_; rintro e w1b ⟨rfl, u1⟩; have D1b := hid (D1.out.old u1); clear u1) | (go_at_call 8; refine (open_ok w _ db pd0 [] D1b.out HT.out HA.out.1).mono ?_; rintro e w2 ⟨hb, rfl, d2, b2, l2, -⟩; rw [HA.out.2.1] at d2; rw [HA.out.2.2] at b2; have D2 := hid d2; have B2 := hid b2; have L2 := hid l2; clear d2 b2 l2))
              go_upto_region 11 with (go_at_call 9; refine (failD w _ db _ _ _ D2.out (by have := HK.out; omega)).mono ?_; rintro e w3 ⟨rfl, d3, k3⟩; rw [HMx.out] at d3; have D3 := hid (show Dsk w w3 db ⟨[], false, (k : Int)⟩ ([] ++ [hb]) from d3); have B3 := hid (k3.at (by simp) B2.out); clear d3 k3)
              clear D1 D1b D2 B2
              go_upto_region 12 with (go_at_call 10; refine (save_any w _ db hb _ ([] ++ [hb]) t v 0 0 D3.out (by simp) B3.out L2.out HT.out HR.out.1 HR.out.2).mono ?_; rintro e w4 ⟨rfl, d4, b4⟩; rw [HS.out.1]; rw [HS.out.2.1] at d4; rw [HS.out.2.2] at b4; have D4 := hid d4; have B4 := hid b4; clear d4 b4)
              go_wp2_with (first | (go_at_call 10; refine (save_any w _ db hb _ ([] ++ [hb]) t v _ _ D4.out (by simp) B4.out L2.out HT.out HR.out.1 HR.out.2).mono ?_; rintro e w5 ⟨rfl, d5, -⟩; rw [(HW.out _).1]; rw [(HW.out _).2.1] at d5; have D5 := hid d5; clear d5) | (go_at_call 12; refine (term_any hb _ _ _ _ B4.out).mono ?_; rintro e w8 ⟨rfl, hw⟩; have hw2 := hw.symm; subst hw2; clear hw) | (go_at_call 13; refine (vote_any hb _ _ _ _ B4.out).mono ?_; rintro e w8 ⟨rfl, hw⟩; have hw2 := hw.symm; subst hw2; clear hw) | (go_at_call 11; refine (downD w _ db _ _ D5.out).mono ?_; rintro e w8 ⟨rfl, hw⟩; have hw2 := hw.symm; subst hw2; clear hw))
              go_ret
              exact ⟨rfl, D5.out.base⟩
        · have hr : rgt t v = false := by unfold rgt; simp [c4]
          have d9 : decide (v ≤ 7) = false := by simp [c4]
          by_cases z1 : t = 0
          · have d2 : (v == 0) = false := by rw [beq_eq_false_iff_ne]; omega
            subst z1
            clear c1 c2
            have HS := hid (st_wrong (p := ⟨[], false, (k : Int)⟩) (t := 0) (v := v) (t0 := 0) (v0 := 0) hr)
            clear hr
            go_enter Tryd.func3, Tryd.ntmps3
            go_upto_region 5 with (first | (go_at_call 6; refine (newD w _ (Old.refl _)).mono ?_; rintro e w1 ⟨db, rfl, dd1, _⟩; have D1 := hid dd1; clear dd1) | (go_at_call 7; refine (alive_any _ (HT.out.up D1.out.base)).mono ?_; rintro e w1b ⟨rfl, u1⟩; have D1b := hid (D1.out.old u1); clear u1) | (go_at_call 8; refine (open_ok w _ db pd0 [] D1b.out HT.out HA.out.1).mono ?_; rintro e w2 ⟨hb, rfl, d2, b2, l2, -⟩; rw [HA.out.2.1] at d2; rw [HA.out.2.2] at b2; have D2 := hid d2; have B2 := hid b2; have L2 := hid l2; clear d2 b2 l2))
            go_upto_region 11 with (go_at_call 9; refine (failD w _ db _ _ _ D2.out (by have := HK.out; omega)).mono ?_; rintro e w3 ⟨rfl, d3, k3⟩; rw [HMx.out] at d3; have D3 := hid (show Dsk w w3 db ⟨[], false, (k : Int)⟩ ([] ++ [hb]) from d3); have B3 := hid (k3.at (by simp) B2.out); clear d3 k3)
            clear D1 D1b D2 B2
            go_wp2_with (first | (go_at_call 10; refine (save_any w _ db hb _ ([] ++ [hb]) 0 v 0 0 D3.out (by simp) B3.out L2.out HT.out HR.out.1 HR.out.2).mono ?_; rintro e w4 ⟨rfl, d4, b4⟩; rw [HS.out.1]; rw [HS.out.2.1] at d4; rw [HS.out.2.2] at b4; have D4 := hid d4; have B4 := hid b4; clear d4 b4) | (go_at_call 11; refine (downD w _ db _ _ D4.out).mono ?_; rintro e w8 ⟨rfl, hw⟩; have hw2 := hw.symm; subst hw2; clear hw) | (go_at_call 12; refine (term_any hb _ _ _ _ B4.out).mono ?_; rintro e w8 ⟨rfl, hw⟩; have hw2 := hw.symm; subst hw2; clear hw))
            all_goals (go_ret; exact ⟨rfl, D4.out.base⟩)
          · have d1 : (t == 0) = false := by rw [beq_eq_false_iff_ne]; exact z1
            have HS := hid (st_wrong (p := ⟨[], false, (k : Int)⟩) (t := t) (v := v) (t0 := 0) (v0 := 0) hr)
            clear hr
            go_enter Tryd.func3, Tryd.ntmps3
            go_upto_region 5 with (first | (go_at_call 6; refine (newD w _ (Old.refl _)).mono ?_; rintro e w1 ⟨db, rfl, dd1, _⟩; have D1 := hid dd1; clear dd1) | (go_at_call 7; refine (alive_any _ (HT.out.up D1.out.base)).mono ?_; rintro e w1b ⟨rfl, u1⟩; have D1b := hid (D1.out.old u1); clear u1) | (go_at_call 8; refine (open_ok w _ db pd0 [] D1b.out HT.out HA.out.1).mono ?_; rintro e w2 ⟨hb, rfl, d2, b2, l2, -⟩; rw [HA.out.2.1] at d2; rw [HA.out.2.2] at b2; have D2 := hid d2; have B2 := hid b2; have L2 := hid l2; clear d2 b2 l2))
            go_upto_region 11 with (go_at_call 9; refine (failD w _ db _ _ _ D2.out (by have := HK.out; omega)).mono ?_; rintro e w3 ⟨rfl, d3, k3⟩; rw [HMx.out] at d3; have D3 := hid (show Dsk w w3 db ⟨[], false, (k : Int)⟩ ([] ++ [hb]) from d3); have B3 := hid (k3.at (by simp) B2.out); clear d3 k3)
            clear D1 D1b D2 B2
            go_wp2_with (first | (go_at_call 10; refine (save_any w _ db hb _ ([] ++ [hb]) t v 0 0 D3.out (by simp) B3.out L2.out HT.out HR.out.1 HR.out.2).mono ?_; rintro e w4 ⟨rfl, d4, b4⟩; rw [HS.out.1]; rw [HS.out.2.1] at d4; rw [HS.out.2.2] at b4; have D4 := hid d4; have B4 := hid b4; clear d4 b4) | (go_at_call 11; refine (downD w _ db _ _ D4.out).mono ?_; rintro e w8 ⟨rfl, hw⟩; have hw2 := hw.symm; subst hw2; clear hw) | (go_at_call 12; refine (term_any hb _ _ _ _ B4.out).mono ?_; rintro e w8 ⟨rfl, hw⟩; have hw2 := hw.symm; subst hw2; clear hw))
            all_goals (go_ret; exact ⟨rfl, D4.out.base⟩)
      · have hr : rgt t v = false := by unfold rgt; simp [c3]
        by_cases z1 : t = 0
        · have d2 : (v == 0) = false := by rw [beq_eq_false_iff_ne]; omega
          subst z1
          clear c1 c2
          have HS := hid (st_wrong (p := ⟨[], false, (k : Int)⟩) (t := 0) (v := v) (t0 := 0) (v0 := 0) hr)
          clear hr
          go_enter Tryd.func3, Tryd.ntmps3
          go_upto_region 5 with (first | (go_at_call 6; refine (newD w _ (Old.refl _)).mono ?_; rintro e w1 ⟨db, rfl, dd1, _⟩; have D1 := hid dd1; clear dd1) | (go_at_call 7; refine (alive_any _ (HT.out.up D1.out.base)).mono ?_; rintro e w1b ⟨rfl, u1⟩; have D1b := hid (D1.out.old u1); clear u1) | (go_at_call 8; refine (open_ok w _ db pd0 [] D1b.out HT.out HA.out.1).mono ?_; rintro e w2 ⟨hb, rfl, d2, b2, l2, -⟩; rw [HA.out.2.1] at d2; rw [HA.out.2.2] at b2; have D2 := hid d2; have B2 := hid b2; have L2 := hid l2; clear d2 b2 l2))
          go_upto_region 11 with (go_at_call 9; refine (failD w _ db _ _ _ D2.out (by have := HK.out; omega)).mono ?_; rintro e w3 ⟨rfl, d3, k3⟩; rw [HMx.out] at d3; have D3 := hid (show Dsk w w3 db ⟨[], false, (k : Int)⟩ ([] ++ [hb]) from d3); have B3 := hid (k3.at (by simp) B2.out); clear d3 k3)
          clear D1 D1b D2 B2
          go_wp2_with (first | (go_at_call 10; refine (save_any w _ db hb _ ([] ++ [hb]) 0 v 0 0 D3.out (by simp) B3.out L2.out HT.out HR.out.1 HR.out.2).mono ?_; rintro e w4 ⟨rfl, d4, b4⟩; rw [HS.out.1]; rw [HS.out.2.1] at d4; rw [HS.out.2.2] at b4; have D4 := hid d4; have B4 := hid b4; clear d4 b4) | (go_at_call 11; refine (downD w _ db _ _ D4.out).mono ?_; rintro e w8 ⟨rfl, hw⟩; have hw2 := hw.symm; subst hw2; clear hw) | (go_at_call 12; refine (term_any hb _ _ _ _ B4.out).mono ?_; rintro e w8 ⟨rfl, hw⟩; have hw2 := hw.symm; subst hw2; clear hw))
          all_goals (go_ret; exact ⟨rfl, D4.out.base⟩)
        · have d1 : (t == 0) = false := by rw [beq_eq_false_iff_ne]; exact z1
          have HS := hid (st_wrong (p := ⟨[], false, (k : Int)⟩) (t := t) (v := v) (t0 := 0) (v0 := 0) hr)
          clear hr
          go_enter Tryd.func3, Tryd.ntmps3
          go_upto_region 5 with (first | (go_at_call 6; refine (newD w _ (Old.refl _)).mono ?_; rintro e w1 ⟨db, rfl, dd1, _⟩; have D1 := hid dd1; clear dd1) | (go_at_call 7; refine (alive_any _ (HT.out.up D1.out.base)).mono ?_; rintro e w1b ⟨rfl, u1⟩; have D1b := hid (D1.out.old u1); clear u1) | (go_at_call 8; refine (open_ok w _ db pd0 [] D1b.out HT.out HA.out.1).mono ?_; rintro e w2 ⟨hb, rfl, d2, b2, l2, -⟩; rw [HA.out.2.1] at d2; rw [HA.out.2.2] at b2; have D2 := hid d2; have B2 := hid b2; have L2 := hid l2; clear d2 b2 l2))
          go_upto_region 11 with (go_at_call 9; refine (failD w _ db _ _ _ D2.out (by have := HK.out; omega)).mono ?_; rintro e w3 ⟨rfl, d3, k3⟩; rw [HMx.out] at d3; have D3 := hid (show Dsk w w3 db ⟨[], false, (k : Int)⟩ ([] ++ [hb]) from d3); have B3 := hid (k3.at (by simp) B2.out); clear d3 k3)
          clear D1 D1b D2 B2
          go_wp2_with (first | (go_at_call 10; refine (save_any w _ db hb _ ([] ++ [hb]) t v 0 0 D3.out (by simp) B3.out L2.out HT.out HR.out.1 HR.out.2).mono ?_; rintro e w4 ⟨rfl, d4, b4⟩; rw [HS.out.1]; rw [HS.out.2.1] at d4; rw [HS.out.2.2] at b4; have D4 := hid d4; have B4 := hid b4; clear d4 b4) | (go_at_call 11; refine (downD w _ db _ _ D4.out).mono ?_; rintro e w8 ⟨rfl, hw⟩; have hw2 := hw.symm; subst hw2; clear hw) | (go_at_call 12; refine (term_any hb _ _ _ _ B4.out).mono ?_; rintro e w8 ⟨rfl, hw⟩; have hw2 := hw.symm; subst hw2; clear hw))
          all_goals (go_ret; exact ⟨rfl, D4.out.base⟩)
    · have hr : rgt t v = false := by unfold rgt; simp [c2]
      have HS := hid (st_wrong (p := ⟨[], false, (k : Int)⟩) (t := t) (v := v) (t0 := 0) (v0 := 0) hr)
      clear hr
      go_enter Tryd.func3, Tryd.ntmps3
      go_upto_region 5 with (first | (go_at_call 6; refine (newD w _ (Old.refl _)).mono ?_; rintro e w1 ⟨db, rfl, dd1, _⟩; have D1 := hid dd1; clear dd1) | (go_at_call 7; refine (alive_any _ (HT.out.up D1.out.base)).mono ?_; rintro e w1b ⟨rfl, u1⟩; have D1b := hid (D1.out.old u1); clear u1) | (go_at_call 8; refine (open_ok w _ db pd0 [] D1b.out HT.out HA.out.1).mono ?_; rintro e w2 ⟨hb, rfl, d2, b2, l2, -⟩; rw [HA.out.2.1] at d2; rw [HA.out.2.2] at b2; have D2 := hid d2; have B2 := hid b2; have L2 := hid l2; clear d2 b2 l2))
      go_upto_region 11 with (go_at_call 9; refine (failD w _ db _ _ _ D2.out (by have := HK.out; omega)).mono ?_; rintro e w3 ⟨rfl, d3, k3⟩; rw [HMx.out] at d3; have D3 := hid (show Dsk w w3 db ⟨[], false, (k : Int)⟩ ([] ++ [hb]) from d3); have B3 := hid (k3.at (by simp) B2.out); clear d3 k3)
      clear D1 D1b D2 B2
      go_wp2_with (first | (go_at_call 10; refine (save_any w _ db hb _ ([] ++ [hb]) t v 0 0 D3.out (by simp) B3.out L2.out HT.out HR.out.1 HR.out.2).mono ?_; rintro e w4 ⟨rfl, d4, b4⟩; rw [HS.out.1]; rw [HS.out.2.1] at d4; rw [HS.out.2.2] at b4; have D4 := hid d4; have B4 := hid b4; clear d4 b4) | (go_at_call 11; refine (downD w _ db _ _ D4.out).mono ?_; rintro e w8 ⟨rfl, hw⟩; have hw2 := hw.symm; subst hw2; clear hw) | (go_at_call 12; refine (term_any hb _ _ _ _ B4.out).mono ?_; rintro e w8 ⟨rfl, hw⟩; have hw2 := hw.symm; subst hw2; clear hw))
      all_goals (go_ret; exact ⟨rfl, D4.out.base⟩)
  · have hr : rgt t v = false := by unfold rgt; simp [c1]
    have HS := hid (st_wrong (p := ⟨[], false, (k : Int)⟩) (t := t) (v := v) (t0 := 0) (v0 := 0) hr)
    clear hr
    go_enter Tryd.func3, Tryd.ntmps3
    go_upto_region 5 with (first | (go_at_call 6; refine (newD w _ (Old.refl _)).mono ?_; rintro e w1 ⟨db, rfl, dd1, _⟩; have D1 := hid dd1; clear dd1) | (go_at_call 7; refine (alive_any _ (HT.out.up D1.out.base)).mono ?_; rintro e w1b ⟨rfl, u1⟩; have D1b := hid (D1.out.old u1); clear u1) | (go_at_call 8; refine (open_ok w _ db pd0 [] D1b.out HT.out HA.out.1).mono ?_; rintro e w2 ⟨hb, rfl, d2, b2, l2, -⟩; rw [HA.out.2.1] at d2; rw [HA.out.2.2] at b2; have D2 := hid d2; have B2 := hid b2; have L2 := hid l2; clear d2 b2 l2))
    go_upto_region 11 with (go_at_call 9; refine (failD w _ db _ _ _ D2.out (by have := HK.out; omega)).mono ?_; rintro e w3 ⟨rfl, d3, k3⟩; rw [HMx.out] at d3; have D3 := hid (show Dsk w w3 db ⟨[], false, (k : Int)⟩ ([] ++ [hb]) from d3); have B3 := hid (k3.at (by simp) B2.out); clear d3 k3)
    clear D1 D1b D2 B2
    go_wp2_with (first | (go_at_call 10; refine (save_any w _ db hb _ ([] ++ [hb]) t v 0 0 D3.out (by simp) B3.out L2.out HT.out HR.out.1 HR.out.2).mono ?_; rintro e w4 ⟨rfl, d4, b4⟩; rw [HS.out.1]; rw [HS.out.2.1] at d4; rw [HS.out.2.2] at b4; have D4 := hid d4; have B4 := hid b4; clear d4 b4) | (go_at_call 11; refine (downD w _ db _ _ D4.out).mono ?_; rintro e w8 ⟨rfl, hw⟩; have hw2 := hw.symm; subst hw2; clear hw) | (go_at_call 12; refine (term_any hb _ _ _ _ B4.out).mono ?_; rintro e w8 ⟨rfl, hw⟩; have hw2 := hw.symm; subst hw2; clear hw))
    all_goals (go_ret; exact ⟨rfl, D4.out.base⟩)
end Go.Proofs.YtdjlkmghdpmdiaaDoor
