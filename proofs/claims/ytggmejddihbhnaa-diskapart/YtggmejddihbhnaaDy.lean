/- The law DiskPower's walk; no condition. -/
import Derived.Test.YtggmejddihbhnaaDx
namespace Go.Proofs.Ytggmejddihbhnaa
open Go.RowKit Go.Lib
set_option linter.unusedVariables false
set_option linter.unusedSimpArgs false
set_option maxRecDepth 20000
theorem and_mask (a : Int) (m : Nat) (hm : m < 9223372036854775808) : ∃ M : Nat, M ≤ m ∧ bits .and .i64 a (m : Int) = (M : Int) := by
  refine ⟨(BitVec.ofInt 64 a &&& BitVec.ofInt 64 (m : Int)).toNat, ?_, ?_⟩
  · rw [BitVec.toNat_and, BitVec.ofInt_natCast, BitVec.toNat_ofNat, Nat.mod_eq_of_lt (by omega)]
    exact Nat.and_le_right
  · have h : (BitVec.ofInt 64 a &&& BitVec.ofInt 64 (m : Int)).toNat ≤ m := by
      rw [BitVec.toNat_and, BitVec.ofInt_natCast, BitVec.toNat_ofNat, Nat.mod_eq_of_lt (by omega)]
      exact Nat.and_le_right
    show IntKind.i64.wrap ((BitVec.ofInt 64 a &&& BitVec.ofInt 64 (m : Int)).toNat : Int) = _
    generalize (BitVec.ofInt 64 a &&& BitVec.ofInt 64 (m : Int)).toNat = r at *
    simp [IntKind.wrap, IntKind.bits, IntKind.signed]
    omega
theorem ByRow.rw {w : World} {v : Value} {n : Nat} {x : Nat → Nat} (h : Pk.ByRow w v n x) : ∃ L : List Nat, L.length = n ∧ Rw w v L := by
  refine ⟨(List.range n).map x, by simp, ?_⟩
  unfold Rw
  have e : ((List.range n).map x).length = n := by simp
  rw [e]
  rcases h with h | ⟨h0, hm, b, off, cap, hv, hc, hcp⟩
  · exact .inl h
  · refine .inr ⟨h0, hm, b, off, cap, hv, fun i hi => ?_, hcp⟩
    have q : gd ((List.range n).map x) i = x i := by simp [gd, hi]
    rw [q]
    exact hc i hi
theorem Rw.take {w : World} {p : Option Addr} {n c : Nat} {L : List Nat} (h : Rw w (.slice p n c) L) (m : Nat) (hm : m ≤ L.length) : Rw w (.slice p m c) (L.take m) := by
  unfold Rw at *
  have e : (L.take m).length = m := by simp; omega
  rw [e]
  rcases h with ⟨h0, a, c', hv, hz⟩ | ⟨h0, hmx, b, off, cap, hv, hc, hcp⟩
  · cases hv
    obtain rfl : m = 0 := by omega
    exact .inl ⟨rfl, _, _, rfl, hz⟩
  · cases hv
    by_cases m0 : m = 0
    · subst m0
      exact .inl ⟨rfl, _, _, rfl, fun e => by cases e⟩
    · refine .inr ⟨by omega, by omega, b, off, _, rfl, fun i hi => ?_, by omega, hcp.2⟩
      have q : gd (L.take m) i = gd L i := by simp [gd, List.getElem?_take, hi]
      rw [q]
      exact hc i (by omega)
def pw (L : List Nat) (f : Int) : PD := ⟨[(sA, ⟨L, []⟩)], false, f⟩
def pwD (L : List Nat) : PD := ⟨[(sA, ⟨L, []⟩)], true, 0⟩
theorem misA : [sA].any misN = false := by kernel_rfl
theorem misB : [sB].any misN = false := by kernel_rfl
theorem onA (L : List Nat) (f : Int) (h : f ≠ 1) : onE (pw L f) [sA] = 0 := by
  have e : (pw L f).stepd.down = false := by simp [pw, PD.stepd, h]
  unfold onE faultC
  rw [e, misA]
  simp [pw, getP]
theorem atA (L : List Nat) (f : Int) : fileAt (pw L f) sA = ⟨L, []⟩ := by simp [fileAt, pw, getP]
theorem over0 (L' L : List Nat) (h : L' = [] ∨ L' = L) : overL L' 0 L = L := by
  rcases h with rfl | rfl <;> simp [overL, splice]
theorem pw_write (L' L : List Nat) (f : Int) (h2 : 2 ≤ f) (hL : L.length ≤ 500) (hl : L' = [] ∨ L' = L) : writeC (pw L' f) sA 0 L = 0 ∧ writeP (pw L' f) sA 0 L = pw L (f - 1) := by
  have c : writeC (pw L' f) sA 0 L = 0 := by
    unfold writeC
    rw [onA L' f (by omega), if_pos rfl, if_neg (by simp [beyB]), if_neg (by omega)]
  refine ⟨c, ?_⟩
  unfold writeP
  rw [if_pos c, atA]
  have e1 : decide (f = 1) = false := decide_eq_false (by omega)
  have e2 : max 0 (f - 1) = f - 1 := by omega
  have e3 : (pw L' f).stepd = ⟨(pw L' f).fs, false, f - 1⟩ := by
    show PD.mk _ (false || decide (f = 1)) (max 0 (f - 1)) = _
    rw [e1, e2]
    rfl
  rw [e3]
  show PD.mk (setP (pw L' f).fs sA ⟨overL L' 0 L, []⟩) false (f - 1) = _
  rw [over0 L' L hl]
  simp [pw, setP]
theorem pw_sync (L : List Nat) : syncC (pw L 1) sA = 50 ∧ syncP (pw L 1) sA = pwD L := by
  have c : syncC (pw L 1) sA = 50 := by
    unfold syncC onE faultC
    simp [pw, PD.stepd]
  refine ⟨c, ?_⟩
  unfold syncP
  rw [if_neg (by rw [c]; decide)]
  simp [pw, pwD, PD.stepd]
theorem pw_createB (L : List Nat) : createC (pwD L) sB = 50 ∧ createP (pwD L) sB = pwD L := by
  have c : createC (pwD L) sB = 50 := by
    unfold createC faultC
    simp [pwD, PD.stepd]
  refine ⟨c, ?_⟩
  unfold createP
  rw [if_neg (by rw [c]; decide)]
  rfl
theorem pw_read (L : List Nat) : readC (pwD L) sA = 50 ∧ readL (pwD L) sA = [] := by
  have c : readC (pwD L) sA = 50 := by
    unfold readC faultC
    simp [pwD]
  refine ⟨c, ?_⟩
  unfold readL
  rw [if_neg (by rw [c]; decide)]
theorem pw_crash (L : List Nat) : crashP (pwD L) [sA] [] = x1 := by
  unfold crashP x1
  have e : filP (pwD L).fs sA = ⟨L, []⟩ := by simp [filP, pwD, getP]
  have q : (crash1 ⟨L, []⟩ []).1 = ⟨[], []⟩ := by simp [crash1, craK]
  show PD.mk (setP (pwD L).fs sA (crash1 (filP (pwD L).fs sA) []).1) false 0 = _
  rw [e, q]
  simp [setP, pwD]
def x1b : PD := ⟨[(sA, ⟨[], []⟩), (sB, ⟨[], []⟩)], false, 0⟩
theorem pw_readA : readC x1 sA = 0 ∧ readL x1 sA = [] := ⟨by kernel_rfl, by kernel_rfl⟩
theorem pw_createB2 : createC x1 sB = 0 ∧ createP x1 sB = x1b := ⟨by kernel_rfl, by kernel_rfl⟩
theorem BRow.none (w : World) : BRow w (.slice none 0 0) [] := ⟨by simp, _, 0, rfl, by simp, by simp, fun i hi => by simp at hi⟩
set_option maxHeartbeats 4000000 in
set_option maxRecDepth 20000 in
theorem powerLaw (n : Int) (v : Value) (L : List Nat) (w : World) (h : Rw w v L) : Calls Try.prog 3 #[.int .i64 n, v] w fun e w' => e = .returned (.bool true) ∧ Old w w' := by
  obtain ⟨m, hm, he⟩ := and_mask n 7 (by omega)
  obtain ⟨pa, pc, rfl⟩ := h.len
  have he' : bits .and .i64 n 7 = (m : Int) := he
  clear he
  go_enter Try.func3, Try.ntmps3
  by_cases hbig : 500 < L.length
  · have l1 : (500 : Int) < (L.length : Int) := by omega
    obtain ⟨L1, HR⟩ : ∃ L1, Hid (Rw w (.slice pa 500 pc) L1 ∧ L1.length ≤ 500) := ⟨L.take 500, hid ⟨h.take 500 (by omega), by simp; omega⟩⟩
    obtain ⟨bb, off, cap, ev, _, lc, mc⟩ := h.cells (by omega)
    cases ev
    unfold maxLen at mc
    generalize L.length = ll at *
    have q1 : (500 : Int) ≤ (pc : Int) := by omega
    have q2 : (pc : Int) ≤ 9223372036854775807 := by omega
    clear h
    go_upto_region 7 with (first | (go_at_call 9; refine (newD w _ (Old.refl _)).mono ?_; rintro e w1 ⟨db, rfl, d1, _⟩; have D1 := hid d1; clear d1) | (go_at_call 10; refine (alive_any _).mono ?_; rintro e w2 ⟨rfl, u2⟩; have D2 := hid (D1.out.old u2); clear u2))
    generalize Value.slice (some ⟨bb, off, none⟩) 500 pc = v1 at *
    have HB := hid (show ∀ b : List Nat, L1 ≠ [] → ∀ g, v1.ownBlock = some g → g < w.heap.size ∨ g ∈ ([] : List Nat) from fun _ h0 g e => .inl (HR.out.1.lt (List.length_pos_iff.2 h0) g e))
    go_upto_region 9 with (first | (go_at_call 11; refine (createD w _ db _ _ sA D2.out).mono ?_; rintro e w3 ⟨rfl, d3, _⟩; rw [t1.1]; rw [t1.2] at d3; have D3 := hid d3; clear d3) | (go_at_call 12; refine (failD w _ db _ _ _ D3.out (by omega)).mono ?_; rintro e w4 ⟨rfl, d4, _⟩; have D4 := hid (show Dsk w w4 db (pw [] (2 + m - (1 : Nat))) [] from by have e : (⟨x1.fs, x1.down, max 0 (1 + (m : Int))⟩ : PD) = pw [] (2 + m - (1 : Nat)) := (by unfold x1 pw; rw [show max 0 (1 + (m : Int)) = 2 + m - (1 : Nat) by omega]); rw [← e]; exact d4); clear d4))
    clear he'
    go_wp2
    go_loopw [6] (fun c wr => ∃ (i : Nat) (L' : List Nat), 1 ≤ i ∧ i ≤ m + 1 ∧ c = .int .i64 (i : Nat) ∧ (L' = [] ∨ L' = L1) ∧ Dsk w wr db (pw L' (2 + m - (i : Nat))) []) (fun c _ => m + 1 - (intOf c).toNat)
    case atStart => exact ⟨1, [], by omega, by omega, rfl, .inl rfl, D4.out⟩
    case round =>
      obtain ⟨i, L', hi1, hi, rfl, hl, hD⟩ := hrel
      have HL := hid hl
      have HD := hid hD
      clear hl hD
      by_cases hit : i < m + 1
      · have l3 : (i : Int) < 1 + (m : Int) := by omega
        go_wp2_with (first | (go_at_call 13; refine (writeD w _ db _ _ sA 0 _ L1 HD.out (HR.out.1.old HD.out.base) (HB.out L1) (by omega)).mono ?_; rintro e w5 ⟨rfl, d5, _⟩; have PW := pw_write L' L1 (2 + m - (i : Nat)) (by omega) HR.out.2 HL.out; rw [PW.1]; rw [PW.2] at d5; have D5 := hid d5; clear d5 PW) | (go_at_call 14; refine (downD w _ db _ _ D5.out).mono ?_; rintro e w6 ⟨rfl, hw⟩; have hw2 := hw.symm; subst hw2; have hdn : (pw L1 (2 + m - (i : Nat) - 1)).down = false := rfl; rw [hdn]))
        go_roundw
        case rel => exact ⟨i + 1, L1, by omega, by omega, by go_num, .inr rfl, by have := D5.out; rw [show (2 + m - (i : Nat) - 1 : Int) = 2 + m - ((i + 1 : Nat) : Int) by omega] at this; exact this⟩
        case measure => simp [intOf]; omega
      · obtain rfl : i = m + 1 := by omega
        have l3 : ¬ (((m + 1 : Nat) : Int) < 1 + (m : Int)) := by omega
        have HD0 := hid (show Dsk w wr db (pw L' 1) [] from by have := HD.out; rw [show (2 + m - ((m + 1 : Nat) : Int)) = 1 by omega] at this; exact this)
        clear HD
        go_wp2_with (first | (go_at_call 15; refine (looseD w _ db _ _ HD0.out).mono ?_; rintro e w7 ⟨rfl, u7⟩; have D7 := hid (HD0.out.old u7); clear u7 HD0; have hlo : looN (pwD L').fs = looN (pw L' 1).fs := rfl) | (go_at_call 16; refine (syncD w _ db _ _ sA D7.out).mono ?_; rintro e w8 ⟨rfl, d8, _⟩; rw [(pw_sync L').1]; rw [(pw_sync L').2] at d8; have D8 := hid d8; clear d8 D7) | (go_at_call 14; refine (downD w _ db _ _ D8.out).mono ?_; rintro e w9 ⟨rfl, hw⟩; have hw2 := hw.symm; subst hw2; have hdn : (pwD L').down = true := rfl; rw [hdn]) | (go_at_call 11; refine (createD w _ db _ _ sB D8.out).mono ?_; rintro e w10 ⟨rfl, d10, _⟩; rw [(pw_createB L').1]; rw [(pw_createB L').2] at d10; have D10 := hid d10; clear d10 D8) | (go_at_call 15; refine (looseD w _ db _ _ D10.out).mono ?_; rintro e w11 ⟨rfl, u11⟩; rw [hlo]; have D11 := hid (D10.out.old u11); clear u11 D10 hlo) | (go_at_call 17; refine (readD w _ db _ _ sA D11.out).mono ?_; rintro e w12 ⟨v12, rfl, o12, u12, _⟩; rw [(pw_read L').1]; have D12 := hid (D11.out.old u12); clear u12 o12 D11) | (go_at_call 18; refine (crashD w _ db _ _ _ [] D12.out (BRow.none _) (.inl rfl) (fun h => by simp at h)).mono ?_; rintro e w13 ⟨rfl, S, hS, _, d13, _⟩; obtain rfl := perm1 (show S.Perm [sA] from hS); rw [pw_crash] at d13; have D13 := hid d13; clear d13 hS D12) | (go_at_call 17; refine (readD w _ db _ _ sA D13.out).mono ?_; rintro e w14 ⟨v14, rfl, o14, u14, _⟩; rw [pw_readA.1]; rw [pw_readA.2] at o14; obtain ⟨pe, ce, ee⟩ := o14.len; subst ee; have D14 := hid (D13.out.old u14); clear u14 o14 D13) | (go_at_call 14; refine (downD w _ db _ _ D14.out).mono ?_; rintro e w15 ⟨rfl, hw⟩; have hw2 := hw.symm; subst hw2; have hdn : x1.down = false := rfl; rw [hdn]) | (go_at_call 11; refine (createD w _ db _ _ sB D14.out).mono ?_; rintro e w16 ⟨rfl, d16, _⟩; rw [pw_createB2.1]; rw [pw_createB2.2] at d16; have D16 := hid d16; clear d16 D14) | (go_at_call 19; refine (namesD w _ db _ _ D16.out).mono ?_; rintro e w17 ⟨vn, S, rfl, hS, _, oS, u17⟩; have hl2 : S.length = 2 := hS.length_eq; obtain ⟨pn, cn, en⟩ := oS.len; rw [hl2] at en; subst en; have D17 := hid (D16.out.old u17); clear oS u17 hS hl2))
        go_ret
        exact ⟨rfl, D17.out.base⟩
  · have l1 : ¬ (500 : Int) < (L.length : Int) := by omega
    obtain ⟨L1, HR⟩ : ∃ L1, Hid (Rw w (.slice pa L.length pc) L1 ∧ L1.length ≤ 500) := ⟨L, hid ⟨h, by omega⟩⟩
    clear h hbig
    go_upto_region 7 with (first | (go_at_call 9; refine (newD w _ (Old.refl _)).mono ?_; rintro e w1 ⟨db, rfl, d1, _⟩; have D1 := hid d1; clear d1) | (go_at_call 10; refine (alive_any _).mono ?_; rintro e w2 ⟨rfl, u2⟩; have D2 := hid (D1.out.old u2); clear u2))
    generalize Value.slice pa L.length pc = v1 at *
    have HB := hid (show ∀ b : List Nat, L1 ≠ [] → ∀ g, v1.ownBlock = some g → g < w.heap.size ∨ g ∈ ([] : List Nat) from fun _ h0 g e => .inl (HR.out.1.lt (List.length_pos_iff.2 h0) g e))
    go_upto_region 9 with (first | (go_at_call 11; refine (createD w _ db _ _ sA D2.out).mono ?_; rintro e w3 ⟨rfl, d3, _⟩; rw [t1.1]; rw [t1.2] at d3; have D3 := hid d3; clear d3) | (go_at_call 12; refine (failD w _ db _ _ _ D3.out (by omega)).mono ?_; rintro e w4 ⟨rfl, d4, _⟩; have D4 := hid (show Dsk w w4 db (pw [] (2 + m - (1 : Nat))) [] from by have e : (⟨x1.fs, x1.down, max 0 (1 + (m : Int))⟩ : PD) = pw [] (2 + m - (1 : Nat)) := (by unfold x1 pw; rw [show max 0 (1 + (m : Int)) = 2 + m - (1 : Nat) by omega]); rw [← e]; exact d4); clear d4))
    clear he'
    go_wp2
    go_loopw [6] (fun c wr => ∃ (i : Nat) (L' : List Nat), 1 ≤ i ∧ i ≤ m + 1 ∧ c = .int .i64 (i : Nat) ∧ (L' = [] ∨ L' = L1) ∧ Dsk w wr db (pw L' (2 + m - (i : Nat))) []) (fun c _ => m + 1 - (intOf c).toNat)
    case atStart => exact ⟨1, [], by omega, by omega, rfl, .inl rfl, D4.out⟩
    case round =>
      obtain ⟨i, L', hi1, hi, rfl, hl, hD⟩ := hrel
      have HL := hid hl
      have HD := hid hD
      clear hl hD
      by_cases hit : i < m + 1
      · have l3 : (i : Int) < 1 + (m : Int) := by omega
        go_wp2_with (first | (go_at_call 13; refine (writeD w _ db _ _ sA 0 _ L1 HD.out (HR.out.1.old HD.out.base) (HB.out L1) (by omega)).mono ?_; rintro e w5 ⟨rfl, d5, _⟩; have PW := pw_write L' L1 (2 + m - (i : Nat)) (by omega) HR.out.2 HL.out; rw [PW.1]; rw [PW.2] at d5; have D5 := hid d5; clear d5 PW) | (go_at_call 14; refine (downD w _ db _ _ D5.out).mono ?_; rintro e w6 ⟨rfl, hw⟩; have hw2 := hw.symm; subst hw2; have hdn : (pw L1 (2 + m - (i : Nat) - 1)).down = false := rfl; rw [hdn]))
        go_roundw
        case rel => exact ⟨i + 1, L1, by omega, by omega, by go_num, .inr rfl, by have := D5.out; rw [show (2 + m - (i : Nat) - 1 : Int) = 2 + m - ((i + 1 : Nat) : Int) by omega] at this; exact this⟩
        case measure => simp [intOf]; omega
      · obtain rfl : i = m + 1 := by omega
        have l3 : ¬ (((m + 1 : Nat) : Int) < 1 + (m : Int)) := by omega
        have HD0 := hid (show Dsk w wr db (pw L' 1) [] from by have := HD.out; rw [show (2 + m - ((m + 1 : Nat) : Int)) = 1 by omega] at this; exact this)
        clear HD
        go_wp2_with (first | (go_at_call 15; refine (looseD w _ db _ _ HD0.out).mono ?_; rintro e w7 ⟨rfl, u7⟩; have D7 := hid (HD0.out.old u7); clear u7 HD0; have hlo : looN (pwD L').fs = looN (pw L' 1).fs := rfl) | (go_at_call 16; refine (syncD w _ db _ _ sA D7.out).mono ?_; rintro e w8 ⟨rfl, d8, _⟩; rw [(pw_sync L').1]; rw [(pw_sync L').2] at d8; have D8 := hid d8; clear d8 D7) | (go_at_call 14; refine (downD w _ db _ _ D8.out).mono ?_; rintro e w9 ⟨rfl, hw⟩; have hw2 := hw.symm; subst hw2; have hdn : (pwD L').down = true := rfl; rw [hdn]) | (go_at_call 11; refine (createD w _ db _ _ sB D8.out).mono ?_; rintro e w10 ⟨rfl, d10, _⟩; rw [(pw_createB L').1]; rw [(pw_createB L').2] at d10; have D10 := hid d10; clear d10 D8) | (go_at_call 15; refine (looseD w _ db _ _ D10.out).mono ?_; rintro e w11 ⟨rfl, u11⟩; rw [hlo]; have D11 := hid (D10.out.old u11); clear u11 D10 hlo) | (go_at_call 17; refine (readD w _ db _ _ sA D11.out).mono ?_; rintro e w12 ⟨v12, rfl, o12, u12, _⟩; rw [(pw_read L').1]; have D12 := hid (D11.out.old u12); clear u12 o12 D11) | (go_at_call 18; refine (crashD w _ db _ _ _ [] D12.out (BRow.none _) (.inl rfl) (fun h => by simp at h)).mono ?_; rintro e w13 ⟨rfl, S, hS, _, d13, _⟩; obtain rfl := perm1 (show S.Perm [sA] from hS); rw [pw_crash] at d13; have D13 := hid d13; clear d13 hS D12) | (go_at_call 17; refine (readD w _ db _ _ sA D13.out).mono ?_; rintro e w14 ⟨v14, rfl, o14, u14, _⟩; rw [pw_readA.1]; rw [pw_readA.2] at o14; obtain ⟨pe, ce, ee⟩ := o14.len; subst ee; have D14 := hid (D13.out.old u14); clear u14 o14 D13) | (go_at_call 14; refine (downD w _ db _ _ D14.out).mono ?_; rintro e w15 ⟨rfl, hw⟩; have hw2 := hw.symm; subst hw2; have hdn : x1.down = false := rfl; rw [hdn]) | (go_at_call 11; refine (createD w _ db _ _ sB D14.out).mono ?_; rintro e w16 ⟨rfl, d16, _⟩; rw [pw_createB2.1]; rw [pw_createB2.2] at d16; have D16 := hid d16; clear d16 D14) | (go_at_call 19; refine (namesD w _ db _ _ D16.out).mono ?_; rintro e w17 ⟨vn, S, rfl, hS, _, oS, u17⟩; have hl2 : S.length = 2 := hS.length_eq; obtain ⟨pn, cn, en⟩ := oS.len; rw [hl2] at en; subst en; have D17 := hid (D16.out.old u17); clear oS u17 hS hl2))
        go_ret
        exact ⟨rfl, D17.out.base⟩
end Go.Proofs.Ytggmejddihbhnaa
