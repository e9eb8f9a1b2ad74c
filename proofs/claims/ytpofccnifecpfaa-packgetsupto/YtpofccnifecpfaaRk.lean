/- What a Reader's Num, Key, Flag, Count and Bytes do, told with the block in which its bytes lie; conditions: the Reader lies in memory, alive. -/
import Derived.Test.YtpofccnifecpfaaCl
import Derived.Test.YtpofccnifecpfaaCpk
namespace Go.Proofs.Ytpofccnifecpfaa
open Go.RowKit
set_option linter.unusedVariables false
/-- A Reader at R that lives, without an error, with these bytes left, in the block b0. -/
def RB (w : World) (R b0 n : Nat) (x : Nat → Nat) : Prop := ∃ v, Rd w R v 0 true ∧ ByRow w v n x ∧ (n = 0 ∨ v.ownBlock = some b0)
theorem RB.lt {w : World} {R b0 n : Nat} {x : Nat → Nat} (h : RB w R b0 n x) : R < w.heap.size := by obtain ⟨v, hr, _⟩ := h; exact lt_of_block hr
theorem Chg.cell {S : List Nat} {w w' : World} (c : Chg S w w') {p : Addr} {v : Value} (h : w.cell? p = some v) (hn : p.block ∉ S) : w'.cell? p = some v := by
  rw [World.cell?_of_block (c.block p.block (World.block_lt_of_cell? w p h) hn)]; exact h
theorem ByRow.chg {S : List Nat} {w w' : World} {v : Value} {n : Nat} {x : Nat → Nat} (h : ByRow w v n x) (c : Chg S w w') (hb : n = 0 ∨ ∀ b, v.ownBlock = some b → b ∉ S) : ByRow w' v n x := by
  rcases h with h | ⟨hn, hm, b, off, cap, hv, hc, hcp⟩
  · exact .inl h
  · refine .inr ⟨hn, hm, b, off, cap, hv, fun i hi => ⟨(hc i hi).1, c.cell (hc i hi).2 ?_⟩, hcp⟩
    rcases hb with hb | hb
    · omega
    · exact hb b (by rw [hv]; rfl)
theorem RB.chg {S : List Nat} {w w' : World} {R b0 n : Nat} {x : Nat → Nat} (h : RB w R b0 n x) (c : Chg S w w') (hR : R ∉ S) (hb : b0 ∉ S) : RB w' R b0 n x := by
  obtain ⟨v, hr, hv, hne⟩ := h
  refine ⟨v, (c.block R (lt_of_block hr) hR).trans hr, hv.chg c ?_, hne⟩
  rcases hne with e | e
  · exact .inl e
  · right; intro b hb2; rw [e] at hb2; cases hb2; exact hb
theorem RB.cut {w : World} {R b off n cap : Nat} {x : Nat → Nat} (h : Rd w R (.slice (some ⟨b, off, none⟩) n cap) 0 true) (hr : ByRow w (.slice (some ⟨b, off, none⟩) n cap) n x) (hne : b ≠ R) (k : Nat) (hk : k ≤ n) : RB (w.setCell ⟨R, 0, none⟩ (cutv b off n cap k)) R b (n - k) (sh k x) := by
  obtain ⟨v, h1, h2, h3⟩ := RS.cut h hr (.inr hne) k hk
  obtain rfl : v = cutv b off n cap k := by
    have e := (h.s0 (cutv b off n cap k)).c0
    rw [h1.c0] at e; cases e; rfl
  exact ⟨_, h1, h2, .inr rfl⟩
theorem RB.fail {w : World} {R b0 n : Nat} {x : Nat → Nat} (h : RB w R b0 n x) (c : Int) : RF ((w.setCell ⟨R, 1, none⟩ (.int .i64 c)).setCell ⟨R, 0, none⟩ (.slice none 0 0)) R c := by
  obtain ⟨v, hr, _⟩ := h
  exact (hr.s1 c).s0 _
/-- The code of the first k bytes, the greatest first. -/
def lkC (x : Nat → Nat) : Nat → Nat | 0 => 0 | k + 1 => lkC x k * 256 + x k
theorem lkC_lt (x : Nat → Nat) (n : Nat) (hx : ∀ i, i < n → x i < 256) : ∀ k, k ≤ n → lkC x k < 256 ^ k
  | 0, _ => by show 0 < 1; decide
  | k + 1, hk => by
    have h := lkC_lt x n hx k (by omega)
    have h2 := hx k (by omega)
    show lkC x k * 256 + x k < 256 ^ (k + 1)
    rw [Nat.pow_succ]; omega
def lkK (x : Nat → Nat) (n : Nat) : Nat := if 8 ≤ n ∧ Fl.isCode (lkC x 8) = true then 8 else 0
def lkV (x : Nat → Nat) (n : Nat) : Nat := if 8 ≤ n ∧ Fl.isCode (lkC x 8) = true then Fl.of (lkC x 8) else 0
def lfK (x : Nat → Nat) (n : Nat) : Nat := if 0 < n ∧ x 0 ≤ 1 then 1 else 0
def lfV (x : Nat → Nat) (n : Nat) : Bool := decide (0 < n ∧ x 0 = 1)
theorem lkK_le (x : Nat → Nat) (n : Nat) : lkK x n ≤ n := by unfold lkK; split <;> omega
theorem lfK_le (x : Nat → Nat) (n : Nat) : lfK x n ≤ n := by unfold lfK; split <;> omega
theorem or_byte (a c : Nat) (ha : a < 72057594037927936) (hc : c < 256) : bits .or .u64 ((a : Int) * 256) (c : Int) = ((a * 256 + c : Nat) : Int) := by
  rw [show ((a : Int) * 256) = ((a * 256 : Nat) : Int) by simp, u64_or_nat (a * 256) c (by omega) (by omega), nat_join 8 (a * 256) c (by omega) (by omega)]
set_option maxHeartbeats 1000000 in
theorem leadingKey_some (b off n cap : Nat) (x : Nat → Nat) (hn : 8 ≤ n) (hnc : n ≤ cap) (hm : cap ≤ maxLen) (w : World) (hc : ∀ i, i < n → x i < 256 ∧ w.cell? ⟨b, off + i, none⟩ = some (.int .u8 (x i : Int))) :
    Calls Try.prog 37 #[.slice (some ⟨b, off, none⟩) n cap] w fun e w' => e = .returned (.tuple #[.float .f64 (lkV x n), .int .i64 (lkK x n : Nat)]) ∧ w' = w := by
  unfold maxLen at hm
  have HC := hid hc
  have HL := hid (lkC_lt x n (fun i hi => (hc i hi).1))
  have HW : Fl.W (lkC x 8) := by have := HL.out 8 hn; unfold Fl.W; exact Nat.lt_of_lt_of_le this (by decide)
  have HY := hid (fun (h : Fl.isCode (lkC x 8) = true) W => from_yes (lkC x 8) HW h W)
  have HN := hid (fun (h : Fl.isCode (lkC x 8) = false) W => from_no (lkC x 8) HW h W)
  have HV : Hid (lkV x n = if 8 ≤ n ∧ Fl.isCode (lkC x 8) = true then Fl.of (lkC x 8) else 0) := rfl
  have HK : Hid (lkK x n = if 8 ≤ n ∧ Fl.isCode (lkC x 8) = true then 8 else 0) := rfl
  clear hc HW
  generalize lkV x n = V at *
  generalize lkK x n = K at *
  go_enter Try.func37, Try.ntmps37
  go_wp2
  go_loop [4, 15] (fun u i => ∃ k : Nat, k ≤ 8 ∧ i = .int .i64 (k : Nat) ∧ u = .int .u64 (lkC x k : Nat)) (fun _ i => 8 - (intOf i).toNat)
  case atStart => exact ⟨0, by omega, rfl, rfl⟩
  case round =>
    obtain ⟨k, hk, rfl, rfl⟩ := hrel
    by_cases hlt : k < 8
    · obtain ⟨hx, hcell⟩ := HC.out k (by omega)
      have h1 := HL.out k (by omega)
      have h2 : (256 : Nat) ^ k ≤ 256 ^ 7 := Nat.pow_le_pow_right (by omega) (by omega)
      have h3 : lkC x k < 72057594037927936 := Nat.lt_of_lt_of_le h1 (Nat.le_trans h2 (by decide))
      have eW : IntKind.u64.wrap ((lkC x k : Int) * 256) = (lkC x k : Int) * 256 := by rw [IntKind.wrap_u64]; omega
      have eO := or_byte (lkC x k) (x k) h3 hx
      have HS : Hid (lkC x (k + 1) = lkC x k * 256 + x k) := rfl
      clear HC h1 h2 HL HV HK
      generalize lkC x k = A at *
      go_wp2
      go_round
      case rel => exact ⟨k + 1, by omega, by go_num, by rw [HS.out]; first | rfl | (congr 1; simp_all) | go_num⟩
      case measure => simp [intOf]; omega
    · obtain rfl : k = 8 := by omega
      by_cases hcode : Fl.isCode (lkC x 8) = true
      · have HF := hid (HY.out hcode)
        have hV := HV.out
        have hK := HK.out
        rw [if_pos ⟨hn, hcode⟩] at hV hK
        subst hV hK
        clear HY HN HV HK hcode HL HC
        go_wp2_with (go_at_call 48; refine (HF.out _).mono ?_; rintro e w' ⟨rfl, hw⟩; have hw2 := hw.symm; subst hw2)
        go_ret2
        exact ⟨rfl, rfl⟩
      · have hcode2 : Fl.isCode (lkC x 8) = false := by simpa using hcode
        have HF := hid (HN.out hcode2)
        have hV := HV.out
        have hK := HK.out
        rw [if_neg (fun h => hcode h.2)] at hV hK
        subst hV hK
        clear HY HN HV HK hcode hcode2 HL HC
        go_wp2_with (go_at_call 48; refine (HF.out _).mono ?_; rintro e w' ⟨rfl, hw⟩; have hw2 := hw.symm; subst hw2)
        go_ret2
        exact ⟨rfl, rfl⟩
set_option maxHeartbeats 400000 in
theorem leadingKey_none (a : Option Addr) (n c : Nat) (h : n < 8) (w : World) :
    Calls Try.prog 37 #[.slice a n c] w fun e w' => e = .returned (.tuple #[.float .f64 0, .int .i64 0]) ∧ w' = w := by
  go_enter Try.func37, Try.ntmps37
  go_wp2
  go_ret2
  exact ⟨rfl, rfl⟩
theorem ByRow.slice {w : World} {v : Value} {n : Nat} {x : Nat → Nat} (hv : ByRow w v n x) : ∃ a c, v = .slice a n c := by
  rcases hv with ⟨rfl, a, c, rfl, _⟩ | ⟨_, _, b, off, cap, rfl, _⟩
  · exact ⟨a, c, rfl⟩
  · exact ⟨_, _, rfl⟩
theorem leadingKey_any (v : Value) (n : Nat) (x : Nat → Nat) (w : World) (hv : ByRow w v n x) :
    Calls Try.prog 37 #[v] w fun e w' => e = .returned (.tuple #[.float .f64 (lkV x n), .int .i64 (lkK x n : Nat)]) ∧ w' = w := by
  by_cases h : 8 ≤ n
  · obtain ⟨b, off, cap, rfl, hc, hnc, hm⟩ := hv.cells (by omega)
    exact leadingKey_some b off n cap x h hnc hm w hc
  · obtain ⟨a, c, rfl⟩ := hv.slice
    rw [show lkV x n = 0 by unfold lkV; rw [if_neg (fun q => h q.1)], show lkK x n = 0 by unfold lkK; rw [if_neg (fun q => h q.1)]]
    exact leadingKey_none a n c (by omega) w
set_option maxHeartbeats 400000 in
theorem leadingFlag_any (v : Value) (n : Nat) (x : Nat → Nat) (w : World) (hv : ByRow w v n x) :
    Calls Try.prog 40 #[v] w fun e w' => e = .returned (.tuple #[.bool (lfV x n), .int .i64 (lfK x n : Nat)]) ∧ w' = w := by
  by_cases h : 0 < n
  · obtain ⟨b, off, cap, rfl, hc, hnc, hm⟩ := hv.cells h
    obtain ⟨hx, c0⟩ := hc 0 h
    rw [Nat.add_zero] at c0
    unfold maxLen at hm
    have tn : ((n : Int) == 0) = false := by rw [beq_eq_false_iff_ne]; omega
    by_cases h1 : x 0 ≤ 1
    · by_cases hq : x 0 = 1
      · rw [show lfK x n = 1 by unfold lfK; rw [if_pos ⟨h, h1⟩], show lfV x n = true by unfold lfV; simp [h, hq]]
        rw [hq] at c0
        clear hv hc hx h1 hq
        go_enter Try.func40, Try.ntmps40
        go_wp2
        go_ret2
        exact ⟨rfl, rfl⟩
      · have hq0 : x 0 = 0 := by omega
        rw [show lfK x n = 1 by unfold lfK; rw [if_pos ⟨h, h1⟩], show lfV x n = false by unfold lfV; simp [hq]]
        rw [hq0] at c0
        clear hv hc hx h1 hq hq0
        go_enter Try.func40, Try.ntmps40
        go_wp2
        go_ret2
        exact ⟨rfl, rfl⟩
    · rw [show lfK x n = 0 by unfold lfK; rw [if_neg (fun q => h1 q.2)], show lfV x n = false by unfold lfV; simp; omega]
      clear hv hc
      generalize x 0 = q at *
      go_enter Try.func40, Try.ntmps40
      go_wp2
      go_ret2
      exact ⟨rfl, rfl⟩
  · obtain rfl : n = 0 := by omega
    obtain ⟨a, c, rfl⟩ := hv.slice
    rw [show lfK x 0 = 0 by unfold lfK; simp, show lfV x 0 = false by unfold lfV; simp]
    clear hv
    go_enter Try.func40, Try.ntmps40
    go_wp2
    go_ret2
    exact ⟨rfl, rfl⟩
set_option maxHeartbeats 400000 in
theorem rnum_ok (R b0 n : Nat) (x : Nat → Nat) (w : World) (h : RB w R b0 n x) (hb : b0 ≠ R) (hk : lnK x n ≠ 0) :
    Calls Try.prog 17 #[.pointer (some ⟨R, 0, none⟩)] w fun e w' => e = .returned (.int .i64 (lnV x n)) ∧ RB w' R b0 (n - lnK x n) (sh (lnK x n) x) ∧ Chg [R] w w' := by
  obtain ⟨v, hr, hv, hne⟩ := h
  have hkn : lnK x n ≤ n := ln_le x n 11 0
  obtain ⟨b, off, cap, rfl, hc, hcp, hm⟩ := hv.cells (by omega)
  obtain rfl : b = b0 := by
    rcases hne with h | h
    · omega
    · simpa [Value.ownBlock] using h
  have c0 := hr.c0
  have HL := hid (leadingNum_any _ n x w hv)
  have HP := hid (pass_some R b off n cap (lnK x n) (by omega) hkn hcp hm w hr)
  have HR := hid (RB.cut hr hv hb (lnK x n) hkn)
  clear hr hv hc hne
  generalize lnV x n = V at *
  generalize lnK x n = K at *
  go_enter Try.func17, Try.ntmps17
  go_wp2_with (first | (go_at_call 35; refine HL.out.mono ?_; rintro e w' ⟨rfl, hw⟩; have hw2 := hw.symm; subst hw2) | (go_at_call 36; refine HP.out.mono ?_; rintro e w' ⟨rfl, rfl⟩))
  go_ret
  exact ⟨rfl, HR.out, Chg.set _ _ _ (by simp)⟩
set_option maxHeartbeats 400000 in
theorem rnum_no (R b0 n : Nat) (x : Nat → Nat) (w : World) (h : RB w R b0 n x) (hk : lnK x n = 0) :
    Calls Try.prog 17 #[.pointer (some ⟨R, 0, none⟩)] w fun e w' => e = .panicked (ended R) ∧ RF w' R 30 ∧ Chg [R] w w' := by
  obtain ⟨v, hr, hv, hne⟩ := h
  have c0 := hr.c0
  have HL := hid (leadingNum_any _ n x w hv)
  rw [hk] at HL
  have HP := hid (pass_zero R v w hr)
  have HR := hid ((hr.s1 30).s0 (.slice none 0 0))
  clear hr hv hne hk
  unfold ended
  generalize lnV x n = V at *
  go_enter Try.func17, Try.ntmps17
  go_wp2_with (first | (go_at_call 35; refine HL.out.mono ?_; rintro e w' ⟨rfl, hw⟩; have hw2 := hw.symm; subst hw2) | (go_at_call 36; refine HP.out.mono ?_; rintro e w' ⟨rfl, rfl⟩))
  exact ⟨rfl, rfl, HR.out, (Chg.set _ _ _ (by simp)).trans (Chg.set _ _ _ (by simp))⟩
set_option maxHeartbeats 400000 in
theorem rkey_ok (R b0 n : Nat) (x : Nat → Nat) (w : World) (h : RB w R b0 n x) (hb : b0 ≠ R) (hk : lkK x n ≠ 0) :
    Calls Try.prog 18 #[.pointer (some ⟨R, 0, none⟩)] w fun e w' => e = .returned (.float .f64 (lkV x n)) ∧ RB w' R b0 (n - lkK x n) (sh (lkK x n) x) ∧ Chg [R] w w' := by
  obtain ⟨v, hr, hv, hne⟩ := h
  have hkn : lkK x n ≤ n := lkK_le x n
  obtain ⟨b, off, cap, rfl, hc, hcp, hm⟩ := hv.cells (by omega)
  obtain rfl : b = b0 := by
    rcases hne with h | h
    · omega
    · simpa [Value.ownBlock] using h
  have c0 := hr.c0
  have HL := hid (leadingKey_any _ n x w hv)
  have HP := hid (pass_some R b off n cap (lkK x n) (by omega) hkn hcp hm w hr)
  have HR := hid (RB.cut hr hv hb (lkK x n) hkn)
  clear hr hv hc hne
  generalize lkV x n = V at *
  generalize lkK x n = K at *
  go_enter Try.func18, Try.ntmps18
  go_wp2_with (first | (go_at_call 37; refine HL.out.mono ?_; rintro e w' ⟨rfl, hw⟩; have hw2 := hw.symm; subst hw2) | (go_at_call 36; refine HP.out.mono ?_; rintro e w' ⟨rfl, rfl⟩))
  go_ret
  exact ⟨rfl, HR.out, Chg.set _ _ _ (by simp)⟩
set_option maxHeartbeats 400000 in
theorem rkey_no (R b0 n : Nat) (x : Nat → Nat) (w : World) (h : RB w R b0 n x) (hk : lkK x n = 0) :
    Calls Try.prog 18 #[.pointer (some ⟨R, 0, none⟩)] w fun e w' => e = .panicked (ended R) ∧ RF w' R 30 ∧ Chg [R] w w' := by
  obtain ⟨v, hr, hv, hne⟩ := h
  have c0 := hr.c0
  have HL := hid (leadingKey_any _ n x w hv)
  rw [hk] at HL
  have HP := hid (pass_zero R v w hr)
  have HR := hid ((hr.s1 30).s0 (.slice none 0 0))
  clear hr hv hne hk
  unfold ended
  generalize lkV x n = V at *
  go_enter Try.func18, Try.ntmps18
  go_wp2_with (first | (go_at_call 37; refine HL.out.mono ?_; rintro e w' ⟨rfl, hw⟩; have hw2 := hw.symm; subst hw2) | (go_at_call 36; refine HP.out.mono ?_; rintro e w' ⟨rfl, rfl⟩))
  exact ⟨rfl, rfl, HR.out, (Chg.set _ _ _ (by simp)).trans (Chg.set _ _ _ (by simp))⟩
set_option maxHeartbeats 400000 in
theorem rflag_ok (R b0 n : Nat) (x : Nat → Nat) (w : World) (h : RB w R b0 n x) (hb : b0 ≠ R) (hk : lfK x n ≠ 0) :
    Calls Try.prog 20 #[.pointer (some ⟨R, 0, none⟩)] w fun e w' => e = .returned (.bool (lfV x n)) ∧ RB w' R b0 (n - lfK x n) (sh (lfK x n) x) ∧ Chg [R] w w' := by
  obtain ⟨v, hr, hv, hne⟩ := h
  have hkn : lfK x n ≤ n := lfK_le x n
  obtain ⟨b, off, cap, rfl, hc, hcp, hm⟩ := hv.cells (by omega)
  obtain rfl : b = b0 := by
    rcases hne with h | h
    · omega
    · simpa [Value.ownBlock] using h
  have c0 := hr.c0
  have HL := hid (leadingFlag_any _ n x w hv)
  have HP := hid (pass_some R b off n cap (lfK x n) (by omega) hkn hcp hm w hr)
  have HR := hid (RB.cut hr hv hb (lfK x n) hkn)
  clear hr hv hc hne
  generalize lfV x n = V at *
  generalize lfK x n = K at *
  go_enter Try.func20, Try.ntmps20
  go_wp2_with (first | (go_at_call 40; refine HL.out.mono ?_; rintro e w' ⟨rfl, hw⟩; have hw2 := hw.symm; subst hw2) | (go_at_call 36; refine HP.out.mono ?_; rintro e w' ⟨rfl, rfl⟩))
  go_ret
  exact ⟨rfl, HR.out, Chg.set _ _ _ (by simp)⟩
set_option maxHeartbeats 400000 in
theorem rflag_no (R b0 n : Nat) (x : Nat → Nat) (w : World) (h : RB w R b0 n x) (hk : lfK x n = 0) :
    Calls Try.prog 20 #[.pointer (some ⟨R, 0, none⟩)] w fun e w' => e = .panicked (ended R) ∧ RF w' R 30 ∧ Chg [R] w w' := by
  obtain ⟨v, hr, hv, hne⟩ := h
  have c0 := hr.c0
  have HL := hid (leadingFlag_any _ n x w hv)
  rw [hk] at HL
  have HP := hid (pass_zero R v w hr)
  have HR := hid ((hr.s1 30).s0 (.slice none 0 0))
  clear hr hv hne hk
  unfold ended
  generalize lfV x n = V at *
  go_enter Try.func20, Try.ntmps20
  go_wp2_with (first | (go_at_call 40; refine HL.out.mono ?_; rintro e w' ⟨rfl, hw⟩; have hw2 := hw.symm; subst hw2) | (go_at_call 36; refine HP.out.mono ?_; rintro e w' ⟨rfl, rfl⟩))
  exact ⟨rfl, rfl, HR.out, (Chg.set _ _ _ (by simp)).trans (Chg.set _ _ _ (by simp))⟩
set_option maxHeartbeats 400000 in
theorem rcount_ok (R b0 n : Nat) (x : Nat → Nat) (most : Int) (w : World) (h : RB w R b0 n x) (hb : b0 ≠ R) (hk : lnK x n ≠ 0) (h0 : 0 ≤ lnV x n) (hm : lnV x n ≤ most) (hmx : most ≤ 9223372036854775807) :
    Calls Try.prog 38 #[.pointer (some ⟨R, 0, none⟩), .int .i64 most] w fun e w' => e = .returned (.int .i64 (lnV x n)) ∧ RB w' R b0 (n - lnK x n) (sh (lnK x n) x) ∧ Chg [R] w w' := by
  have HN := hid (rnum_ok R b0 n x w h hb hk)
  clear h hk
  generalize lnV x n = V at *
  go_enter Try.func38, Try.ntmps38
  go_wp2_with (go_at_call 17; refine HN.out.mono ?_; rintro e w1 ⟨rfl, r1, g1⟩; have H1 := hid r1; clear r1)
  go_ret
  exact ⟨rfl, H1.out, g1⟩
theorem rcount_no (R b0 n : Nat) (x : Nat → Nat) (most : Int) (w : World) (h : RB w R b0 n x) (hb : b0 ≠ R) (hk : lnK x n = 0 ∨ lnV x n < 0 ∨ most < lnV x n) :
    Calls Try.prog 38 #[.pointer (some ⟨R, 0, none⟩), .int .i64 most] w fun e w' => e = .panicked (ended R) ∧ RF w' R 30 ∧ Chg [R] w w' := by
  obtain ⟨v, hr, hv, hne⟩ := h
  refine (count_no R n x most w ⟨v, hr, hv, hne.imp id (fun e => by rw [e]; intro q; cases q; exact hb rfl)⟩ hk).mono ?_
  rintro e w' ⟨rfl, h1, h2⟩
  exact ⟨rfl, h1, Chg.of_by h2 _ (by simp)⟩
/-- How many bytes a value of bytes has. -/
def lbK (x : Nat → Nat) (n : Nat) : Nat := if lnK x n ≠ 0 ∧ 0 ≤ lnV x n ∧ lnV x n ≤ 4096 ∧ (lnV x n).toNat ≤ n - lnK x n then lnK x n + (lnV x n).toNat else 0
theorem lbK_le (x : Nat → Nat) (n : Nat) : lbK x n ≤ n := by
  unfold lbK; have := ln_le x n 11 0; unfold lnK; split <;> omega
theorem sh_sh (a b : Nat) (x : Nat → Nat) : sh b (sh a x) = sh (a + b) x := by funext i; simp [sh, Nat.add_assoc]
set_option maxHeartbeats 1000000 in
theorem rbytes_ok (R b0 n : Nat) (x : Nat → Nat) (m : Nat) (w : World) (h : RB w R b0 n x) (hb : b0 ≠ R) (hbl : b0 < w.heap.size) (hk : lnK x n ≠ 0) (hV : lnV x n = (m : Int)) (hm : m ≤ 4096) (hmn : m ≤ n - lnK x n) :
    Calls Try.prog 19 #[.pointer (some ⟨R, 0, none⟩)] w fun e w' => ∃ v', e = .returned v' ∧ OwnB w.heap.size w' v' m (sh (lnK x n) x) ∧ RB w' R b0 (n - lnK x n - m) (sh (lnK x n + m) x) ∧ Chg [R] w w' := by
  have hRl := h.lt
  have HN := hid (rcount_ok R b0 n x 4096 w h hb hk (by omega) (by omega) (by omega))
  rw [hV] at HN
  rw [← sh_sh]
  clear h hk hV
  generalize sh (lnK x n) x = y at *
  generalize n - lnK x n = n' at *
  go_enter Try.func19, Try.ntmps19
  go_wp2_with (fail)
  refine HN.out.mono ?_
  rintro e w1 ⟨rfl, r1, g1⟩
  obtain ⟨v, hr, hv, hne⟩ := r1
  have hs1 := g1.size
  by_cases hz : 0 < n'
  · obtain ⟨b, off, cap, rfl, hc, hcp, hmx⟩ := hv.cells hz
    obtain rfl : b = b0 := by
      rcases hne with h | h
      · omega
      · simpa [Value.ownBlock] using h
    have hv2 : ByRow w1 (.slice (some ⟨b, off, none⟩) m cap) m y := by
      by_cases h0 : m = 0
      · subst h0; exact .inl ⟨rfl, _, _, rfl, fun h => by cases h⟩
      · exact .inr ⟨by omega, by have := hv.max; omega, b, off, cap, rfl, fun i hi => hc i (by omega), by omega, hmx⟩
    have HCl := hid (clone_any _ m y w1 hv2 (by omega))
    have HR := hid hr
    have HV := hid hv
    have c0 := hr.c0
    unfold maxLen at hmx
    clear hr hv hc hv2 HN hne
    by_cases hcc : cap = m
    · subst hcc
      obtain rfl : n' = cap := by omega
      go_wp2_with (go_at_call 39; refine HCl.out.mono ?_; rintro e w2 ⟨v', rfl, o2, u2⟩; have hr2 : Rd w2 R _ 0 true := (u2.block R (lt_of_block HR.out)).trans HR.out; have c2 := hr2.c0; have f2 := hr2.fr 0; have HR2 := hid hr2; have HO2 := hid o2; clear hr2 o2)
      go_ret
      refine ⟨v', rfl, ?_, ?_, ?_⟩
      · refine (HO2.out.mono hs1).grown (row := some R) ⟨rfl, rfl, rfl, by simp, fun k _ hk => Below.heap_setCell _ _ _ k (fun e => hk (by rw [e]))⟩ ?_
        right; intro e; have := (World.ownsRow.lt HO2.out.own R e).1; omega
      · have := RB.cut HR2.out (HV.out.up u2) hb n' (Nat.le_refl _)
        simpa [cutv] using this
      · exact (g1.trans ⟨u2.os, u2.tape, u2.output, u2.size, fun k hk _ => u2.block k hk⟩).trans (Chg.set _ _ _ (by simp))
    · go_wp2_with (go_at_call 39; refine HCl.out.mono ?_; rintro e w2 ⟨v', rfl, o2, u2⟩; have hr2 : Rd w2 R _ 0 true := (u2.block R (lt_of_block HR.out)).trans HR.out; have c2 := hr2.c0; have f2 := hr2.fr 0; have HR2 := hid hr2; have HO2 := hid o2; clear hr2 o2)
      go_ret
      refine ⟨v', rfl, ?_, ?_, ?_⟩
      · refine (HO2.out.mono hs1).grown (row := some R) ⟨rfl, rfl, rfl, by simp, fun k _ hk => Below.heap_setCell _ _ _ k (fun e => hk (by rw [e]))⟩ ?_
        right; intro e; have := (World.ownsRow.lt HO2.out.own R e).1; omega
      · have := RB.cut HR2.out (HV.out.up u2) hb m hmn
        simpa [cutv, hcc] using this
      · exact (g1.trans ⟨u2.os, u2.tape, u2.output, u2.size, fun k hk _ => u2.block k hk⟩).trans (Chg.set _ _ _ (by simp))
  · obtain rfl : n' = 0 := by omega
    obtain rfl : m = 0 := by omega
    rcases hv with ⟨_, a, c, rfl, ha⟩ | ⟨h, _⟩
    · have hv2 : ByRow w1 (.slice a 0 c) 0 y := .inl ⟨rfl, a, c, rfl, ha⟩
      have HCl := hid (clone_any _ 0 y w1 hv2 (by omega))
      have HR := hid hr
      have c0 := hr.c0
      have HA := hid ha
      clear hr hv2 HN hne ha
      cases a with
      | none =>
        obtain rfl := HA.out rfl
        go_wp2_with (go_at_call 39; refine HCl.out.mono ?_; rintro e w2 ⟨v', rfl, o2, u2⟩; have hr2 : Rd w2 R _ 0 true := (u2.block R (lt_of_block HR.out)).trans HR.out; have c2 := hr2.c0; have f2 := hr2.fr 0; have HR2 := hid hr2; have HO2 := hid o2; clear hr2 o2)
        go_ret
        refine ⟨v', rfl, ?_, ?_, ?_⟩
        · refine (HO2.out.mono hs1).grown (row := some R) ⟨rfl, rfl, rfl, by simp, fun k _ hk => Below.heap_setCell _ _ _ k (fun e => hk (by rw [e]))⟩ ?_
          right; intro e; have := (World.ownsRow.lt HO2.out.own R e).1; omega
        · exact ⟨_, HR2.out.s0 _, .inl ⟨rfl, _, _, rfl, fun _ => rfl⟩, .inl rfl⟩
        · exact (g1.trans ⟨u2.os, u2.tape, u2.output, u2.size, fun k hk _ => u2.block k hk⟩).trans (Chg.set _ _ _ (by simp))
      | some ad =>
        obtain ⟨ab, ao, asp⟩ := ad
        by_cases hc0 : c = 0
        · subst hc0
          go_wp2_with (go_at_call 39; refine HCl.out.mono ?_; rintro e w2 ⟨v', rfl, o2, u2⟩; have hr2 : Rd w2 R _ 0 true := (u2.block R (lt_of_block HR.out)).trans HR.out; have c2 := hr2.c0; have f2 := hr2.fr 0; have HR2 := hid hr2; have HO2 := hid o2; clear hr2 o2)
          go_ret
          refine ⟨v', rfl, ?_, ?_, ?_⟩
          · refine (HO2.out.mono hs1).grown (row := some R) ⟨rfl, rfl, rfl, by simp, fun k _ hk => Below.heap_setCell _ _ _ k (fun e => hk (by rw [e]))⟩ ?_
            right; intro e; have := (World.ownsRow.lt HO2.out.own R e).1; omega
          · exact ⟨_, HR2.out.s0 _, .inl ⟨rfl, _, _, rfl, fun h => by cases h⟩, .inl rfl⟩
          · exact (g1.trans ⟨u2.os, u2.tape, u2.output, u2.size, fun k hk _ => u2.block k hk⟩).trans (Chg.set _ _ _ (by simp))
        · go_wp2_with (go_at_call 39; refine HCl.out.mono ?_; rintro e w2 ⟨v', rfl, o2, u2⟩; have hr2 : Rd w2 R _ 0 true := (u2.block R (lt_of_block HR.out)).trans HR.out; have c2 := hr2.c0; have f2 := hr2.fr 0; have HR2 := hid hr2; have HO2 := hid o2; clear hr2 o2)
          go_ret
          refine ⟨v', rfl, ?_, ?_, ?_⟩
          · refine (HO2.out.mono hs1).grown (row := some R) ⟨rfl, rfl, rfl, by simp, fun k _ hk => Below.heap_setCell _ _ _ k (fun e => hk (by rw [e]))⟩ ?_
            right; intro e; have := (World.ownsRow.lt HO2.out.own R e).1; omega
          · exact ⟨_, HR2.out.s0 _, .inl ⟨rfl, _, _, rfl, fun h => by cases h⟩, .inl rfl⟩
          · exact (g1.trans ⟨u2.os, u2.tape, u2.output, u2.size, fun k hk _ => u2.block k hk⟩).trans (Chg.set _ _ _ (by simp))
    · omega
set_option maxHeartbeats 1000000 in
theorem rbytes_no (R b0 n : Nat) (x : Nat → Nat) (w : World) (h : RB w R b0 n x) (hb : b0 ≠ R) (hk : lbK x n = 0) :
    Calls Try.prog 19 #[.pointer (some ⟨R, 0, none⟩)] w fun e w' => e = .panicked (ended R) ∧ RF w' R 30 ∧ Chg [R] w w' := by
  by_cases hq : lnK x n = 0 ∨ lnV x n < 0 ∨ 4096 < lnV x n
  · have HN := hid (rcount_no R b0 n x 4096 w h hb hq)
    unfold ended at *
    clear h hk hq
    go_enter Try.func19, Try.ntmps19
    go_wp2_with (go_at_call 38; refine HN.out.mono ?_; rintro e w1 ⟨rfl, r1, g1⟩; have H1 := hid r1; clear r1)
    exact ⟨rfl, rfl, H1.out, g1⟩
  · have h1 : lnK x n ≠ 0 := fun e => hq (.inl e)
    have h2 : 0 ≤ lnV x n := by omega
    have h3 : lnV x n ≤ 4096 := by omega
    have hgt : n - lnK x n < (lnV x n).toNat := by
      unfold lbK at hk
      by_cases hle : (lnV x n).toNat ≤ n - lnK x n
      · rw [if_pos ⟨h1, h2, h3, hle⟩] at hk; omega
      · omega
    have HN := hid (rcount_ok R b0 n x 4096 w h hb h1 h2 h3 (by omega))
    have HF := hid (fun (W : World) (hW : RB W R b0 (n - lnK x n) (sh (lnK x n) x)) => by obtain ⟨v, hr, _⟩ := hW; exact fail_any R v 30 W hr 30 rfl)
    obtain ⟨m, hmV⟩ : ∃ m : Nat, lnV x n = (m : Int) := ⟨(lnV x n).toNat, by omega⟩
    rw [hmV] at HN hgt
    simp only [Int.toNat_natCast] at hgt
    unfold ended
    clear h hk hq h1 h2 h3 hmV
    generalize sh (lnK x n) x = y at *
    generalize n - lnK x n = n' at *
    go_enter Try.func19, Try.ntmps19
    go_wp2_with (first | (go_at_call 38; refine HN.out.mono ?_; rintro e w1 ⟨rfl, r1, g1⟩; have H1 := hid r1; have hsl : ∃ a c, Rd w1 R (.slice a n' c) 0 true := (by obtain ⟨v, hr, hv, _⟩ := r1; obtain ⟨a, c, rfl⟩ := hv.slice; exact ⟨a, c, hr⟩); clear r1; obtain ⟨a1, c1, hr1⟩ := hsl; have c0 := hr1.c0; clear hr1) | (go_at_call 21; refine (HF.out _ H1.out).mono ?_; rintro e w' ⟨rfl, rfl⟩))
    exact ⟨rfl, rfl, H1.out.fail 30, g1.trans ((Chg.set _ _ _ (by simp)).trans (Chg.set _ _ _ (by simp)))⟩
end Go.Proofs.Ytpofccnifecpfaa
