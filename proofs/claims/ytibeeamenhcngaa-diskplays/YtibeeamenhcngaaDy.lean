/- The law DiskPower's walk; no condition. -/
import Derived.Test.YtibeeamenhcngaaDx
namespace Go.Proofs.Ytibeeamenhcngaa
open Go.RowKit Go.Lib
set_option linter.unusedVariables false
set_option linter.unusedSimpArgs false
set_option maxRecDepth 20000
theorem and_mask (a : Int) (m : Nat) (hm : m < 9223372036854775808) : ∃ M : Nat, M ≤ m ∧ bits .and .i64 a (m : Int) = (M : Int) := by
  refine ⟨(BitVec.ofInt 64 a &&& BitVec.ofInt 64 (m : Int)).toNat, ?_, ?_⟩
  · rw [BitVec.toNat_and, BitVec.ofInt_natCast, BitVec.toNat_ofNat, Nat.mod_eq_of_lt (by omega)]
    exact Nat.and_le_right
  · have h : (BitVec.ofInt 64 a &&& BitVec.ofInt 64 (m : Int)).toNat ≤ m := by
      rw [BitVec.toNat_and, BitVec.ofInt_natCast, BitVec.toNat_ofNat, Nat.mod_eq_of_lt (by omega)]
      exact Nat.and_le_right
    show IntKind.i64.wrap ((BitVec.ofInt 64 a &&& BitVec.ofInt 64 (m : Int)).toNat : Int) = _
    generalize (BitVec.ofInt 64 a &&& BitVec.ofInt 64 (m : Int)).toNat = r at *
    simp [IntKind.wrap, IntKind.bits, IntKind.signed]
    omega
theorem ByRow.rw {w : World} {v : Value} {n : Nat} {x : Nat → Nat} (h : Pk.ByRow w v n x) : ∃ L : List Nat, L.length = n ∧ Rw w v L := by
  refine ⟨(List.range n).map x, by simp, ?_⟩
  unfold Rw
  have e : ((List.range n).map x).length = n := by simp
  rw [e]
  rcases h with h | ⟨h0, hm, b, off, cap, hv, hc, hcp⟩
  · exact .inl h
  · refine .inr ⟨h0, hm, b, off, cap, hv, fun i hi => ?_, hcp⟩
    have q : gd ((List.range n).map x) i = x i := by simp [gd, hi]
    rw [q]
    exact hc i hi
theorem Rw.take {w : World} {p : Option Addr} {n c : Nat} {L : List Nat} (h : Rw w (.slice p n c) L) (m : Nat) (hm : m ≤ L.length) : Rw w (.slice p m c) (L.take m) := by
  unfold Rw at *
  have e : (L.take m).length = m := by simp; omega
  rw [e]
  rcases h with ⟨h0, a, c', hv, hz⟩ | ⟨h0, hmx, b, off, cap, hv, hc, hcp⟩
  · cases hv
    obtain rfl : m = 0 := by omega
    exact .inl ⟨rfl, _, _, rfl, hz⟩
  · cases hv
    by_cases m0 : m = 0
    · subst m0
      exact .inl ⟨rfl, _, _, rfl, fun e => by cases e⟩
    · refine .inr ⟨by omega, by omega, b, off, _, rfl, fun i hi => ?_, by omega, hcp.2⟩
      have q : gd (L.take m) i = gd L i := by simp [gd, List.getElem?_take, hi]
      rw [q]
      exact hc i (by omega)
def pw (L : List Nat) (f : Int) : PD := ⟨[(sA, ⟨L, []⟩)], false, f⟩
def pwD (L : List Nat) : PD := ⟨[(sA, ⟨L, []⟩)], true, 0⟩
theorem misA : [sA].any misN = false := by kernel_rfl
theorem misB : [sB].any misN = false := by kernel_rfl
theorem onA (L : List Nat) (f : Int) (h : f ≠ 1) : onE (pw L f) [sA] = 0 := by
  have e : (pw L f).stepd.down = false := by simp [pw, PD.stepd, h]
  unfold onE faultC
  rw [e, misA]
  simp [pw, getP]
theorem atA (L : List Nat) (f : Int) : fileAt (pw L f) sA = ⟨L, []⟩ := by simp [fileAt, pw, getP]
theorem over0 (L' L : List Nat) (h : L' = [] ∨ L' = L) : overL L' 0 L = L := by
  rcases h with rfl | rfl <;> simp [overL, splice]
theorem pw_write (L' L : List Nat) (f : Int) (h2 : 2 ≤ f) (hL : L.length ≤ 500) (hl : L' = [] ∨ L' = L) : writeC (pw L' f) sA 0 L = 0 ∧ writeP (pw L' f) sA 0 L = pw L (f - 1) := by
  have c : writeC (pw L' f) sA 0 L = 0 := by
    unfold writeC
    rw [onA L' f (by omega), if_pos rfl, if_neg (by simp [beyB]), if_neg (by omega)]
  refine ⟨c, ?_⟩
  unfold writeP
  rw [if_pos c, atA]
  have e1 : decide (f = 1) = false := decide_eq_false (by omega)
  have e2 : max 0 (f - 1) = f - 1 := by omega
  have e3 : (pw L' f).stepd = ⟨(pw L' f).fs, false, f - 1⟩ := by
    show PD.mk _ (false || decide (f = 1)) (max 0 (f - 1)) = _
    rw [e1, e2]
    rfl
  rw [e3]
  show PD.mk (setP (pw L' f).fs sA ⟨overL L' 0 L, []⟩) false (f - 1) = _
  rw [over0 L' L hl]
  simp [pw, setP]
theorem pw_sync (L : List Nat) : syncC (pw L 1) sA = 50 ∧ syncP (pw L 1) sA = pwD L := by
  have c : syncC (pw L 1) sA = 50 := by
    unfold syncC onE faultC
    simp [pw, PD.stepd]
  refine ⟨c, ?_⟩
  unfold syncP
  rw [if_neg (by rw [c]; decide)]
  simp [pw, pwD, PD.stepd]
theorem pw_createB (L : List Nat) : createC (pwD L) sB = 50 ∧ createP (pwD L) sB = pwD L := by
  have c : createC (pwD L) sB = 50 := by
    unfold createC faultC
    simp [pwD, PD.stepd]
  refine ⟨c, ?_⟩
  unfold createP
  rw [if_neg (by rw [c]; decide)]
  rfl
theorem pw_read (L : List Nat) : readC (pwD L) sA = 50 ∧ readL (pwD L) sA = [] := by
  have c : readC (pwD L) sA = 50 := by
    unfold readC faultC
    simp [pwD]
  refine ⟨c, ?_⟩
  unfold readL
  rw [if_neg (by rw [c]; decide)]
theorem pw_crash (L : List Nat) : crashP (pwD L) [sA] [] = x1 := by
  unfold crashP x1
  have e : filP (pwD L).fs sA = ⟨L, []⟩ := by simp [filP, pwD, getP]
  have q : (crash1 ⟨L, []⟩ []).1 = ⟨[], []⟩ := by simp [crash1, craK]
  show PD.mk (setP (pwD L).fs sA (crash1 (filP (pwD L).fs sA) []).1) false 0 = _
  rw [e, q]
  simp [setP, pwD]
def x1b : PD := ⟨[(sA, ⟨[], []⟩), (sB, ⟨[], []⟩)], false, 0⟩
theorem pw_readA : readC x1 sA = 0 ∧ readL x1 sA = [] := ⟨by kernel_rfl, by kernel_rfl⟩
theorem pw_createB2 : createC x1 sB = 0 ∧ createP x1 sB = x1b := ⟨by kernel_rfl, by kernel_rfl⟩
theorem BRow.none (w : World) : BRow w (.slice none 0 0) [] := ⟨by simp, _, 0, rfl, by simp, by simp, fun i hi => by simp at hi⟩

end Go.Proofs.Ytibeeamenhcngaa
