/- What codes, comparisons and infinities return at every input: IsCode, Of, uncoded, From, Compare, Cmp, Inf, IsInf; no condition. -/
import Derived.Test.YtpofccnifecpfaaCk
namespace Go.Proofs.Ytpofccnifecpfaa
open Go.RowKit
theorem un_neg (k : FloatKind) (b : Nat) : Op.unary .neg (.float k b) = pure (.float k (Op.negFloat k b)) := rfl
attribute [local go_sem] run_bits run_frombits un_neg

set_option maxHeartbeats 400000 in
theorem isCode_any (u : Nat) (hu : Fl.W u) (w : World) :
    Calls Try.prog 50 #[.int .u64 (u : Int)] w fun e w' => e = .returned (.bool (Fl.isCode u)) ∧ w' = w := by
  have hu' : u < 18446744073709551616 := hu
  have e := Fl.isCode_iff u
  by_cases h0 : u = 0
  · subst h0
    clear e hu hu'
    go_enter Try.func50, Try.ntmps50
    go_wp2
    go_ret
    exact ⟨rfl, rfl⟩
  have t0 : ((u : Int) == 0) = false := beq_eq_false_iff_ne.2 (by omega)
  by_cases h1 : 9223372036854775808 ≤ u
  · have t1 : decide ((9223372036854775808 : Int) ≤ (u : Int)) = true := by simp; omega
    have g := hid (show u < 18446744073709551616 ∧ 9223372036854775808 ≤ u from ⟨hu', h1⟩)
    have e' := hid e
    clear hu hu' h0 h1 e
    go_enter Try.func50, Try.ntmps50
    go_wp2
    go_ret
    have g' := g.out
    have e'' := e'.out
    refine ⟨ret_b ?_, rfl⟩
    rw [Bool.eq_iff_iff, e'', decide_eq_true_iff, IntKind.wrap_u64]; omega
  · have t1 : decide ((9223372036854775808 : Int) ≤ (u : Int)) = false := by simp; omega
    have g := hid (show u < 9223372036854775808 ∧ u ≠ 0 by omega)
    have e' := hid e
    have t2 : IntKind.u64.wrap (18446744073709551615 - (u : Int)) = 18446744073709551615 - (u : Int) := by rw [IntKind.wrap_u64]; omega
    by_cases h2 : u < 9223372036854775807
    · have t3 : decide ((9223372036854775808 : Int) < IntKind.u64.wrap (18446744073709551615 - (u : Int))) = true := by rw [t2]; simp; omega
      have t2' := hid t2
      have g2 := hid h2
      clear hu hu' h0 h1 e t2 h2
      go_enter Try.func50, Try.ntmps50
      go_wp2
      go_ret
      have g' := g.out
      have e'' := e'.out
      have g2' := g2.out
      refine ⟨ret_b ?_, rfl⟩
      rw [t2'.out, Bool.eq_iff_iff, e'', decide_eq_true_iff]; omega
    · have t3 : decide ((9223372036854775808 : Int) < IntKind.u64.wrap (18446744073709551615 - (u : Int))) = false := by rw [t2]; simp; omega
      have g2 := hid h2
      clear hu hu' h0 h1 e t2 h2
      go_enter Try.func50, Try.ntmps50
      go_wp2
      go_ret
      have g' := g.out
      have e'' := e'.out
      have g2' := g2.out
      refine ⟨ret_b ?_, rfl⟩
      rw [Bool.eq_iff_iff, e'']; simp; omega

set_option maxHeartbeats 400000 in
theorem rof_any (u : Nat) (hu : Fl.W u) (w : World) :
    Calls Try.prog 51 #[.int .u64 (u : Int)] w fun e w' => e = .returned (.float .f64 (Fl.of u)) ∧ w' = w := by
  have hu' : u < 18446744073709551616 := hu
  by_cases h0 : u = 0
  · subst h0
    clear hu hu'
    go_enter Try.func51, Try.ntmps51
    go_wp2
    go_ret
    exact ⟨rfl, rfl⟩
  have t0 : ((u : Int) == 0) = false := beq_eq_false_iff_ne.2 (by omega)
  by_cases h1 : 9223372036854775808 ≤ u
  · have t1 : decide ((9223372036854775808 : Int) ≤ (u : Int)) = true := by simp; omega
    have g := hid (show u < 18446744073709551616 ∧ 9223372036854775808 ≤ u from ⟨hu', h1⟩)
    clear hu hu' h0 h1
    go_enter Try.func51, Try.ntmps51
    go_wp2
    go_ret
    have g' := g.out
    refine ⟨ret_f ?_, rfl⟩
    unfold Fl.of Fl.S; rw [if_neg (by omega), if_pos g'.2, IntKind.wrap_u64]; omega
  · have t1 : decide ((9223372036854775808 : Int) ≤ (u : Int)) = false := by simp; omega
    have g := hid (show u < 9223372036854775808 ∧ u ≠ 0 by omega)
    clear hu hu' h0 h1
    go_enter Try.func51, Try.ntmps51
    go_wp2
    go_ret
    have g' := g.out
    refine ⟨ret_f ?_, rfl⟩
    unfold Fl.of Fl.S; rw [if_neg (by omega), if_neg (by omega), IntKind.wrap_u64]; omega

set_option maxHeartbeats 400000 in
theorem uncoded_any (u : Nat) (hu : Fl.W u) (w : World) :
    Calls Try.prog 56 #[.int .u64 (u : Int)] w fun e w' => e = .returned (.float .f64 (Fl.of u)) ∧ w' = w := by
  have hu' : u < 18446744073709551616 := hu
  by_cases h0 : u = 0
  · subst h0
    clear hu hu'
    go_enter Try.func56, Try.ntmps56
    go_wp2
    go_ret
    exact ⟨rfl, rfl⟩
  have t0 : ((u : Int) == 0) = false := beq_eq_false_iff_ne.2 (by omega)
  by_cases h1 : 9223372036854775808 ≤ u
  · have t1 : (bits .and .u64 (u : Int) 9223372036854775808 != 0) = true := by rw [and_top_hi u h1 hu']; rfl
    have g := hid (show u < 18446744073709551616 ∧ 9223372036854775808 ≤ u from ⟨hu', h1⟩)
    clear hu hu' h0 h1
    go_enter Try.func56, Try.ntmps56
    go_wp2
    go_ret
    have g' := g.out
    refine ⟨ret_f ?_, rfl⟩
    unfold Fl.of Fl.S; rw [if_neg (by omega), if_pos g'.2, andNot_top u g'.1]; omega
  · have t1 : (bits .and .u64 (u : Int) 9223372036854775808 != 0) = false := by rw [and_top_lo u (by omega)]; rfl
    have g := hid (show u < 9223372036854775808 ∧ u ≠ 0 by omega)
    clear hu hu' h0 h1
    go_enter Try.func56, Try.ntmps56
    go_wp2
    go_ret
    have g' := g.out
    refine ⟨ret_f ?_, rfl⟩
    unfold Fl.of Fl.S; rw [if_neg (by omega), if_neg (by omega), xor_max u (by omega)]; omega

set_option maxHeartbeats 400000 in
theorem from_yes (u : Nat) (hu : Fl.W u) (hc : Fl.isCode u = true) (w : World) :
    Calls Try.prog 48 #[.int .u64 (u : Int)] w fun e w' => e = .returned (.tuple #[.float .f64 (Fl.of u), .bool true]) ∧ w' = w := by
  have t1 : (((Fl.code (Fl.of u) : Nat) : Int) != (u : Int)) = false := by rw [Fl.code_of u hu hc]; simp
  have ho : Fl.W (Fl.of u) := Fl.of_lt u hu
  clear hc
  go_enter Try.func48, Try.ntmps48
  go_wp2_with (first | (go_at_call 56; refine (uncoded_any _ ‹_› _).mono ?_; rintro e w' ⟨rfl, rfl⟩) | (go_at_call 55; refine (code_any _ ‹_› _).mono ?_; rintro e w' ⟨rfl, rfl⟩))
  go_ret2
  exact ⟨rfl, rfl⟩

set_option maxHeartbeats 400000 in
theorem from_no (u : Nat) (hu : Fl.W u) (hc : Fl.isCode u = false) (w : World) :
    Calls Try.prog 48 #[.int .u64 (u : Int)] w fun e w' => e = .returned (.tuple #[.float .f64 0, .bool false]) ∧ w' = w := by
  have t1 : (((Fl.code (Fl.of u) : Nat) : Int) != (u : Int)) = true := by have := Fl.code_of_not u hu hc; rw [bne_iff_ne]; omega
  have ho : Fl.W (Fl.of u) := Fl.of_lt u hu
  clear hc
  go_enter Try.func48, Try.ntmps48
  go_wp2_with (first | (go_at_call 56; refine (uncoded_any _ ‹_› _).mono ?_; rintro e w' ⟨rfl, rfl⟩) | (go_at_call 55; refine (code_any _ ‹_› _).mono ?_; rintro e w' ⟨rfl, rfl⟩))
  go_ret2
  exact ⟨rfl, rfl⟩


end Go.Proofs.Ytpofccnifecpfaa
