/- What codes, comparisons and infinities return at every input: IsCode, Of, uncoded, From, Compare, Cmp, Inf, IsInf; no condition. -/
import Derived.Test.YtbkbnfgjkefcmaaGreatCo
namespace Go.Proofs.YtbkbnfgjkefcmaaGreat
open Go.RowKit
theorem un_neg (k : FloatKind) (b : Nat) : Op.unary .neg (.float k b) = pure (.float k (Op.negFloat k b)) := rfl
attribute [local go_sem] run_bits run_frombits un_neg

set_option maxHeartbeats 400000 in
set_option maxRecDepth 20000 in
theorem isCode_any (u : Nat) (hu : Fl.W u) (w : World) :
    Calls Tryz.prog 66 #[.int .u64 (u : Int)] w fun e w' => e = .returned (.bool (Fl.isCode u)) ∧ w' = w := by
  have hu' : u < 18446744073709551616 := hu
  have e := Fl.isCode_iff u
  by_cases h0 : u = 0
  · subst h0
    clear e hu hu'
    go_enter Tryz.func66, Tryz.ntmps66
    go_wp2
    go_ret
    exact ⟨rfl, rfl⟩
  have t0 : ((u : Int) == 0) = false := beq_eq_false_iff_ne.2 (by omega)
  by_cases h1 : 9223372036854775808 ≤ u
  · have t1 : decide ((9223372036854775808 : Int) ≤ (u : Int)) = true := by simp; omega
    have g := hid (show u < 18446744073709551616 ∧ 9223372036854775808 ≤ u from ⟨hu', h1⟩)
    have e' := hid e
    clear hu hu' h0 h1 e
    go_enter Tryz.func66, Tryz.ntmps66
    go_wp2
    go_ret
    have g' := g.out
    have e'' := e'.out
    refine ⟨ret_b ?_, rfl⟩
    rw [Bool.eq_iff_iff, e'', decide_eq_true_iff, IntKind.wrap_u64]; omega
  · have t1 : decide ((9223372036854775808 : Int) ≤ (u : Int)) = false := by simp; omega
    have g := hid (show u < 9223372036854775808 ∧ u ≠ 0 by omega)
    have e' := hid e
    have t2 : IntKind.u64.wrap (18446744073709551615 - (u : Int)) = 18446744073709551615 - (u : Int) := by rw [IntKind.wrap_u64]; omega
    by_cases h2 : u < 9223372036854775807
    · have t3 : decide ((9223372036854775808 : Int) < IntKind.u64.wrap (18446744073709551615 - (u : Int))) = true := by rw [t2]; simp; omega
      have t2' := hid t2
      have g2 := hid h2
      clear hu hu' h0 h1 e t2 h2
      go_enter Tryz.func66, Tryz.ntmps66
      go_wp2
      go_ret
      have g' := g.out
      have e'' := e'.out
      have g2' := g2.out
      refine ⟨ret_b ?_, rfl⟩
      rw [t2'.out, Bool.eq_iff_iff, e'', decide_eq_true_iff]; omega
    · have t3 : decide ((9223372036854775808 : Int) < IntKind.u64.wrap (18446744073709551615 - (u : Int))) = false := by rw [t2]; simp; omega
      have g2 := hid h2
      clear hu hu' h0 h1 e t2 h2
      go_enter Tryz.func66, Tryz.ntmps66
      go_wp2
      go_ret
      have g' := g.out
      have e'' := e'.out
      have g2' := g2.out
      refine ⟨ret_b ?_, rfl⟩
      rw [Bool.eq_iff_iff, e'']; simp; omega

set_option maxHeartbeats 400000 in
set_option maxRecDepth 20000 in
theorem of_any (u : Nat) (hu : Fl.W u) (w : World) :
    Calls Tryz.prog 69 #[.int .u64 (u : Int)] w fun e w' => e = .returned (.float .f64 (Fl.of u)) ∧ w' = w := by
  have hu' : u < 18446744073709551616 := hu
  by_cases h0 : u = 0
  · subst h0
    clear hu hu'
    go_enter Tryz.func69, Tryz.ntmps69
    go_wp2
    go_ret
    exact ⟨rfl, rfl⟩
  have t0 : ((u : Int) == 0) = false := beq_eq_false_iff_ne.2 (by omega)
  by_cases h1 : 9223372036854775808 ≤ u
  · have t1 : decide ((9223372036854775808 : Int) ≤ (u : Int)) = true := by simp; omega
    have g := hid (show u < 18446744073709551616 ∧ 9223372036854775808 ≤ u from ⟨hu', h1⟩)
    clear hu hu' h0 h1
    go_enter Tryz.func69, Tryz.ntmps69
    go_wp2
    go_ret
    have g' := g.out
    refine ⟨ret_f ?_, rfl⟩
    unfold Fl.of Fl.S; rw [if_neg (by omega), if_pos g'.2, IntKind.wrap_u64]; omega
  · have t1 : decide ((9223372036854775808 : Int) ≤ (u : Int)) = false := by simp; omega
    have g := hid (show u < 9223372036854775808 ∧ u ≠ 0 by omega)
    clear hu hu' h0 h1
    go_enter Tryz.func69, Tryz.ntmps69
    go_wp2
    go_ret
    have g' := g.out
    refine ⟨ret_f ?_, rfl⟩
    unfold Fl.of Fl.S; rw [if_neg (by omega), if_neg (by omega), IntKind.wrap_u64]; omega

set_option maxHeartbeats 400000 in
set_option maxRecDepth 20000 in
theorem compare_any (a b : Nat) (ha : Fl.W a) (hb : Fl.W b) (w : World) :
    Calls Tryz.prog 110 #[.float .f64 a, .float .f64 b] w fun e w' => e = .returned (.int .i64 (Fl.cmpc a b)) ∧ w' = w := by
  rcases Fl.cmp_cases a b ha hb with ⟨na, nb, e⟩ | ⟨na, nb, e⟩ | ⟨na, nb, e⟩ | ⟨na, nb, o, e⟩ | ⟨na, nb, o, e⟩ | ⟨na, nb, o, e⟩
  · have o1 := Fl.ord_nan_l a a na
    have o2 := Fl.ord_nan_l b b nb
    rw [e]; clear e na nb ha hb
    go_enter Tryz.func110, Tryz.ntmps110
    go_wp2
    go_ret
    exact ⟨rfl, rfl⟩
  · have o1 := Fl.ord_nan_l a a na
    have o2 := Fl.ord_self b hb nb
    rw [e]; clear e na nb ha hb
    go_enter Tryz.func110, Tryz.ntmps110
    go_wp2
    go_ret
    exact ⟨rfl, rfl⟩
  · have o1 := Fl.ord_self a ha na
    have o2 := Fl.ord_nan_l b b nb
    rw [e]; clear e na nb ha hb
    go_enter Tryz.func110, Tryz.ntmps110
    go_wp2
    go_ret
    exact ⟨rfl, rfl⟩
  · have o1 := Fl.ord_self a ha na
    have o2 := Fl.ord_self b hb nb
    rw [e]; clear e na nb ha hb
    go_enter Tryz.func110, Tryz.ntmps110
    go_wp2
    go_ret
    exact ⟨rfl, rfl⟩
  · have o1 := Fl.ord_self a ha na
    have o2 := Fl.ord_self b hb nb
    rw [e]; clear e na nb ha hb
    go_enter Tryz.func110, Tryz.ntmps110
    go_wp2
    go_ret
    exact ⟨rfl, rfl⟩
  · have o1 := Fl.ord_self a ha na
    have o2 := Fl.ord_self b hb nb
    rw [e]; clear e na nb ha hb
    go_enter Tryz.func110, Tryz.ntmps110
    go_wp2
    go_ret
    exact ⟨rfl, rfl⟩

set_option maxHeartbeats 400000 in
set_option maxRecDepth 20000 in
theorem cmp_any (a b : Nat) (ha : Fl.W a) (hb : Fl.W b) (w : World) :
    Calls Tryz.prog 100 #[.float .f64 a, .float .f64 b] w fun e w' => e = .returned (.int .i64 (Fl.cmpc a b)) ∧ w' = w := by
  go_enter Tryz.func100, Tryz.ntmps100
  go_wp2_with (go_at_call 110; refine (compare_any _ _ ‹Fl.W a› ‹Fl.W b› _).mono ?_; rintro e w' ⟨rfl, rfl⟩)
  go_ret
  exact ⟨rfl, rfl⟩

set_option maxHeartbeats 400000 in
set_option maxRecDepth 20000 in
theorem refCmp_any (a b : Nat) (ha : Fl.W a) (hb : Fl.W b) (w : World) :
    Calls Tryz.prog 68 #[.float .f64 a, .float .f64 b] w fun e w' => e = .returned (.int .i64 (Fl.cmpc a b)) ∧ w' = w := by
  rcases Fl.cmpc_cases a b with ⟨e, h⟩ | ⟨e, h⟩ | ⟨e, h⟩
  · skip
    rw [e]; clear e
    go_enter Tryz.func68, Tryz.ntmps68
    go_wp2_with (go_at_call 65; refine (refCode_any _ ‹_› _).mono ?_; rintro e w' ⟨rfl, rfl⟩)
    go_ret
    exact ⟨rfl, rfl⟩
  · have h1 : ¬ Fl.code a < Fl.code b := by omega
    have h2 : ¬ Fl.code b < Fl.code a := by omega
    clear h
    rw [e]; clear e
    go_enter Tryz.func68, Tryz.ntmps68
    go_wp2_with (go_at_call 65; refine (refCode_any _ ‹_› _).mono ?_; rintro e w' ⟨rfl, rfl⟩)
    go_ret
    exact ⟨rfl, rfl⟩
  · have h1 : ¬ Fl.code a < Fl.code b := by omega
    rw [e]; clear e
    go_enter Tryz.func68, Tryz.ntmps68
    go_wp2_with (go_at_call 65; refine (refCode_any _ ‹_› _).mono ?_; rintro e w' ⟨rfl, rfl⟩)
    go_ret
    exact ⟨rfl, rfl⟩

set_option maxHeartbeats 400000 in
set_option maxRecDepth 20000 in
theorem inf_pos  (w : World) :
    Calls Tryz.prog 111 #[.int .i64 1] w fun e w' => e = .returned (.float .f64 9218868437227405312) ∧ w' = w := by
  go_enter Tryz.func111, Tryz.ntmps111
  go_wp2
  go_ret
  exact ⟨rfl, rfl⟩

set_option maxHeartbeats 400000 in
set_option maxRecDepth 20000 in
theorem inf_neg  (w : World) :
    Calls Tryz.prog 111 #[.int .i64 (-1)] w fun e w' => e = .returned (.float .f64 18442240474082181120) ∧ w' = w := by
  go_enter Tryz.func111, Tryz.ntmps111
  go_wp2
  go_ret
  exact ⟨rfl, rfl⟩

set_option maxHeartbeats 400000 in
set_option maxRecDepth 20000 in
theorem isInf_pos (b : Nat) (hb : Fl.W b) (w : World) :
    Calls Tryz.prog 92 #[.float .f64 b, .int .i64 1] w fun e w' => e = .returned (.bool (decide (b = Fl.INF))) ∧ w' = w := by
  have t := Fl.gt_max b hb
  clear hb
  go_enter Tryz.func92, Tryz.ntmps92
  go_wp2
  go_ret
  exact ⟨rfl, rfl⟩

set_option maxHeartbeats 400000 in
set_option maxRecDepth 20000 in
theorem isInf_neg (b : Nat) (hb : Fl.W b) (w : World) :
    Calls Tryz.prog 92 #[.float .f64 b, .int .i64 (-1)] w fun e w' => e = .returned (.bool (decide (b = Fl.S + Fl.INF))) ∧ w' = w := by
  have t := Fl.neg_gt_max b hb
  clear hb
  go_enter Tryz.func92, Tryz.ntmps92
  go_wp2
  go_ret
  exact ⟨rfl, rfl⟩

end Go.Proofs.YtbkbnfgjkefcmaaGreat
