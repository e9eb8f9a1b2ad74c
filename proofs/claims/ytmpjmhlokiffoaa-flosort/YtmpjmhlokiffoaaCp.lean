/- What codes, comparisons and infinities return at every input: IsCode, Of, uncoded, From, Compare, Cmp, Inf, IsInf; no condition. -/
import Derived.Test.YtmpjmhlokiffoaaCo
namespace Go.Proofs.Ytmpjmhlokiffoaa
open Go.RowKit
theorem un_neg (k : FloatKind) (b : Nat) : Op.unary .neg (.float k b) = pure (.float k (Op.negFloat k b)) := rfl
attribute [local go_sem] run_bits run_frombits un_neg

set_option maxHeartbeats 400000 in
theorem of_any (u : Nat) (hu : Fl.W u) (w : World) :
    Calls Try.prog 14 #[.int .u64 (u : Int)] w fun e w' => e = .returned (.float .f64 (Fl.of u)) ∧ w' = w := by
  have hu' : u < 18446744073709551616 := hu
  by_cases h0 : u = 0
  · subst h0
    clear hu hu'
    go_enter Try.func14, Try.ntmps14
    go_wp2
    go_ret
    exact ⟨rfl, rfl⟩
  have t0 : ((u : Int) == 0) = false := beq_eq_false_iff_ne.2 (by omega)
  by_cases h1 : 9223372036854775808 ≤ u
  · have t1 : decide ((9223372036854775808 : Int) ≤ (u : Int)) = true := by simp; omega
    have g := hid (show u < 18446744073709551616 ∧ 9223372036854775808 ≤ u from ⟨hu', h1⟩)
    clear hu hu' h0 h1
    go_enter Try.func14, Try.ntmps14
    go_wp2
    go_ret
    have g' := g.out
    refine ⟨ret_f ?_, rfl⟩
    unfold Fl.of Fl.S; rw [if_neg (by omega), if_pos g'.2, IntKind.wrap_u64]; omega
  · have t1 : decide ((9223372036854775808 : Int) ≤ (u : Int)) = false := by simp; omega
    have g := hid (show u < 9223372036854775808 ∧ u ≠ 0 by omega)
    clear hu hu' h0 h1
    go_enter Try.func14, Try.ntmps14
    go_wp2
    go_ret
    have g' := g.out
    refine ⟨ret_f ?_, rfl⟩
    unfold Fl.of Fl.S; rw [if_neg (by omega), if_neg (by omega), IntKind.wrap_u64]; omega

set_option maxHeartbeats 400000 in
theorem compare_any (a b : Nat) (ha : Fl.W a) (hb : Fl.W b) (w : World) :
    Calls Try.prog 20 #[.float .f64 a, .float .f64 b] w fun e w' => e = .returned (.int .i64 (Fl.cmpc a b)) ∧ w' = w := by
  rcases Fl.cmp_cases a b ha hb with ⟨na, nb, e⟩ | ⟨na, nb, e⟩ | ⟨na, nb, e⟩ | ⟨na, nb, o, e⟩ | ⟨na, nb, o, e⟩ | ⟨na, nb, o, e⟩
  · have o1 := Fl.ord_nan_l a a na
    have o2 := Fl.ord_nan_l b b nb
    rw [e]; clear e na nb ha hb
    go_enter Try.func20, Try.ntmps20
    go_wp2
    go_ret
    exact ⟨rfl, rfl⟩
  · have o1 := Fl.ord_nan_l a a na
    have o2 := Fl.ord_self b hb nb
    rw [e]; clear e na nb ha hb
    go_enter Try.func20, Try.ntmps20
    go_wp2
    go_ret
    exact ⟨rfl, rfl⟩
  · have o1 := Fl.ord_self a ha na
    have o2 := Fl.ord_nan_l b b nb
    rw [e]; clear e na nb ha hb
    go_enter Try.func20, Try.ntmps20
    go_wp2
    go_ret
    exact ⟨rfl, rfl⟩
  · have o1 := Fl.ord_self a ha na
    have o2 := Fl.ord_self b hb nb
    rw [e]; clear e na nb ha hb
    go_enter Try.func20, Try.ntmps20
    go_wp2
    go_ret
    exact ⟨rfl, rfl⟩
  · have o1 := Fl.ord_self a ha na
    have o2 := Fl.ord_self b hb nb
    rw [e]; clear e na nb ha hb
    go_enter Try.func20, Try.ntmps20
    go_wp2
    go_ret
    exact ⟨rfl, rfl⟩
  · have o1 := Fl.ord_self a ha na
    have o2 := Fl.ord_self b hb nb
    rw [e]; clear e na nb ha hb
    go_enter Try.func20, Try.ntmps20
    go_wp2
    go_ret
    exact ⟨rfl, rfl⟩

set_option maxHeartbeats 400000 in
theorem cmp_any (a b : Nat) (ha : Fl.W a) (hb : Fl.W b) (w : World) :
    Calls Try.prog 9 #[.float .f64 a, .float .f64 b] w fun e w' => e = .returned (.int .i64 (Fl.cmpc a b)) ∧ w' = w := by
  go_enter Try.func9, Try.ntmps9
  go_wp2_with (go_at_call 20; refine (compare_any _ _ ‹Fl.W a› ‹Fl.W b› _).mono ?_; rintro e w' ⟨rfl, rfl⟩)
  go_ret
  exact ⟨rfl, rfl⟩

set_option maxHeartbeats 400000 in
theorem refCmp_any (a b : Nat) (ha : Fl.W a) (hb : Fl.W b) (w : World) :
    Calls Try.prog 13 #[.float .f64 a, .float .f64 b] w fun e w' => e = .returned (.int .i64 (Fl.cmpc a b)) ∧ w' = w := by
  rcases Fl.cmpc_cases a b with ⟨e, h⟩ | ⟨e, h⟩ | ⟨e, h⟩
  · skip
    rw [e]; clear e
    go_enter Try.func13, Try.ntmps13
    go_wp2_with (go_at_call 15; refine (refCode_any _ ‹_› _).mono ?_; rintro e w' ⟨rfl, rfl⟩)
    go_ret
    exact ⟨rfl, rfl⟩
  · have h1 : ¬ Fl.code a < Fl.code b := by omega
    have h2 : ¬ Fl.code b < Fl.code a := by omega
    clear h
    rw [e]; clear e
    go_enter Try.func13, Try.ntmps13
    go_wp2_with (go_at_call 15; refine (refCode_any _ ‹_› _).mono ?_; rintro e w' ⟨rfl, rfl⟩)
    go_ret
    exact ⟨rfl, rfl⟩
  · have h1 : ¬ Fl.code a < Fl.code b := by omega
    rw [e]; clear e
    go_enter Try.func13, Try.ntmps13
    go_wp2_with (go_at_call 15; refine (refCode_any _ ‹_› _).mono ?_; rintro e w' ⟨rfl, rfl⟩)
    go_ret
    exact ⟨rfl, rfl⟩


end Go.Proofs.Ytmpjmhlokiffoaa
