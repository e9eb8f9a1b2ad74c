/- span.Apart and span.Within at every two spans; the document's meeting; no condition. -/
import Derived.Test.YtnggkncmcbcceaaDq
import Derived.Test.YtnggkncmcbcceaaMt
import Derived.Test.YtnggkncmcbcceaaRg
namespace Go.Proofs.Ytnggkncmcbcceaa
open Go.RowKit
set_option linter.unusedVariables false
attribute [local go_sem] run_bits run_frombits run_store_float eqF
set_option maxHeartbeats 1000000 in
theorem apart_core (a b c d U V : Nat) (p q r s E : Bool) (hE : E = true → U = 0 ∧ V = 0)
    (HM : Hid (∀ w, Calls Try.prog 14 #[.agg #[.float .f64 a, .float .f64 b, .bool p, .bool q], .agg #[.float .f64 c, .float .f64 d, .bool r, .bool s]] w fun e w' => e = .returned (.agg #[.float .f64 U, .float .f64 V, .bool E, .bool E]) ∧ Up w w')) (w : World) :
    Calls Try.prog 20 #[.agg #[.float .f64 a, .float .f64 b, .bool p, .bool q], .agg #[.float .f64 c, .float .f64 d, .bool r, .bool s]] w fun e w' => e = .returned (.bool E) ∧ Up w w' := by
  have o0 : FloatKind.f64.format.order 0 0 = some .eq := by decide +kernel
  cases E
  · clear hE
    go_enter Try.func20, Try.ntmps20
    go_wp2_with (first | (go_at_call 14; refine (HM.out _).mono ?_; rintro e w1 ⟨rfl, hb1⟩) | (go_at_call 38; refine (none_any _).mono ?_; rintro e w2 ⟨rfl, hb2⟩))
    go_ret
    exact ⟨rfl, (by repeat (first | exact Up.refl _ | assumption | refine Up.drew ?_ | refine Up.alloc ?_ _ | refine Up.trans ?_ ‹Up _ _›))⟩
  · obtain ⟨rfl, rfl⟩ := hE rfl
    clear hE
    go_enter Try.func20, Try.ntmps20
    go_wp2_with (first | (go_at_call 14; refine (HM.out _).mono ?_; rintro e w1 ⟨rfl, hb1⟩) | (go_at_call 38; refine (none_any _).mono ?_; rintro e w2 ⟨rfl, hb2⟩))
    go_ret
    exact ⟨rfl, (by repeat (first | exact Up.refl _ | assumption | refine Up.drew ?_ | refine Up.alloc ?_ _ | refine Up.trans ?_ ‹Up _ _›))⟩

set_option maxHeartbeats 1000000 in
theorem within_core (a b c d U V u v : Nat) (p q r s E f q1 q2 : Bool) (h1 : (FloatKind.f64.format.order U u == some .eq) = q1) (h2 : (FloatKind.f64.format.order V v == some .eq) = q2)
    (HM : Hid (∀ w, Calls Try.prog 14 #[.agg #[.float .f64 a, .float .f64 b, .bool p, .bool q], .agg #[.float .f64 c, .float .f64 d, .bool r, .bool s]] w fun e w' => e = .returned (.agg #[.float .f64 U, .float .f64 V, .bool E, .bool E]) ∧ Up w w'))
    (HC : Hid (∀ w, Calls Try.prog 29 #[.agg #[.float .f64 a, .float .f64 b, .bool p, .bool q]] w fun e w' => e = .returned (.agg #[.float .f64 u, .float .f64 v, .bool f, .bool f]) ∧ Up w w')) (w : World) :
    Calls Try.prog 22 #[.agg #[.float .f64 a, .float .f64 b, .bool p, .bool q], .agg #[.float .f64 c, .float .f64 d, .bool r, .bool s]] w fun e w' => e = .returned (.bool (q1 && q2 && (E == f) && (E == f))) ∧ Up w w' := by
  cases q1
  · go_enter Try.func22, Try.ntmps22
    go_wp2
    go_region_held3 (B2 w.heap.size a b p q (w.heap.size + 1) c d r s) (first | assumption | (simp [B2, SpAt]; done) | (apply B2.up; assumption; assumption)) (first | (go_at_call 14; refine (HM.out _).mono ?_; rintro e w1 ⟨rfl, hb1⟩) | (go_at_call 29; refine (HC.out _).mono ?_; rintro e w2 ⟨rfl, hb2⟩))
    all_goals go_wp2
    all_goals go_ret
    all_goals exact ⟨rfl, (by repeat (first | exact Up.refl _ | assumption | refine Up.drew ?_ | refine Up.alloc ?_ _ | refine Up.trans ?_ ‹Up _ _›))⟩
  cases q2
  · go_enter Try.func22, Try.ntmps22
    go_wp2
    go_region_held3 (B2 w.heap.size a b p q (w.heap.size + 1) c d r s) (first | assumption | (simp [B2, SpAt]; done) | (apply B2.up; assumption; assumption)) (first | (go_at_call 14; refine (HM.out _).mono ?_; rintro e w1 ⟨rfl, hb1⟩) | (go_at_call 29; refine (HC.out _).mono ?_; rintro e w2 ⟨rfl, hb2⟩))
    all_goals go_wp2
    all_goals go_ret
    all_goals exact ⟨rfl, (by repeat (first | exact Up.refl _ | assumption | refine Up.drew ?_ | refine Up.alloc ?_ _ | refine Up.trans ?_ ‹Up _ _›))⟩
  cases E <;> cases f
  all_goals
    go_enter Try.func22, Try.ntmps22
    go_wp2
    go_region_held3 (B2 w.heap.size a b p q (w.heap.size + 1) c d r s) (first | assumption | (simp [B2, SpAt]; done) | (apply B2.up; assumption; assumption)) (first | (go_at_call 14; refine (HM.out _).mono ?_; rintro e w1 ⟨rfl, hb1⟩) | (go_at_call 29; refine (HC.out _).mono ?_; rintro e w2 ⟨rfl, hb2⟩))
    all_goals go_wp2
    all_goals go_ret
    all_goals exact ⟨rfl, (by repeat (first | exact Up.refl _ | assumption | refine Up.drew ?_ | refine Up.alloc ?_ _ | refine Up.trans ?_ ‹Up _ _›))⟩

set_option maxHeartbeats 2000000 in
theorem rMeet_any (L1 H1 L2 H2 : Nat) (w1 : Fl.W L1) (w2 : Fl.W H1) (w3 : Fl.W L2) (w4 : Fl.W H2) (w : World) :
    Calls Try.prog 17 #[.agg #[.int .u64 (L1 : Nat), .int .u64 (H1 : Nat)], .agg #[.int .u64 (L2 : Nat), .int .u64 (H2 : Nat)]] w fun e w' => e = .returned (.agg #[.int .u64 (Fl.rmL L1 H1 L2 H2 : Nat), .int .u64 (Fl.rmH L1 H1 L2 H2 : Nat)]) ∧ Up w w' := by
  have HE := hid (fun L H w => rEmpty_any L H w)
  have HN := hid (fun w => rnone_any w)
  unfold Fl.rmL Fl.rmH
  by_cases a1 : L1 < L2
  · by_cases a2 : H2 < H1
    all_goals by_cases a3 : min H1 H2 < max L1 L2
    · rw [if_pos a3, if_pos a3]
      have t3 : decide (H2 < L2) = true := by simp; omega
      clear a3 w1 w2 w3 w4
      go_enter Try.func17, Try.ntmps17
      go_wp2_with (first | (go_at_call 21; refine (HE.out _ _ _).mono ?_; rintro e w5 ⟨rfl, hb5⟩; obtain ⟨hc5, hf5, hz5⟩ := hb5.cells) | (go_at_call 41; refine (HN.out _).mono ?_; rintro e w6 ⟨rfl, hb6⟩; have k6 : RgAt (w.heap.size + 2) 0 0 w6 := RgAt.up hb6 (RgAt.up hb5 (by simp [RgAt, go_sem]))))
      exact bodyPost_ret (v := .agg #[.int .u64 1, .int .u64 0]) (by simp [results, Try.results17, go_sem, *]) rfl ⟨rfl, (by repeat (first | exact Up.refl _ | assumption | refine Up.drew ?_ | refine Up.alloc ?_ _ | refine Up.setCell ?_ ?_ _ | exact Nat.le_refl _ | exact Nat.le_add_right _ _ | (dsimp only; omega) | refine Up.trans ?_ ‹Up _ _›))⟩
    · rw [if_neg a3, if_neg a3]
      rw [show max L1 L2 = L2 by omega, show min H1 H2 = H2 by omega]
      have t3 : decide (H2 < L2) = false := by simp; omega
      clear a3 w1 w2 w3 w4
      go_enter Try.func17, Try.ntmps17
      go_wp2_with (first | (go_at_call 21; refine (HE.out _ _ _).mono ?_; rintro e w5 ⟨rfl, hb5⟩; obtain ⟨hc5, hf5, hz5⟩ := hb5.cells) | (go_at_call 41; refine (HN.out _).mono ?_; rintro e w6 ⟨rfl, hb6⟩; have k6 : RgAt (w.heap.size + 2) 0 0 w6 := RgAt.up hb6 (RgAt.up hb5 (by simp [RgAt, go_sem]))))
      exact bodyPost_ret (v := .agg #[.int .u64 (L2 : Nat), .int .u64 (H2 : Nat)]) (by simp [results, Try.results17, go_sem, *]) rfl ⟨rfl, (by repeat (first | exact Up.refl _ | assumption | refine Up.drew ?_ | refine Up.alloc ?_ _ | refine Up.setCell ?_ ?_ _ | exact Nat.le_refl _ | exact Nat.le_add_right _ _ | (dsimp only; omega) | refine Up.trans ?_ ‹Up _ _›))⟩
    · rw [if_pos a3, if_pos a3]
      have t3 : decide (H1 < L2) = true := by simp; omega
      clear a3 w1 w2 w3 w4
      go_enter Try.func17, Try.ntmps17
      go_wp2_with (first | (go_at_call 21; refine (HE.out _ _ _).mono ?_; rintro e w5 ⟨rfl, hb5⟩; obtain ⟨hc5, hf5, hz5⟩ := hb5.cells) | (go_at_call 41; refine (HN.out _).mono ?_; rintro e w6 ⟨rfl, hb6⟩; have k6 : RgAt (w.heap.size + 2) 0 0 w6 := RgAt.up hb6 (RgAt.up hb5 (by simp [RgAt, go_sem]))))
      exact bodyPost_ret (v := .agg #[.int .u64 1, .int .u64 0]) (by simp [results, Try.results17, go_sem, *]) rfl ⟨rfl, (by repeat (first | exact Up.refl _ | assumption | refine Up.drew ?_ | refine Up.alloc ?_ _ | refine Up.setCell ?_ ?_ _ | exact Nat.le_refl _ | exact Nat.le_add_right _ _ | (dsimp only; omega) | refine Up.trans ?_ ‹Up _ _›))⟩
    · rw [if_neg a3, if_neg a3]
      rw [show max L1 L2 = L2 by omega, show min H1 H2 = H1 by omega]
      have t3 : decide (H1 < L2) = false := by simp; omega
      clear a3 w1 w2 w3 w4
      go_enter Try.func17, Try.ntmps17
      go_wp2_with (first | (go_at_call 21; refine (HE.out _ _ _).mono ?_; rintro e w5 ⟨rfl, hb5⟩; obtain ⟨hc5, hf5, hz5⟩ := hb5.cells) | (go_at_call 41; refine (HN.out _).mono ?_; rintro e w6 ⟨rfl, hb6⟩; have k6 : RgAt (w.heap.size + 2) 0 0 w6 := RgAt.up hb6 (RgAt.up hb5 (by simp [RgAt, go_sem]))))
      exact bodyPost_ret (v := .agg #[.int .u64 (L2 : Nat), .int .u64 (H1 : Nat)]) (by simp [results, Try.results17, go_sem, *]) rfl ⟨rfl, (by repeat (first | exact Up.refl _ | assumption | refine Up.drew ?_ | refine Up.alloc ?_ _ | refine Up.setCell ?_ ?_ _ | exact Nat.le_refl _ | exact Nat.le_add_right _ _ | (dsimp only; omega) | refine Up.trans ?_ ‹Up _ _›))⟩
  · by_cases a2 : H2 < H1
    all_goals by_cases a3 : min H1 H2 < max L1 L2
    · rw [if_pos a3, if_pos a3]
      have t3 : decide (H2 < L1) = true := by simp; omega
      clear a3 w1 w2 w3 w4
      go_enter Try.func17, Try.ntmps17
      go_wp2_with (first | (go_at_call 21; refine (HE.out _ _ _).mono ?_; rintro e w5 ⟨rfl, hb5⟩; obtain ⟨hc5, hf5, hz5⟩ := hb5.cells) | (go_at_call 41; refine (HN.out _).mono ?_; rintro e w6 ⟨rfl, hb6⟩; have k6 : RgAt (w.heap.size + 2) 0 0 w6 := RgAt.up hb6 (RgAt.up hb5 (by simp [RgAt, go_sem]))))
      exact bodyPost_ret (v := .agg #[.int .u64 1, .int .u64 0]) (by simp [results, Try.results17, go_sem, *]) rfl ⟨rfl, (by repeat (first | exact Up.refl _ | assumption | refine Up.drew ?_ | refine Up.alloc ?_ _ | refine Up.setCell ?_ ?_ _ | exact Nat.le_refl _ | exact Nat.le_add_right _ _ | (dsimp only; omega) | refine Up.trans ?_ ‹Up _ _›))⟩
    · rw [if_neg a3, if_neg a3]
      rw [show max L1 L2 = L1 by omega, show min H1 H2 = H2 by omega]
      have t3 : decide (H2 < L1) = false := by simp; omega
      clear a3 w1 w2 w3 w4
      go_enter Try.func17, Try.ntmps17
      go_wp2_with (first | (go_at_call 21; refine (HE.out _ _ _).mono ?_; rintro e w5 ⟨rfl, hb5⟩; obtain ⟨hc5, hf5, hz5⟩ := hb5.cells) | (go_at_call 41; refine (HN.out _).mono ?_; rintro e w6 ⟨rfl, hb6⟩; have k6 : RgAt (w.heap.size + 2) 0 0 w6 := RgAt.up hb6 (RgAt.up hb5 (by simp [RgAt, go_sem]))))
      exact bodyPost_ret (v := .agg #[.int .u64 (L1 : Nat), .int .u64 (H2 : Nat)]) (by simp [results, Try.results17, go_sem, *]) rfl ⟨rfl, (by repeat (first | exact Up.refl _ | assumption | refine Up.drew ?_ | refine Up.alloc ?_ _ | refine Up.setCell ?_ ?_ _ | exact Nat.le_refl _ | exact Nat.le_add_right _ _ | (dsimp only; omega) | refine Up.trans ?_ ‹Up _ _›))⟩
    · rw [if_pos a3, if_pos a3]
      have t3 : decide (H1 < L1) = true := by simp; omega
      clear a3 w1 w2 w3 w4
      go_enter Try.func17, Try.ntmps17
      go_wp2_with (first | (go_at_call 21; refine (HE.out _ _ _).mono ?_; rintro e w5 ⟨rfl, hb5⟩; obtain ⟨hc5, hf5, hz5⟩ := hb5.cells) | (go_at_call 41; refine (HN.out _).mono ?_; rintro e w6 ⟨rfl, hb6⟩; have k6 : RgAt (w.heap.size + 2) 0 0 w6 := RgAt.up hb6 (RgAt.up hb5 (by simp [RgAt, go_sem]))))
      exact bodyPost_ret (v := .agg #[.int .u64 1, .int .u64 0]) (by simp [results, Try.results17, go_sem, *]) rfl ⟨rfl, (by repeat (first | exact Up.refl _ | assumption | refine Up.drew ?_ | refine Up.alloc ?_ _ | refine Up.setCell ?_ ?_ _ | exact Nat.le_refl _ | exact Nat.le_add_right _ _ | (dsimp only; omega) | refine Up.trans ?_ ‹Up _ _›))⟩
    · rw [if_neg a3, if_neg a3]
      rw [show max L1 L2 = L1 by omega, show min H1 H2 = H1 by omega]
      have t3 : decide (H1 < L1) = false := by simp; omega
      clear a3 w1 w2 w3 w4
      go_enter Try.func17, Try.ntmps17
      go_wp2_with (first | (go_at_call 21; refine (HE.out _ _ _).mono ?_; rintro e w5 ⟨rfl, hb5⟩; obtain ⟨hc5, hf5, hz5⟩ := hb5.cells) | (go_at_call 41; refine (HN.out _).mono ?_; rintro e w6 ⟨rfl, hb6⟩; have k6 : RgAt (w.heap.size + 2) 0 0 w6 := RgAt.up hb6 (RgAt.up hb5 (by simp [RgAt, go_sem]))))
      exact bodyPost_ret (v := .agg #[.int .u64 (L1 : Nat), .int .u64 (H1 : Nat)]) (by simp [results, Try.results17, go_sem, *]) rfl ⟨rfl, (by repeat (first | exact Up.refl _ | assumption | refine Up.drew ?_ | refine Up.alloc ?_ _ | refine Up.setCell ?_ ?_ _ | exact Nat.le_refl _ | exact Nat.le_add_right _ _ | (dsimp only; omega) | refine Up.trans ?_ ‹Up _ _›))⟩

namespace Fl
theorem rl_W {u : Nat} (e : Bool) (h : W u) : W (rl u e) := by unfold rl W; split; omega; exact code_le u h
theorem rh_W {u : Nat} (e : Bool) (h : W u) : W (rh u e) := by unfold rh W; split; omega; exact code_le u h
theorem empty_rng {u v : Nat} {e : Bool} (h : IsForm u v e) : decide (rh v e < rl u e) = e := by
  rcases form_rng h with ⟨rfl, _, _, r1, r2⟩ | ⟨rfl, r1, r2, r3, r4, r5⟩
  · rw [r1, r2]; rfl
  · rw [r1, r2]; simp; omega
theorem fq_ints (u1 v1 u2 v2 : Nat) (e1 e2 : Bool) : fq u1 v1 e1 u2 v2 e2 = (((rl u1 e1 : Int) == (rl u2 e2 : Int)) && ((rh v1 e1 : Int) == (rh v2 e2 : Int))) := by
  unfold fq; rw [Bool.eq_iff_iff]; simp only [decide_eq_true_eq, Bool.and_eq_true, beq_iff_eq]; omega
end Fl
set_option maxHeartbeats 400000 in
theorem rSpan_isForm {u v : Nat} {e : Bool} (h : Fl.IsForm u v e) (w : World) :
    Calls Try.prog 19 #[.agg #[.int .u64 (Fl.rl u e : Nat), .int .u64 (Fl.rh v e : Nat)]] w fun o w' => o = .returned (.agg #[.float .f64 u, .float .f64 v, .bool e, .bool e]) ∧ Up w w' := by
  have n := Fl.form_nan h
  rcases Fl.form_rng h with ⟨rfl, rfl, rfl, r1, r2⟩ | ⟨rfl, r1, r2, r3, r4, r5⟩
  · exact rSpan_none 1 0 (by omega) w
  · have H := rSpan_some (Fl.code u) (Fl.code v) (Fl.code_le u h.1) (Fl.code_le v h.2.1) (by omega) w
    rw [Fl.of_code u h.1, Fl.of_code v h.2.1, n.2.2.1, n.2.2.2] at H
    rw [r1, r2]; exact H
end Go.Proofs.Ytnggkncmcbcceaa
