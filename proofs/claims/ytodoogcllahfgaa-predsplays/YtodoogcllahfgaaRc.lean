/- The document's Cmp of two ranges that are forms; no condition. -/
import Derived.Test.YtodoogcllahfgaaMv
namespace Go.Proofs.Ytodoogcllahfgaa
open Go.RowKit Go.Lib
set_option linter.unusedVariables false
set_option linter.unusedSimpArgs false
set_option maxRecDepth 20000
attribute [local go_sem] run_bits run_frombits run_store_float eqF
abbrev D2 (x l1 h1 y l2 h2 : Nat) (w : World) : Prop := RgAt x l1 h1 w ∧ RgAt y l2 h2 w
theorem D2.up {x l1 h1 y l2 h2 : Nat} {W w' : World} (u : Up W w') (h : D2 x l1 h1 y l2 h2 W) : D2 x l1 h1 y l2 h2 w' := ⟨RgAt.up u h.1, RgAt.up u h.2⟩
set_option maxHeartbeats 1000000 in
set_option maxRecDepth 20000 in
theorem rCmp_tt (L1 H1 L2 H2 : Nat) (w1 : Fl.W L1) (w2 : Fl.W H1) (w3 : Fl.W L2) (w4 : Fl.W H2)  (HE1 : Hid (∀ w, Calls Try.prog 25 #[.agg #[.int .u64 (L1 : Nat), .int .u64 (H1 : Nat)]] w fun o w' => o = .returned (.bool true) ∧ Up w w')) (HE2 : Hid (∀ w, Calls Try.prog 25 #[.agg #[.int .u64 (L2 : Nat), .int .u64 (H2 : Nat)]] w fun o w' => o = .returned (.bool true) ∧ Up w w')) (w : World) :
    Calls Try.prog 31 #[.agg #[.int .u64 (L1 : Nat), .int .u64 (H1 : Nat)], .agg #[.int .u64 (L2 : Nat), .int .u64 (H2 : Nat)]] w fun o w' => o = .returned (.int .i64 (0)) ∧ Up w w' := by
  all_goals skip
  all_goals
    go_enter Try.func31, Try.ntmps31
    go_wp2_with (first | (go_at_call_of 25 (Value.int IntKind.u64 (H1 : Nat)); refine (HE1.out _).mono ?_; rintro o w5 ⟨rfl, hb5⟩; have d5 : D2 w.heap.size L1 H1 (w.heap.size + 1) L2 H2 w5 := D2.up hb5 (by first | assumption | (simp [D2, RgAt]; done))) | (go_at_call_of 25 (Value.int IntKind.u64 (H2 : Nat)); refine (HE2.out _).mono ?_; rintro o w6 ⟨rfl, hb6⟩; have d6 : D2 w.heap.size L1 H1 (w.heap.size + 1) L2 H2 w6 := D2.up hb6 (by first | assumption | (simp [D2, RgAt]; done))))
    all_goals go_ret
    all_goals first | exact ⟨rfl, (by repeat (first | exact Up.refl _ | assumption | refine Up.drew ?_ | refine Up.drewN ?_ _ | refine Up.alloc ?_ _ | refine Up.setCell ?_ ?_ _ | exact Nat.le_refl _ | exact Nat.le_add_right _ _ | (dsimp only; omega) | refine Up.trans ?_ ‹Up _ _›))⟩ | (exfalso; (try have k1 := HL.out); (try have k2 := HH.out); omega)
set_option maxHeartbeats 1000000 in
set_option maxRecDepth 20000 in
theorem rCmp_tf (L1 H1 L2 H2 : Nat) (w1 : Fl.W L1) (w2 : Fl.W H1) (w3 : Fl.W L2) (w4 : Fl.W H2)  (HE1 : Hid (∀ w, Calls Try.prog 25 #[.agg #[.int .u64 (L1 : Nat), .int .u64 (H1 : Nat)]] w fun o w' => o = .returned (.bool true) ∧ Up w w')) (HE2 : Hid (∀ w, Calls Try.prog 25 #[.agg #[.int .u64 (L2 : Nat), .int .u64 (H2 : Nat)]] w fun o w' => o = .returned (.bool false) ∧ Up w w')) (w : World) :
    Calls Try.prog 31 #[.agg #[.int .u64 (L1 : Nat), .int .u64 (H1 : Nat)], .agg #[.int .u64 (L2 : Nat), .int .u64 (H2 : Nat)]] w fun o w' => o = .returned (.int .i64 (-1)) ∧ Up w w' := by
  all_goals skip
  all_goals
    go_enter Try.func31, Try.ntmps31
    go_wp2_with (first | (go_at_call_of 25 (Value.int IntKind.u64 (H1 : Nat)); refine (HE1.out _).mono ?_; rintro o w5 ⟨rfl, hb5⟩; have d5 : D2 w.heap.size L1 H1 (w.heap.size + 1) L2 H2 w5 := D2.up hb5 (by first | assumption | (simp [D2, RgAt]; done))) | (go_at_call_of 25 (Value.int IntKind.u64 (H2 : Nat)); refine (HE2.out _).mono ?_; rintro o w6 ⟨rfl, hb6⟩; have d6 : D2 w.heap.size L1 H1 (w.heap.size + 1) L2 H2 w6 := D2.up hb6 (by first | assumption | (simp [D2, RgAt]; done))))
    all_goals go_ret
    all_goals first | exact ⟨rfl, (by repeat (first | exact Up.refl _ | assumption | refine Up.drew ?_ | refine Up.drewN ?_ _ | refine Up.alloc ?_ _ | refine Up.setCell ?_ ?_ _ | exact Nat.le_refl _ | exact Nat.le_add_right _ _ | (dsimp only; omega) | refine Up.trans ?_ ‹Up _ _›))⟩ | (exfalso; (try have k1 := HL.out); (try have k2 := HH.out); omega)
set_option maxHeartbeats 1000000 in
set_option maxRecDepth 20000 in
theorem rCmp_ft (L1 H1 L2 H2 : Nat) (w1 : Fl.W L1) (w2 : Fl.W H1) (w3 : Fl.W L2) (w4 : Fl.W H2)  (HE1 : Hid (∀ w, Calls Try.prog 25 #[.agg #[.int .u64 (L1 : Nat), .int .u64 (H1 : Nat)]] w fun o w' => o = .returned (.bool false) ∧ Up w w')) (HE2 : Hid (∀ w, Calls Try.prog 25 #[.agg #[.int .u64 (L2 : Nat), .int .u64 (H2 : Nat)]] w fun o w' => o = .returned (.bool true) ∧ Up w w')) (w : World) :
    Calls Try.prog 31 #[.agg #[.int .u64 (L1 : Nat), .int .u64 (H1 : Nat)], .agg #[.int .u64 (L2 : Nat), .int .u64 (H2 : Nat)]] w fun o w' => o = .returned (.int .i64 (1)) ∧ Up w w' := by
  all_goals skip
  all_goals
    go_enter Try.func31, Try.ntmps31
    go_wp2_with (first | (go_at_call_of 25 (Value.int IntKind.u64 (H1 : Nat)); refine (HE1.out _).mono ?_; rintro o w5 ⟨rfl, hb5⟩; have d5 : D2 w.heap.size L1 H1 (w.heap.size + 1) L2 H2 w5 := D2.up hb5 (by first | assumption | (simp [D2, RgAt]; done))) | (go_at_call_of 25 (Value.int IntKind.u64 (H2 : Nat)); refine (HE2.out _).mono ?_; rintro o w6 ⟨rfl, hb6⟩; have d6 : D2 w.heap.size L1 H1 (w.heap.size + 1) L2 H2 w6 := D2.up hb6 (by first | assumption | (simp [D2, RgAt]; done))))
    all_goals go_ret
    all_goals first | exact ⟨rfl, (by repeat (first | exact Up.refl _ | assumption | refine Up.drew ?_ | refine Up.drewN ?_ _ | refine Up.alloc ?_ _ | refine Up.setCell ?_ ?_ _ | exact Nat.le_refl _ | exact Nat.le_add_right _ _ | (dsimp only; omega) | refine Up.trans ?_ ‹Up _ _›))⟩ | (exfalso; (try have k1 := HL.out); (try have k2 := HH.out); omega)
set_option maxHeartbeats 1000000 in
set_option maxRecDepth 20000 in
theorem rCmp_c1 (L1 H1 L2 H2 : Nat) (w1 : Fl.W L1) (w2 : Fl.W H1) (w3 : Fl.W L2) (w4 : Fl.W H2) (hl : L1 < L2) (HE1 : Hid (∀ w, Calls Try.prog 25 #[.agg #[.int .u64 (L1 : Nat), .int .u64 (H1 : Nat)]] w fun o w' => o = .returned (.bool false) ∧ Up w w')) (HE2 : Hid (∀ w, Calls Try.prog 25 #[.agg #[.int .u64 (L2 : Nat), .int .u64 (H2 : Nat)]] w fun o w' => o = .returned (.bool false) ∧ Up w w')) (w : World) :
    Calls Try.prog 31 #[.agg #[.int .u64 (L1 : Nat), .int .u64 (H1 : Nat)], .agg #[.int .u64 (L2 : Nat), .int .u64 (H2 : Nat)]] w fun o w' => o = .returned (.int .i64 (-1)) ∧ Up w w' := by
  have t1 : decide ((L1 : Int) < (L2 : Int)) = true := by simp; try omega
  all_goals
    go_enter Try.func31, Try.ntmps31
    go_wp2_with (first | (go_at_call_of 25 (Value.int IntKind.u64 (H1 : Nat)); refine (HE1.out _).mono ?_; rintro o w5 ⟨rfl, hb5⟩; have d5 : D2 w.heap.size L1 H1 (w.heap.size + 1) L2 H2 w5 := D2.up hb5 (by first | assumption | (simp [D2, RgAt]; done))) | (go_at_call_of 25 (Value.int IntKind.u64 (H2 : Nat)); refine (HE2.out _).mono ?_; rintro o w6 ⟨rfl, hb6⟩; have d6 : D2 w.heap.size L1 H1 (w.heap.size + 1) L2 H2 w6 := D2.up hb6 (by first | assumption | (simp [D2, RgAt]; done))))
    all_goals go_ret
    all_goals first | exact ⟨rfl, (by repeat (first | exact Up.refl _ | assumption | refine Up.drew ?_ | refine Up.drewN ?_ _ | refine Up.alloc ?_ _ | refine Up.setCell ?_ ?_ _ | exact Nat.le_refl _ | exact Nat.le_add_right _ _ | (dsimp only; omega) | refine Up.trans ?_ ‹Up _ _›))⟩ | (exfalso; (try have k1 := HL.out); (try have k2 := HH.out); omega)
set_option maxHeartbeats 1000000 in
set_option maxRecDepth 20000 in
theorem rCmp_c2 (L1 H1 L2 H2 : Nat) (w1 : Fl.W L1) (w2 : Fl.W H1) (w3 : Fl.W L2) (w4 : Fl.W H2) (hl : L1 = L2) (hh : H1 < H2) (HE1 : Hid (∀ w, Calls Try.prog 25 #[.agg #[.int .u64 (L1 : Nat), .int .u64 (H1 : Nat)]] w fun o w' => o = .returned (.bool false) ∧ Up w w')) (HE2 : Hid (∀ w, Calls Try.prog 25 #[.agg #[.int .u64 (L2 : Nat), .int .u64 (H2 : Nat)]] w fun o w' => o = .returned (.bool false) ∧ Up w w')) (w : World) :
    Calls Try.prog 31 #[.agg #[.int .u64 (L1 : Nat), .int .u64 (H1 : Nat)], .agg #[.int .u64 (L2 : Nat), .int .u64 (H2 : Nat)]] w fun o w' => o = .returned (.int .i64 (-1)) ∧ Up w w' := by
  have HL := hid hl
  have t1 : decide ((L1 : Int) < (L2 : Int)) = false := by simp; try omega
  have t2 : ((L1 : Int) == (L2 : Int)) = true := by simp; try omega
  have t3 : decide ((H1 : Int) < (H2 : Int)) = true := by simp; try omega
  have t4 : ((H1 : Int) == (H2 : Int)) = false := by simp; try omega
  clear hl
  all_goals
    go_enter Try.func31, Try.ntmps31
    go_wp2_with (first | (go_at_call_of 25 (Value.int IntKind.u64 (H1 : Nat)); refine (HE1.out _).mono ?_; rintro o w5 ⟨rfl, hb5⟩; have d5 : D2 w.heap.size L1 H1 (w.heap.size + 1) L2 H2 w5 := D2.up hb5 (by first | assumption | (simp [D2, RgAt]; done))) | (go_at_call_of 25 (Value.int IntKind.u64 (H2 : Nat)); refine (HE2.out _).mono ?_; rintro o w6 ⟨rfl, hb6⟩; have d6 : D2 w.heap.size L1 H1 (w.heap.size + 1) L2 H2 w6 := D2.up hb6 (by first | assumption | (simp [D2, RgAt]; done))))
    all_goals go_ret
    all_goals first | exact ⟨rfl, (by repeat (first | exact Up.refl _ | assumption | refine Up.drew ?_ | refine Up.drewN ?_ _ | refine Up.alloc ?_ _ | refine Up.setCell ?_ ?_ _ | exact Nat.le_refl _ | exact Nat.le_add_right _ _ | (dsimp only; omega) | refine Up.trans ?_ ‹Up _ _›))⟩ | (exfalso; (try have k1 := HL.out); (try have k2 := HH.out); omega)
set_option maxHeartbeats 1000000 in
set_option maxRecDepth 20000 in
theorem rCmp_c3 (L1 H1 L2 H2 : Nat) (w1 : Fl.W L1) (w2 : Fl.W H1) (w3 : Fl.W L2) (w4 : Fl.W H2) (hl : L1 = L2) (hh : H1 = H2) (HE1 : Hid (∀ w, Calls Try.prog 25 #[.agg #[.int .u64 (L1 : Nat), .int .u64 (H1 : Nat)]] w fun o w' => o = .returned (.bool false) ∧ Up w w')) (HE2 : Hid (∀ w, Calls Try.prog 25 #[.agg #[.int .u64 (L2 : Nat), .int .u64 (H2 : Nat)]] w fun o w' => o = .returned (.bool false) ∧ Up w w')) (w : World) :
    Calls Try.prog 31 #[.agg #[.int .u64 (L1 : Nat), .int .u64 (H1 : Nat)], .agg #[.int .u64 (L2 : Nat), .int .u64 (H2 : Nat)]] w fun o w' => o = .returned (.int .i64 (0)) ∧ Up w w' := by
  have HL := hid hl
  have HH := hid hh
  have t1 : decide ((L1 : Int) < (L2 : Int)) = false := by simp; try omega
  have t2 : ((L1 : Int) == (L2 : Int)) = true := by simp; try omega
  have t3 : decide ((H1 : Int) < (H2 : Int)) = false := by simp; try omega
  have t4 : ((H1 : Int) == (H2 : Int)) = true := by simp; try omega
  clear hl hh
  all_goals
    go_enter Try.func31, Try.ntmps31
    go_wp2_with (first | (go_at_call_of 25 (Value.int IntKind.u64 (H1 : Nat)); refine (HE1.out _).mono ?_; rintro o w5 ⟨rfl, hb5⟩; have d5 : D2 w.heap.size L1 H1 (w.heap.size + 1) L2 H2 w5 := D2.up hb5 (by first | assumption | (simp [D2, RgAt]; done))) | (go_at_call_of 25 (Value.int IntKind.u64 (H2 : Nat)); refine (HE2.out _).mono ?_; rintro o w6 ⟨rfl, hb6⟩; have d6 : D2 w.heap.size L1 H1 (w.heap.size + 1) L2 H2 w6 := D2.up hb6 (by first | assumption | (simp [D2, RgAt]; done))))
    all_goals go_ret
    all_goals first | exact ⟨rfl, (by repeat (first | exact Up.refl _ | assumption | refine Up.drew ?_ | refine Up.drewN ?_ _ | refine Up.alloc ?_ _ | refine Up.setCell ?_ ?_ _ | exact Nat.le_refl _ | exact Nat.le_add_right _ _ | (dsimp only; omega) | refine Up.trans ?_ ‹Up _ _›))⟩ | (exfalso; (try have k1 := HL.out); (try have k2 := HH.out); omega)
set_option maxHeartbeats 1000000 in
set_option maxRecDepth 20000 in
theorem rCmp_c4 (L1 H1 L2 H2 : Nat) (w1 : Fl.W L1) (w2 : Fl.W H1) (w3 : Fl.W L2) (w4 : Fl.W H2) (hl : L1 = L2) (hh : H2 < H1) (HE1 : Hid (∀ w, Calls Try.prog 25 #[.agg #[.int .u64 (L1 : Nat), .int .u64 (H1 : Nat)]] w fun o w' => o = .returned (.bool false) ∧ Up w w')) (HE2 : Hid (∀ w, Calls Try.prog 25 #[.agg #[.int .u64 (L2 : Nat), .int .u64 (H2 : Nat)]] w fun o w' => o = .returned (.bool false) ∧ Up w w')) (w : World) :
    Calls Try.prog 31 #[.agg #[.int .u64 (L1 : Nat), .int .u64 (H1 : Nat)], .agg #[.int .u64 (L2 : Nat), .int .u64 (H2 : Nat)]] w fun o w' => o = .returned (.int .i64 (1)) ∧ Up w w' := by
  have HL := hid hl
  have t1 : decide ((L1 : Int) < (L2 : Int)) = false := by simp; try omega
  have t2 : ((L1 : Int) == (L2 : Int)) = true := by simp; try omega
  have t3 : decide ((H1 : Int) < (H2 : Int)) = false := by simp; try omega
  have t4 : ((H1 : Int) == (H2 : Int)) = false := by simp; try omega
  clear hl
  all_goals
    go_enter Try.func31, Try.ntmps31
    go_wp2_with (first | (go_at_call_of 25 (Value.int IntKind.u64 (H1 : Nat)); refine (HE1.out _).mono ?_; rintro o w5 ⟨rfl, hb5⟩; have d5 : D2 w.heap.size L1 H1 (w.heap.size + 1) L2 H2 w5 := D2.up hb5 (by first | assumption | (simp [D2, RgAt]; done))) | (go_at_call_of 25 (Value.int IntKind.u64 (H2 : Nat)); refine (HE2.out _).mono ?_; rintro o w6 ⟨rfl, hb6⟩; have d6 : D2 w.heap.size L1 H1 (w.heap.size + 1) L2 H2 w6 := D2.up hb6 (by first | assumption | (simp [D2, RgAt]; done))))
    all_goals go_ret
    all_goals first | exact ⟨rfl, (by repeat (first | exact Up.refl _ | assumption | refine Up.drew ?_ | refine Up.drewN ?_ _ | refine Up.alloc ?_ _ | refine Up.setCell ?_ ?_ _ | exact Nat.le_refl _ | exact Nat.le_add_right _ _ | (dsimp only; omega) | refine Up.trans ?_ ‹Up _ _›))⟩ | (exfalso; (try have k1 := HL.out); (try have k2 := HH.out); omega)
set_option maxHeartbeats 1000000 in
set_option maxRecDepth 20000 in
theorem rCmp_c5 (L1 H1 L2 H2 : Nat) (w1 : Fl.W L1) (w2 : Fl.W H1) (w3 : Fl.W L2) (w4 : Fl.W H2) (hl : L2 < L1) (HE1 : Hid (∀ w, Calls Try.prog 25 #[.agg #[.int .u64 (L1 : Nat), .int .u64 (H1 : Nat)]] w fun o w' => o = .returned (.bool false) ∧ Up w w')) (HE2 : Hid (∀ w, Calls Try.prog 25 #[.agg #[.int .u64 (L2 : Nat), .int .u64 (H2 : Nat)]] w fun o w' => o = .returned (.bool false) ∧ Up w w')) (w : World) :
    Calls Try.prog 31 #[.agg #[.int .u64 (L1 : Nat), .int .u64 (H1 : Nat)], .agg #[.int .u64 (L2 : Nat), .int .u64 (H2 : Nat)]] w fun o w' => o = .returned (.int .i64 (1)) ∧ Up w w' := by
  have t1 : decide ((L1 : Int) < (L2 : Int)) = false := by simp; try omega
  have t2 : ((L1 : Int) == (L2 : Int)) = false := by simp; try omega
  all_goals
    go_enter Try.func31, Try.ntmps31
    go_wp2_with (first | (go_at_call_of 25 (Value.int IntKind.u64 (H1 : Nat)); refine (HE1.out _).mono ?_; rintro o w5 ⟨rfl, hb5⟩; have d5 : D2 w.heap.size L1 H1 (w.heap.size + 1) L2 H2 w5 := D2.up hb5 (by first | assumption | (simp [D2, RgAt]; done))) | (go_at_call_of 25 (Value.int IntKind.u64 (H2 : Nat)); refine (HE2.out _).mono ?_; rintro o w6 ⟨rfl, hb6⟩; have d6 : D2 w.heap.size L1 H1 (w.heap.size + 1) L2 H2 w6 := D2.up hb6 (by first | assumption | (simp [D2, RgAt]; done))))
    all_goals go_ret
    all_goals first | exact ⟨rfl, (by repeat (first | exact Up.refl _ | assumption | refine Up.drew ?_ | refine Up.drewN ?_ _ | refine Up.alloc ?_ _ | refine Up.setCell ?_ ?_ _ | exact Nat.le_refl _ | exact Nat.le_add_right _ _ | (dsimp only; omega) | refine Up.trans ?_ ‹Up _ _›))⟩ | (exfalso; (try have k1 := HL.out); (try have k2 := HH.out); omega)

theorem rCmp_form {u1 v1 u2 v2 : Nat} {e1 e2 : Bool} (f1 : Fl.IsForm u1 v1 e1) (f2 : Fl.IsForm u2 v2 e2) (w : World) :
    Calls Try.prog 31 #[.agg #[.int .u64 (Fl.rl u1 e1 : Nat), .int .u64 (Fl.rh v1 e1 : Nat)], .agg #[.int .u64 (Fl.rl u2 e2 : Nat), .int .u64 (Fl.rh v2 e2 : Nat)]] w fun o w' => o = .returned (.int .i64 (Fl.fc u1 v1 e1 u2 v2 e2)) ∧ Up w w' := by
  have HE1 := fun w => rEmpty_any (Fl.rl u1 e1) (Fl.rh v1 e1) w
  rw [Fl.empty_rng f1] at HE1
  have HE2 := fun w => rEmpty_any (Fl.rl u2 e2) (Fl.rh v2 e2) w
  rw [Fl.empty_rng f2] at HE2
  have W1 := Fl.rl_W e1 f1.1
  have W2 := Fl.rh_W e1 f1.2.1
  have W3 := Fl.rl_W e2 f2.1
  have W4 := Fl.rh_W e2 f2.2.1
  rcases Fl.form_rng f1 with ⟨rfl, rfl, rfl, r1, r2⟩ | ⟨rfl, r1, r2, r3, r4, r5⟩ <;> rcases Fl.form_rng f2 with ⟨rfl, rfl, rfl, s1, s2⟩ | ⟨rfl, s1, s2, s3, s4, s5⟩
  · exact rCmp_tt _ _ _ _ W1 W2 W3 W4 HE1 HE2 w
  · exact rCmp_tf _ _ _ _ W1 W2 W3 W4 HE1 HE2 w
  · exact rCmp_ft _ _ _ _ W1 W2 W3 W4 HE1 HE2 w
  · have e0 : Fl.fc u1 v1 false u2 v2 false = if Fl.code u1 < Fl.code u2 then -1 else if Fl.code u2 < Fl.code u1 then 1 else if Fl.code v1 < Fl.code v2 then -1 else if Fl.code v2 < Fl.code v1 then 1 else 0 := rfl
    rw [e0]
    by_cases c1 : Fl.code u1 < Fl.code u2
    · rw [if_pos c1]; exact rCmp_c1 _ _ _ _ W1 W2 W3 W4 c1 HE1 HE2 w
    · rw [if_neg c1]
      by_cases c2 : Fl.code u2 < Fl.code u1
      · rw [if_pos c2]; exact rCmp_c5 _ _ _ _ W1 W2 W3 W4 c2 HE1 HE2 w
      · rw [if_neg c2]
        have hl : Fl.code u1 = Fl.code u2 := by omega
        by_cases c3 : Fl.code v1 < Fl.code v2
        · rw [if_pos c3]; exact rCmp_c2 _ _ _ _ W1 W2 W3 W4 hl c3 HE1 HE2 w
        · rw [if_neg c3]
          by_cases c4 : Fl.code v2 < Fl.code v1
          · rw [if_pos c4]; exact rCmp_c4 _ _ _ _ W1 W2 W3 W4 hl c4 HE1 HE2 w
          · rw [if_neg c4]; exact rCmp_c3 _ _ _ _ W1 W2 W3 W4 hl (show Fl.code v1 = Fl.code v2 by omega) HE1 HE2 w
end Go.Proofs.Ytodoogcllahfgaa
