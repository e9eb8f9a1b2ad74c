/- What Empty, One, Has and gap of package span return at every span; no condition. -/
import Derived.Test.YtbkbnfgjkefcmaaGreatSb
namespace Go.Proofs.YtbkbnfgjkefcmaaGreat
open Go.RowKit
namespace Fl
/-- Has a form a key? -/
def hasF (u v : Nat) (e : Bool) (k : Nat) : Bool := !e && decide (code u ≤ code k) && decide (code k ≤ code v)
end Fl
abbrev S1 (m c d : Nat) (r s : Bool) (w : World) : Prop := SpAt m c d r s w ∧ FrAt m w
theorem S1.up {m c d : Nat} {r s : Bool} {W w' : World} (h : Up W w') (k : S1 m c d r s W) : S1 m c d r s w' := ⟨SpAt.up h k.1, SpAt.frUp h k.1 k.2⟩
attribute [local go_sem] run_bits run_frombits run_store_float eqF

set_option maxHeartbeats 400000 in
set_option maxRecDepth 20000 in
theorem empty_any (a b : Nat) (ha : Fl.W a) (hb : Fl.W b) (p q : Bool) (w : World) :
    Calls Tryz.prog 53 #[.agg #[.float .f64 a, .float .f64 b, .bool p, .bool q]] w fun e w' => e = .returned (.bool (Fl.csE a b p q)) ∧ Up w w' := by
  have HC := fun w => canonS_any a b ha hb p q w
  cases h : Fl.csE a b p q
  · rw [h] at HC
    have H : Hid _ := HC
    clear HC h
    go_enter Tryz.func53, Tryz.ntmps53
    go_wp2_with (first | (go_at_call 78; refine (H.out _).mono ?_; rintro e w1 ⟨rfl, hb1⟩) | (go_at_call 79; refine (none_any _).mono ?_; rintro e w2 ⟨rfl, hb2⟩))
    go_ret
    exact ⟨rfl, (by repeat (first | exact Up.refl _ | assumption | refine Up.drew ?_ | refine Up.drewN ?_ _ | refine Up.alloc ?_ _ | refine Up.setCell ?_ ?_ _ | exact Nat.le_refl _ | exact Nat.le_add_right _ _ | (dsimp only; omega) | refine Up.trans ?_ ‹Up _ _›))⟩
  · have e := Fl.csE_true a b p q h
    have o0 : FloatKind.f64.format.order 0 0 = some .eq := by decide +kernel
    rw [h, e.1, e.2] at HC
    have H : Hid _ := HC
    clear HC h e
    go_enter Tryz.func53, Tryz.ntmps53
    go_wp2_with (first | (go_at_call 78; refine (H.out _).mono ?_; rintro e w1 ⟨rfl, hb1⟩) | (go_at_call 79; refine (none_any _).mono ?_; rintro e w2 ⟨rfl, hb2⟩))
    go_ret
    exact ⟨rfl, (by repeat (first | exact Up.refl _ | assumption | refine Up.drew ?_ | refine Up.drewN ?_ _ | refine Up.alloc ?_ _ | refine Up.setCell ?_ ?_ _ | exact Nat.le_refl _ | exact Nat.le_add_right _ _ | (dsimp only; omega) | refine Up.trans ?_ ‹Up _ _›))⟩

set_option maxHeartbeats 1000000 in
set_option maxRecDepth 20000 in
theorem has_core (a b : Nat) (p q : Bool) (u v k : Nat) (s : Bool) (hu : Fl.W u) (hv : Fl.W v) (hk : Fl.W k) (hs : s = true → u = 0 ∧ v = 0)
    (HC : Hid (∀ w, Calls Tryz.prog 78 #[.agg #[.float .f64 a, .float .f64 b, .bool p, .bool q]] w fun e w' => e = .returned (.agg #[.float .f64 u, .float .f64 v, .bool s, .bool s]) ∧ Up w w')) (w : World) :
    Calls Tryz.prog 98 #[.agg #[.float .f64 a, .float .f64 b, .bool p, .bool q], .float .f64 k] w fun e w' => e = .returned (.bool (Fl.hasF u v s k)) ∧ Up w w' := by
  have o0 : FloatKind.f64.format.order 0 0 = some .eq := by decide +kernel
  cases s
  · clear hs
    have c1 := Fl.cmpc_cases u k
    have c2 := Fl.cmpc_cases k v
    by_cases h1 : Fl.code u ≤ Fl.code k
    · have t1 : decide (Fl.cmpc u k ≤ 0) = true := by simp; omega
      by_cases h2 : Fl.code k ≤ Fl.code v
      · have t2 : decide (Fl.cmpc k v ≤ 0) = true := by simp; omega
        have e : Fl.hasF u v false k = true := by unfold Fl.hasF; simp [h1, h2]
        rw [e]; clear c1 c2 h1 h2 e
        go_enter Tryz.func98, Tryz.ntmps98
        go_wp2_with (go_at_call 78; refine (HC.out _).mono ?_; rintro e w1 ⟨rfl, hb1⟩)
        go_region_held3 (SpAt w1.heap.size u v false false) (first | (apply SpAt.up; (first | assumption | exact Up.drew (Up.refl _)); assumption) | (simp [SpAt, *])) (first | (go_at_call 79; refine (none_any _).mono ?_; rintro e w2 ⟨rfl, hb2⟩) | (go_at_call_of 100 (Value.float FloatKind.f64 u); refine (cmp_any u k ‹Fl.W u› ‹Fl.W k› _).mono ?_; rintro e w3 ⟨rfl, rfl⟩) | (go_at_call_of 100 (Value.float FloatKind.f64 v); refine (cmp_any k v ‹Fl.W k› ‹Fl.W v› _).mono ?_; rintro e w4 ⟨rfl, rfl⟩))
        all_goals go_wp2
        all_goals go_ret
        all_goals exact ⟨rfl, (by repeat (first | exact Up.refl _ | assumption | refine Up.drew ?_ | refine Up.drewN ?_ _ | refine Up.alloc ?_ _ | refine Up.setCell ?_ ?_ _ | exact Nat.le_refl _ | exact Nat.le_add_right _ _ | (dsimp only; omega) | refine Up.trans ?_ ‹Up _ _›))⟩
      · have t2 : decide (Fl.cmpc k v ≤ 0) = false := by simp; omega
        have e : Fl.hasF u v false k = false := by unfold Fl.hasF; simp [h1, h2]
        rw [e]; clear c1 c2 h1 h2 e
        go_enter Tryz.func98, Tryz.ntmps98
        go_wp2_with (go_at_call 78; refine (HC.out _).mono ?_; rintro e w1 ⟨rfl, hb1⟩)
        go_region_held3 (SpAt w1.heap.size u v false false) (first | (apply SpAt.up; (first | assumption | exact Up.drew (Up.refl _)); assumption) | (simp [SpAt, *])) (first | (go_at_call 79; refine (none_any _).mono ?_; rintro e w2 ⟨rfl, hb2⟩) | (go_at_call_of 100 (Value.float FloatKind.f64 u); refine (cmp_any u k ‹Fl.W u› ‹Fl.W k› _).mono ?_; rintro e w3 ⟨rfl, rfl⟩) | (go_at_call_of 100 (Value.float FloatKind.f64 v); refine (cmp_any k v ‹Fl.W k› ‹Fl.W v› _).mono ?_; rintro e w4 ⟨rfl, rfl⟩))
        all_goals go_wp2
        all_goals go_ret
        all_goals exact ⟨rfl, (by repeat (first | exact Up.refl _ | assumption | refine Up.drew ?_ | refine Up.drewN ?_ _ | refine Up.alloc ?_ _ | refine Up.setCell ?_ ?_ _ | exact Nat.le_refl _ | exact Nat.le_add_right _ _ | (dsimp only; omega) | refine Up.trans ?_ ‹Up _ _›))⟩
    · have t1 : decide (Fl.cmpc u k ≤ 0) = false := by simp; omega
      have e : Fl.hasF u v false k = false := by unfold Fl.hasF; simp [h1]
      rw [e]; clear c1 c2 h1 e
      go_enter Tryz.func98, Tryz.ntmps98
      go_wp2_with (go_at_call 78; refine (HC.out _).mono ?_; rintro e w1 ⟨rfl, hb1⟩)
      first | go_region_with (first | (go_at_call 79; refine (none_any _).mono ?_; rintro e w2 ⟨rfl, hb2⟩; have s2 : SpAt w1.heap.size u v false false w2 := SpAt.up hb2 (by simp [SpAt])) | (go_at_call_of 100 (Value.float FloatKind.f64 u); refine (cmp_any u k ‹Fl.W u› ‹Fl.W k› _).mono ?_; rintro e w3 ⟨rfl, rfl⟩)) | done
      all_goals go_wp2
      all_goals go_ret
      all_goals exact ⟨rfl, (by repeat (first | exact Up.refl _ | assumption | refine Up.drew ?_ | refine Up.drewN ?_ _ | refine Up.alloc ?_ _ | refine Up.setCell ?_ ?_ _ | exact Nat.le_refl _ | exact Nat.le_add_right _ _ | (dsimp only; omega) | refine Up.trans ?_ ‹Up _ _›))⟩
  · obtain ⟨rfl, rfl⟩ := hs rfl
    have e : Fl.hasF 0 0 true k = false := rfl
    rw [e]; clear e hs
    go_enter Tryz.func98, Tryz.ntmps98
    go_wp2_with (go_at_call 78; refine (HC.out _).mono ?_; rintro e w1 ⟨rfl, hb1⟩)
    first | go_region_with (first | (go_at_call 79; refine (none_any _).mono ?_; rintro e w2 ⟨rfl, hb2⟩; have s2 : SpAt w1.heap.size 0 0 true true w2 := SpAt.up hb2 (by simp [SpAt])) | (go_at_call_of 100 (Value.float FloatKind.f64 0); refine (cmp_any 0 k ‹Fl.W 0› ‹Fl.W k› _).mono ?_; rintro e w3 ⟨rfl, rfl⟩)) | done
    all_goals go_wp2
    all_goals go_ret
    all_goals exact ⟨rfl, (by repeat (first | exact Up.refl _ | assumption | refine Up.drew ?_ | refine Up.drewN ?_ _ | refine Up.alloc ?_ _ | refine Up.setCell ?_ ?_ _ | exact Nat.le_refl _ | exact Nat.le_add_right _ _ | (dsimp only; omega) | refine Up.trans ?_ ‹Up _ _›))⟩

theorem has_any (a b k : Nat) (ha : Fl.W a) (hb : Fl.W b) (hk : Fl.W k) (p q : Bool) (w : World) :
    Calls Tryz.prog 98 #[.agg #[.float .f64 a, .float .f64 b, .bool p, .bool q], .float .f64 k] w fun e w' => e = .returned (.bool (Fl.hasF (Fl.csU a b p q) (Fl.csV a b p q) (Fl.csE a b p q) k)) ∧ Up w w' :=
  has_core a b p q _ _ k _ (Fl.csU_W a b p q ha) (Fl.csV_W a b p q hb) hk (Fl.csE_true a b p q) (fun w => canonS_any a b ha hb p q w) w

set_option maxHeartbeats 1000000 in
set_option maxRecDepth 20000 in
theorem gap_any (a b c d : Nat) (hb : Fl.W b) (hc : Fl.W c) (p q r s : Bool) (w : World) :
    Calls Tryz.prog 108 #[.agg #[.float .f64 a, .float .f64 b, .bool p, .bool q], .agg #[.float .f64 c, .float .f64 d, .bool r, .bool s]] w fun e w' => e = .returned (.bool (decide (Fl.code (Fl.nextB b) < Fl.code c))) ∧ Up w w' := by
  have hn : Fl.W (Fl.nextB b) := (Fl.nextB_form b hb).2
  have c1 := Fl.cmpc_cases (Fl.nextB b) c
  have e : decide (Fl.code (Fl.nextB b) < Fl.code c) = decide (Fl.cmpc (Fl.nextB b) c < 0) := by rw [decide_eq_decide]; omega
  rw [e]; clear e c1
  go_enter Tryz.func108, Tryz.ntmps108
  go_wp2
  go_region_held3 (fun wx => SpAt w.heap.size a b p q wx ∧ SpAt (w.heap.size + 1) c d r s wx) (simp [SpAt]) (first | (go_at_call 101; refine (next_any b ‹Fl.W b› _).mono ?_; rintro e w3 ⟨rfl, rfl⟩) | (go_at_call 100; refine (cmp_any (Fl.nextB b) c ‹Fl.W (Fl.nextB b)› ‹Fl.W c› _).mono ?_; rintro e w4 ⟨rfl, rfl⟩))
  go_wp2
  go_ret
  exact ⟨rfl, (by repeat (first | exact Up.refl _ | assumption | refine Up.drew ?_ | refine Up.drewN ?_ _ | refine Up.alloc ?_ _ | refine Up.setCell ?_ ?_ _ | exact Nat.le_refl _ | exact Nat.le_add_right _ _ | (dsimp only; omega) | refine Up.trans ?_ ‹Up _ _›))⟩

end Go.Proofs.YtbkbnfgjkefcmaaGreat
