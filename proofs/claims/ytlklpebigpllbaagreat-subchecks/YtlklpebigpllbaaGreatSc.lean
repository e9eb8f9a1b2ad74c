/- What Empty, One, Has and gap of package span return at every span; no condition. -/
import Derived.Test.YtlklpebigpllbaaGreatSb
namespace Go.Proofs.YtlklpebigpllbaaGreat
open Go.RowKit
namespace Fl
/-- Has a form a key? -/
def hasF (u v : Nat) (e : Bool) (k : Nat) : Bool := !e && decide (code u ≤ code k) && decide (code k ≤ code v)
end Fl
abbrev S1 (m c d : Nat) (r s : Bool) (w : World) : Prop := SpAt m c d r s w ∧ FrAt m w
theorem S1.up {m c d : Nat} {r s : Bool} {W w' : World} (h : Up W w') (k : S1 m c d r s W) : S1 m c d r s w' := ⟨SpAt.up h k.1, SpAt.frUp h k.1 k.2⟩
attribute [local go_sem] run_bits run_frombits run_store_float eqF

set_option maxHeartbeats 400000 in
set_option maxRecDepth 20000 in
theorem empty_any (a b : Nat) (ha : Fl.W a) (hb : Fl.W b) (p q : Bool) (w : World) :
    Calls Tryz.prog 11 #[.agg #[.float .f64 a, .float .f64 b, .bool p, .bool q]] w fun e w' => e = .returned (.bool (Fl.csE a b p q)) ∧ Up w w' := by
  have HC := fun w => canonS_any a b ha hb p q w
  cases h : Fl.csE a b p q
  · rw [h] at HC
    have H : Hid _ := HC
    clear HC h
    go_enter Tryz.func11, Tryz.ntmps11
    go_wp2_with (first | (go_at_call 25; refine (H.out _).mono ?_; rintro e w1 ⟨rfl, hb1⟩) | (go_at_call 26; refine (none_any _).mono ?_; rintro e w2 ⟨rfl, hb2⟩))
    go_ret
    exact ⟨rfl, (by repeat (first | exact Up.refl _ | assumption | refine Up.drew ?_ | refine Up.drewN ?_ _ | refine Up.alloc ?_ _ | refine Up.setCell ?_ ?_ _ | exact Nat.le_refl _ | exact Nat.le_add_right _ _ | (dsimp only; omega) | refine Up.trans ?_ ‹Up _ _›))⟩
  · have e := Fl.csE_true a b p q h
    have o0 : FloatKind.f64.format.order 0 0 = some .eq := by decide +kernel
    rw [h, e.1, e.2] at HC
    have H : Hid _ := HC
    clear HC h e
    go_enter Tryz.func11, Tryz.ntmps11
    go_wp2_with (first | (go_at_call 25; refine (H.out _).mono ?_; rintro e w1 ⟨rfl, hb1⟩) | (go_at_call 26; refine (none_any _).mono ?_; rintro e w2 ⟨rfl, hb2⟩))
    go_ret
    exact ⟨rfl, (by repeat (first | exact Up.refl _ | assumption | refine Up.drew ?_ | refine Up.drewN ?_ _ | refine Up.alloc ?_ _ | refine Up.setCell ?_ ?_ _ | exact Nat.le_refl _ | exact Nat.le_add_right _ _ | (dsimp only; omega) | refine Up.trans ?_ ‹Up _ _›))⟩

set_option maxHeartbeats 1000000 in
set_option maxRecDepth 20000 in
theorem gap_any (a b c d : Nat) (hb : Fl.W b) (hc : Fl.W c) (p q r s : Bool) (w : World) :
    Calls Tryz.prog 62 #[.agg #[.float .f64 a, .float .f64 b, .bool p, .bool q], .agg #[.float .f64 c, .float .f64 d, .bool r, .bool s]] w fun e w' => e = .returned (.bool (decide (Fl.code (Fl.nextB b) < Fl.code c))) ∧ Up w w' := by
  have hn : Fl.W (Fl.nextB b) := (Fl.nextB_form b hb).2
  have c1 := Fl.cmpc_cases (Fl.nextB b) c
  have e : decide (Fl.code (Fl.nextB b) < Fl.code c) = decide (Fl.cmpc (Fl.nextB b) c < 0) := by rw [decide_eq_decide]; omega
  rw [e]; clear e c1
  go_enter Tryz.func62, Tryz.ntmps62
  go_wp2
  go_region_held3 (fun wx => SpAt w.heap.size a b p q wx ∧ SpAt (w.heap.size + 1) c d r s wx) (simp [SpAt]) (first | (go_at_call 55; refine (next_any b ‹Fl.W b› _).mono ?_; rintro e w3 ⟨rfl, rfl⟩) | (go_at_call 54; refine (cmp_any (Fl.nextB b) c ‹Fl.W (Fl.nextB b)› ‹Fl.W c› _).mono ?_; rintro e w4 ⟨rfl, rfl⟩))
  go_wp2
  go_ret
  exact ⟨rfl, (by repeat (first | exact Up.refl _ | assumption | refine Up.drew ?_ | refine Up.drewN ?_ _ | refine Up.alloc ?_ _ | refine Up.setCell ?_ ?_ _ | exact Nat.le_refl _ | exact Nat.le_add_right _ _ | (dsimp only; omega) | refine Up.trans ?_ ‹Up _ _›))⟩

end Go.Proofs.YtlklpebigpllbaaGreat
