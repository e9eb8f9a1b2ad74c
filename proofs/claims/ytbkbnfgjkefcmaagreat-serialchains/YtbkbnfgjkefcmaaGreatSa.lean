/- A world that has grown: nothing old has turned; the stores of floats; spans' values: what none, Right, closed, first, last and Canon of package span return at every span; no condition. -/
import Derived.Test.YtbkbnfgjkefcmaaGreatCq
import Derived.Test.YtbkbnfgjkefcmaaGreatFs
import Derived.Deep.RegionWith
namespace Go.Proofs.YtbkbnfgjkefcmaaGreat
open Go.RowKit
theorem run_store_float {P : Program} (w : World) (a : Addr) (m : Mode) (k : FloatKind) (b : Nat) : (store a (.float k b) m).run P w = stored P w a (.float k b) m := run_store P w a _ m rfl
/-- Nothing that was there has turned; no draw is taken back. -/
structure Up (w w' : World) : Prop extends Below w.heap.size w w' where
  drawn : w.drawn ≤ w'.drawn
instance {w w' : World} : CoeOut (Up w w') (Below w.heap.size w w') := ⟨Up.toBelow⟩
theorem Up.refl (w : World) : Up w w := ⟨Below.refl _ _, Nat.le_refl _⟩
theorem Up.trans {a b c : World} (h : Up a b) (k : Up b c) : Up a c := ⟨Below.trans h.toBelow (Below.mono k.toBelow h.size), Nat.le_trans h.drawn k.drawn⟩
theorem Up.drew {a w : World} (h : Up a w) : Up a w.drew := ⟨Below.drew h.toBelow, Nat.le_trans h.drawn (Nat.le_succ _)⟩
theorem Up.drewN {a w : World} (h : Up a w) (n : Nat) : Up a (w.drewN n) := ⟨below_drewN h.toBelow n, Nat.le_trans h.drawn (Nat.le_add_right _ _)⟩
theorem Up.alloc {a w : World} (h : Up a w) (o : Obj) : Up a (w.alloc o) := ⟨Below.alloc h.toBelow h.size o, h.drawn⟩
theorem Up.setCell {a w : World} (h : Up a w) {p : Addr} (hp : a.heap.size ≤ p.block) (u : Value) : Up a (w.setCell p u) := ⟨Below.setCell h.toBelow hp u, h.drawn⟩
theorem Up.cells {W w1 : World} (hb : Up W w1) : (∀ b o, b < W.heap.size → w1.cell? ⟨b, o, none⟩ = W.cell? ⟨b, o, none⟩) ∧ (∀ b o, b < W.heap.size → w1.frozen? ⟨b, o, none⟩ = W.frozen? ⟨b, o, none⟩) ∧ W.heap.size ≤ w1.heap.size :=
  ⟨fun b o h => Below.cell (p := ⟨b, o, none⟩) hb.toBelow h, fun b o h => Below.frozen (p := ⟨b, o, none⟩) hb.toBelow h, hb.size⟩
theorem Up.toGrown {w w' : World} (h : Up w w') : Below w.heap.size w w' := h.toBelow
attribute [local go_sem] run_bits run_frombits run_store_float

set_option maxHeartbeats 400000 in
set_option maxRecDepth 20000 in
theorem none_any (w : World) :
    Calls Tryz.prog 79 #[] w fun e w' => e = .returned (.agg #[.float .f64 0, .float .f64 0, .bool true, .bool true]) ∧ Up w w' := by
  go_enter Tryz.func79, Tryz.ntmps79
  go_wp2
  exact bodyPost_ret (v := .agg #[.float .f64 0, .float .f64 0, .bool true, .bool true]) (by simp [results, Tryz.results79, go_sem]) rfl ⟨rfl, (Up.refl _).alloc _⟩

set_option maxHeartbeats 400000 in
set_option maxRecDepth 20000 in
theorem right_any (a b : Nat) (ha : Fl.W a) (hb : Fl.W b) (p q : Bool) (w : World) :
    Calls Tryz.prog 91 #[.agg #[.float .f64 a, .float .f64 b, .bool p, .bool q]] w fun e w' => e = .returned (.bool (!Fl.nan a && !Fl.nan b)) ∧ Up w w' := by
  go_enter Tryz.func91, Tryz.ntmps91
  go_wp2_with (go_at_call 76; refine (isNaN_any _ ‹_› _).mono ?_; rintro e w' ⟨rfl, rfl⟩)
  all_goals go_ret
  all_goals exact ⟨ret_b (by simp [*]), (Up.refl _).alloc _⟩

set_option maxHeartbeats 400000 in
set_option maxRecDepth 20000 in
theorem closed_none (a b : Nat) (ha : Fl.W a) (hb : Fl.W b) (hc : Fl.code b < Fl.code a) (w : World) :
    Calls Tryz.prog 93 #[.float .f64 a, .float .f64 b] w fun e w' => e = .returned (.agg #[.float .f64 0, .float .f64 0, .bool true, .bool true]) ∧ Up w w' := by
  have e := Fl.cmpc_gt a b hc
  clear hc
  go_enter Tryz.func93, Tryz.ntmps93
  go_wp2_with (first | (go_at_call 100; refine (cmp_any _ _ ‹Fl.W a› ‹Fl.W b› _).mono ?_; rintro e w' ⟨rfl, rfl⟩) | (go_at_call 79; refine (none_any _).mono ?_; rintro e w1 ⟨rfl, hb1⟩; obtain ⟨hc1, hf1, hz1⟩ := hb1.cells))
  exact bodyPost_ret (v := .agg #[.float .f64 0, .float .f64 0, .bool true, .bool true]) (by simp [results, Tryz.results93, go_sem, hc1]) rfl ⟨rfl, (((((((Up.refl _).alloc _).trans hb1).setCell (Nat.le_refl _) _).setCell (Nat.le_refl _) _).setCell (Nat.le_refl _) _).setCell (Nat.le_refl _) _)⟩

set_option maxHeartbeats 400000 in
set_option maxRecDepth 20000 in
theorem closed_some (a b : Nat) (ha : Fl.W a) (hb : Fl.W b) (hc : Fl.code a ≤ Fl.code b) (w : World) :
    Calls Tryz.prog 93 #[.float .f64 a, .float .f64 b] w fun e w' => e = .returned (.agg #[.float .f64 a, .float .f64 b, .bool false, .bool false]) ∧ Up w w' := by
  have e := Fl.cmpc_cases a b
  have e : decide (0 < Fl.cmpc a b) = false := by simp; omega
  clear hc
  go_enter Tryz.func93, Tryz.ntmps93
  go_wp2_with (first | (go_at_call 100; refine (cmp_any _ _ ‹Fl.W a› ‹Fl.W b› _).mono ?_; rintro e w' ⟨rfl, rfl⟩))
  exact bodyPost_ret (v := .agg #[.float .f64 a, .float .f64 b, .bool false, .bool false]) (by simp [results, Tryz.results93, go_sem]) rfl ⟨rfl, (Up.refl _).alloc _⟩

set_option maxHeartbeats 400000 in
set_option maxRecDepth 20000 in
theorem first_any (a b : Nat) (ha : Fl.W a) (p q : Bool) (w : World) :
    Calls Tryz.prog 94 #[.agg #[.float .f64 a, .float .f64 b, .bool p, .bool q]] w fun e w' => e = .returned (.float .f64 (if p = true then Fl.nextB a else Fl.canon a)) ∧ Up w w' := by
  cases p
  all_goals
    go_enter Tryz.func94, Tryz.ntmps94
    go_wp2_with (first | (go_at_call 101; refine (next_any _ ‹_› _).mono ?_; rintro e w' ⟨rfl, rfl⟩) | (go_at_call 102; refine (canon_any _ ‹_› _).mono ?_; rintro e w' ⟨rfl, rfl⟩))
    go_ret
    exact ⟨rfl, (Up.refl _).alloc _⟩

set_option maxHeartbeats 400000 in
set_option maxRecDepth 20000 in
theorem last_any (a b : Nat) (hb : Fl.W b) (p q : Bool) (w : World) :
    Calls Tryz.prog 95 #[.agg #[.float .f64 a, .float .f64 b, .bool p, .bool q]] w fun e w' => e = .returned (.float .f64 (if q = true then Fl.prevB b else Fl.canon b)) ∧ Up w w' := by
  cases q
  all_goals
    go_enter Tryz.func95, Tryz.ntmps95
    go_wp2_with (first | (go_at_call 103; refine (prev_any _ ‹_› _).mono ?_; rintro e w' ⟨rfl, rfl⟩) | (go_at_call 102; refine (canon_any _ ‹_› _).mono ?_; rintro e w' ⟨rfl, rfl⟩))
    go_ret
    exact ⟨rfl, (Up.refl _).alloc _⟩
end Go.Proofs.YtbkbnfgjkefcmaaGreat
