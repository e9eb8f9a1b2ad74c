/- What sub.misnamed, crowded and keyless return at every submission; conditions: its rows lie in memory. -/
import Derived.Test.YtbkbnfgjkefcmaaGreatWb
namespace Go.Proofs.YtbkbnfgjkefcmaaGreat
open Go.RowKit
set_option linter.unusedVariables false
attribute [local go_sem] run_bits run_frombits run_store_float eqF
def outB (n l : Int) : Bool := decide (n < l) || decide (1099511627776 < n)
def misB (s1 s2 s3 : Int) : Bool := outB s1 1 || outB s2 1 || outB s3 0
def crowdB (n1 n2 n3 : Nat) : Bool := decide (16 < n1) || decide (8 < n2) || decide (16 < n3)
abbrev SubAt (m : Nat) (s1 s2 s3 : Int) (v1 v2 v3 : Value) (w : World) : Prop := w.cell? ⟨m, 0, none⟩ = some (.int .i64 s1) ∧ w.cell? ⟨m, 1, none⟩ = some (.int .i64 s2) ∧ w.cell? ⟨m, 2, none⟩ = some (.int .i64 s3) ∧ w.cell? ⟨m, 3, none⟩ = some v1 ∧ w.cell? ⟨m, 4, none⟩ = some v2 ∧ w.cell? ⟨m, 5, none⟩ = some v3
theorem SubAt.old {m : Nat} {s1 s2 s3 : Int} {v1 v2 v3 : Value} {w w' : World} (u : Old w w') (h : SubAt m s1 s2 s3 v1 v2 v3 w) : SubAt m s1 s2 s3 v1 v2 v3 w' := ⟨u.keep h.1, u.keep h.2.1, u.keep h.2.2.1, u.keep h.2.2.2.1, u.keep h.2.2.2.2.1, u.keep h.2.2.2.2.2⟩
set_option maxHeartbeats 400000 in
set_option maxRecDepth 20000 in
theorem outside_any (n l : Int) (w : World) : Calls Tryz.prog 75 #[.int .i64 n, .int .i64 l] w fun e w' => e = .returned (.bool (outB n l)) ∧ w' = w := by
  have HB := hid (show outB n l = (decide (n < l) || decide (1099511627776 < n)) from rfl)
  by_cases h : n < l
  · go_enter Tryz.func75, Tryz.ntmps75
    go_wp2
    go_ret
    exact ⟨ret_b (by rw [HB.out]; simp [h]), rfl⟩
  · go_enter Tryz.func75, Tryz.ntmps75
    go_wp2
    go_ret
    exact ⟨ret_b (by rw [HB.out, Bool.eq_iff_iff]; simp; try omega), rfl⟩
set_option maxHeartbeats 1000000 in
set_option maxRecDepth 20000 in
theorem misnamed_any (s1 s2 s3 : Int) (v1 v2 v3 : Value) (w : World) : Calls Tryz.prog 49 #[.agg #[.int .i64 s1, .int .i64 s2, .int .i64 s3, v1, v2, v3]] w fun e w' => e = .returned (.bool (misB s1 s2 s3)) ∧ Old w w' := by
  have H1 := fun W => outside_any s1 1 W
  have H2 := fun W => outside_any s2 1 W
  have H3 := fun W => outside_any s3 0 W
  have HB := hid (show misB s1 s2 s3 = (outB s1 1 || outB s2 1 || outB s3 0) from rfl)
  cases h1 : outB s1 1 <;> cases h2 : outB s2 1
  all_goals
    rw [h1] at H1
    rw [h2] at H2
    rw [h1, h2] at HB
    generalize outB s3 0 = r3 at *
    have K1 := hid H1
    have K2 := hid H2
    have K3 := hid H3
    clear H1 H2 H3 h1 h2
    go_enter Tryz.func49, Tryz.ntmps49
    go_wp2_with (first | (go_at_call_of 75 (Value.int IntKind.i64 s1); refine (K1.out _).mono ?_; rintro o w5 ⟨rfl, rfl⟩) | (go_at_call_of 75 (Value.int IntKind.i64 s2); refine (K2.out _).mono ?_; rintro o w5 ⟨rfl, rfl⟩) | (go_at_call_of 75 (Value.int IntKind.i64 s3); refine (K3.out _).mono ?_; rintro o w5 ⟨rfl, rfl⟩))
    go_ret
    exact ⟨ret_b (by rw [HB.out]; simp), (Old.refl w).alloc _⟩
set_option maxHeartbeats 1000000 in
set_option maxRecDepth 20000 in
theorem crowded_any (s1 s2 s3 : Int) (a1 a2 a3 : Option Addr) (n1 n2 n3 c1 c2 c3 : Nat) (w : World) : Calls Tryz.prog 50 #[.agg #[.int .i64 s1, .int .i64 s2, .int .i64 s3, .slice a1 n1 c1, .slice a2 n2 c2, .slice a3 n3 c3]] w fun e w' => e = .returned (.bool (crowdB n1 n2 n3)) ∧ Old w w' := by
  have HB := hid (show crowdB n1 n2 n3 = (decide (16 < n1) || decide (8 < n2) || decide (16 < n3)) from rfl)
  by_cases h1 : 16 < n1 <;> by_cases h2 : 8 < n2
  all_goals
    have t1 := h1
    have t2 := h2
    go_enter Tryz.func50, Tryz.ntmps50
    go_wp2
    go_ret
    exact ⟨ret_b (by rw [HB.out, Bool.eq_iff_iff]; simp; try omega), (Old.refl w).alloc _⟩
set_option maxHeartbeats 1000000 in
set_option maxRecDepth 20000 in
theorem keyless_any (s1 s2 s3 : Int) (v1 v2 v3 : Value) (n1 n3 : Nat) (x1 x3 : Nat → Nat) (w : World) (h1 : FRow w v1 n1 x1) (h3 : FRow w v3 n3 x3) : Calls Tryz.prog 51 #[.agg #[.int .i64 s1, .int .i64 s2, .int .i64 s3, v1, v2, v3]] w fun e w' => e = .returned (.bool (Fl.anyG (fun i => Fl.nan (x1 i)) n1 || Fl.anyG (fun i => Fl.nan (x3 i)) n3)) ∧ Old w w' := by
  have K1 := hid (fun W (hW : Old w W) => nans_any v1 n1 x1 W (h1.old hW))
  have K3 := hid (fun W (hW : Old w W) => nans_any v3 n3 x3 W (h3.old hW))
  clear h1 h3
  generalize hr : Fl.anyG (fun i => Fl.nan (x1 i)) n1 = r1 at *
  generalize Fl.anyG (fun i => Fl.nan (x3 i)) n3 = r3 at *
  clear hr
  have s0 : SubAt w.heap.size s1 s2 s3 v1 v2 v3 (w.alloc (.cells #[.int .i64 s1, .int .i64 s2, .int .i64 s3, v1, v2, v3] 31)) := by simp [SubAt]
  have HS := hid s0
  clear s0
  cases r1
  all_goals
    go_enter Tryz.func51, Tryz.ntmps51
    go_wp2_with (first | (go_at_call_of 35 v1; refine (K1.out _ ((Old.refl w).alloc _)).mono ?_; rintro o w5 ⟨rfl, u5⟩; have U5 := hid (((Old.refl w).alloc _).trans u5); have S5 := SubAt.old u5 HS.out; obtain ⟨_, _, _, e3, e4, e5⟩ := S5; clear u5) | (go_at_call_of 35 v3; refine (K3.out _ U5.out).mono ?_; rintro o w6 ⟨rfl, u6⟩; have U6 := hid (U5.out.trans u6); clear u6))
    go_ret
    first | exact ⟨ret_b (by simp), U6.out⟩ | exact ⟨ret_b (by simp), U5.out⟩
end Go.Proofs.YtbkbnfgjkefcmaaGreat
