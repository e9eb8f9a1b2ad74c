/- The document's Same at two submissions that are alike; conditions: their rows lie in memory. -/
import Derived.Test.YtbkklemhhdejpaaGreatWe
namespace Go.Proofs.YtbkklemhhdejpaaGreat
open Go.RowKit
set_option linter.unusedVariables false
attribute [local go_sem] run_bits run_frombits run_store_float eqF
set_option maxHeartbeats 4000000 in
set_option maxRecDepth 20000 in
theorem refSame_eq (s1 s2 s3 : Int) (a1 a2 a3 p1 p2 p3 : Option Addr) (n1 n2 n3 c1 c2 c3 q1 q2 q3 : Nat) (x1 x3 : Nat → Nat) (f2 : Nat → Sp) (w : World)
    (h1 : FRow w (.slice a1 n1 c1) n1 x1) (h2 : SRow w (.slice a2 n2 c2) n2 f2) (h3 : FRow w (.slice a3 n3 c3) n3 x3) (g1 : FRow w (.slice p1 n1 q1) n1 x1) (g2 : SRow w (.slice p2 n2 q2) n2 f2) (g3 : FRow w (.slice p3 n3 q3) n3 x3) :
    Calls Tryz.prog 13 #[.agg #[.int .i64 s1, .int .i64 s2, .int .i64 s3, .slice a1 n1 c1, .slice a2 n2 c2, .slice a3 n3 c3], .agg #[.int .i64 s1, .int .i64 s2, .int .i64 s3, .slice p1 n1 q1, .slice p2 n2 q2, .slice p3 n3 q3]] w fun e w' => e = .returned (.bool true) ∧ Old w w' := by
  have K1 := hid (fun W (hW : Old w W) => sameF _ _ n1 x1 W (h1.old hW) (g1.old hW))
  have K3 := hid (fun W (hW : Old w W) => sameF _ _ n3 x3 W (h3.old hW) (g3.old hW))
  have K2 := hid (fun W (hW : Old w W) => same_rows _ _ n2 f2 W (h2.old hW) (g2.old hW))
  clear h1 h2 h3 g1 g2 g3
  have sa : SubAt w.heap.size s1 s2 s3 (.slice a1 n1 c1) (.slice a2 n2 c2) (.slice a3 n3 c3) ((w.alloc (.cells #[.int .i64 s1, .int .i64 s2, .int .i64 s3, .slice a1 n1 c1, .slice a2 n2 c2, .slice a3 n3 c3] 28)).alloc (.cells #[.int .i64 s1, .int .i64 s2, .int .i64 s3, .slice p1 n1 q1, .slice p2 n2 q2, .slice p3 n3 q3] 28)) := by simp [SubAt]
  have sb : SubAt (w.heap.size + 1) s1 s2 s3 (.slice p1 n1 q1) (.slice p2 n2 q2) (.slice p3 n3 q3) ((w.alloc (.cells #[.int .i64 s1, .int .i64 s2, .int .i64 s3, .slice a1 n1 c1, .slice a2 n2 c2, .slice a3 n3 c3] 28)).alloc (.cells #[.int .i64 s1, .int .i64 s2, .int .i64 s3, .slice p1 n1 q1, .slice p2 n2 q2, .slice p3 n3 q3] 28)) := by simp [SubAt]
  have HA := hid sa
  have HB := hid sb
  clear sa sb
  go_enter Tryz.func13, Tryz.ntmps13
  go_upto_region 1 with fail
  generalize hw0 : ((w.alloc (.cells #[.int .i64 s1, .int .i64 s2, .int .i64 s3, .slice a1 n1 c1, .slice a2 n2 c2, .slice a3 n3 c3] 28)).alloc (.cells #[.int .i64 s1, .int .i64 s2, .int .i64 s3, .slice p1 n1 q1, .slice p2 n2 q2, .slice p3 n3 q3] 28)) = w0 at *
  have U0 : Old w w0 := by rw [← hw0]; exact ((Old.refl w).alloc _).alloc _
  clear hw0
  obtain ⟨e0, e1, e2, e3, e4, e5⟩ := HA.out
  obtain ⟨f0, f1, f2', f3, f4, f5⟩ := HB.out
  go_wp2_with (first | (go_at_call_of 29 (Value.slice a1 n1 c1); refine (K1.out _ U0).mono ?_; rintro o wa ⟨rfl, ua⟩; obtain ⟨x0, x1', x2, x3', x4, x5⟩ := SubAt.old ua HA.out; obtain ⟨y0, y1, y2, y3, y4, y5⟩ := SubAt.old ua HB.out; have Ua := hid ua; clear ua) | (go_at_call_of 29 (Value.slice a3 n3 c3); refine (K3.out _ (U0.trans Ua.out)).mono ?_; rintro o wb ⟨rfl, ub⟩; have Ub := hid (Ua.out.trans ub); obtain ⟨x0', x1'', x2', x3'', x4', x5'⟩ := SubAt.old Ub.out HA.out; obtain ⟨y0', y1', y2', y3', y4', y5'⟩ := SubAt.old Ub.out HB.out; clear ub) | (go_at_call 30; refine (K2.out _ (U0.trans Ub.out)).mono ?_; rintro o wd ⟨rfl, ud⟩; have Ud := hid (Ub.out.trans ud); clear ud))
  go_ret
  exact ⟨rfl, U0.trans Ud.out⟩
end Go.Proofs.YtbkklemhhdejpaaGreat
