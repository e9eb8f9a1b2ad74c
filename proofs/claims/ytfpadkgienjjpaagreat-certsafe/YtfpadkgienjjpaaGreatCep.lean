/- The law's own near; no condition. -/
import Derived.Test.YtfpadkgienjjpaaGreatCem
import Derived.Test.YtfpadkgienjjpaaGreatCeo
namespace Go.Proofs.YtfpadkgienjjpaaGreat
open Go.RowKit Go.Lib
set_option linter.unusedVariables false
set_option linter.unusedSimpArgs false
set_option maxRecDepth 20000
attribute [local go_sem] run_bits run_frombits run_store_float eqF
def nearB (an a3 bn b3 : Int) : Bool := !decide (an = bn) && decide (a3 < bn) && decide (b3 < an)
set_option maxHeartbeats 4000000 in
theorem near_any (a b : Dn) (w : World) : Calls Tryz.prog 17 #[.agg #[.int .i64 a.n, .int .i64 a.s.s1, .int .i64 a.s.s2, .int .i64 a.s.s3, .slice a.s.a1 a.s.n1 a.s.c1, .slice a.s.a2 a.s.n2 a.s.c2, .slice a.s.a3 a.s.n3 a.s.c3], .agg #[.int .i64 b.n, .int .i64 b.s.s1, .int .i64 b.s.s2, .int .i64 b.s.s3, .slice b.s.a1 b.s.n1 b.s.c1, .slice b.s.a2 b.s.n2 b.s.c2, .slice b.s.a3 b.s.n3 b.s.c3]] w fun e w' => e = .returned (.bool (nearB a.n a.s.s3 b.n b.s.s3)) ∧ Old w w' := by
 obtain ⟨an, a1, a2, a3, ap1, ap2, ap3, an1, an2, an3, ac1, ac2, ac3, ax1, ax3, af2⟩ := a
 obtain ⟨bn, b1, b2, b3, bp1, bp2, bp3, bn1, bn2, bn3, bc1, bc2, bc3, bx1, bx3, bf2⟩ := b
 dsimp only
 by_cases h1 : an = bn
 ·have d1 : (an != bn) = false := by simp [h1]
  have hr : nearB an a3 bn b3 = false := by unfold nearB; simp [h1]
  rw [hr]
  clear h1 hr
  go_enter Tryz.func17, Tryz.ntmps17
  go_upto_region 1 with fail
  have UA0 := hid (((Old.refl w).alloc (.cells #[.int .i64 an, .int .i64 a1, .int .i64 a2, .int .i64 a3, .slice ap1 an1 ac1, .slice ap2 an2 ac2, .slice ap3 an3 ac3] 45)).alloc (.cells #[.int .i64 bn, .int .i64 b1, .int .i64 b2, .int .i64 b3, .slice bp1 bn1 bc1, .slice bp2 bn2 bc2, .slice bp3 bn3 bc3] 45))
  have N0 := hid (two_newK w (.cells #[.int .i64 an, .int .i64 a1, .int .i64 a2, .int .i64 a3, .slice ap1 an1 ac1, .slice ap2 an2 ac2, .slice ap3 an3 ac3] 45) (.cells #[.int .i64 bn, .int .i64 b1, .int .i64 b2, .int .i64 b3, .slice bp1 bn1 bc1, .slice bp2 bn2 bc2, .slice bp3 bn3 bc3] 45))
  generalize (w.alloc (.cells #[.int .i64 an, .int .i64 a1, .int .i64 a2, .int .i64 a3, .slice ap1 an1 ac1, .slice ap2 an2 ac2, .slice ap3 an3 ac3] 45)).alloc (.cells #[.int .i64 bn, .int .i64 b1, .int .i64 b2, .int .i64 b3, .slice bp1 bn1 bc1, .slice bp2 bn2 bc2, .slice bp3 bn3 bc3] 45) = w0 at *
  generalize w.heap.size = ab at *
  obtain ⟨bb, hbb⟩ : ∃ bb, ab + 1 = bb := ⟨_, rfl⟩
  rw [hbb] at N0 ⊢
  clear hbb
  obtain ⟨x0, x1, x2, x3, x4, x5, x6⟩ := box7D N0.out.1
  obtain ⟨y0, y1, y2, y3, y4, y5, y6⟩ := box7D N0.out.2
  clear N0
  go_wp2
  go_ret
  exact ⟨rfl, UA0.out⟩
 ·have d1 : (an != bn) = true := by simp [h1]
  by_cases h2 : a3 < bn
  ·have d3 : decide (a3 < bn) = true := by simp [h2]
   have hr : nearB an a3 bn b3 = decide (b3 < an) := by unfold nearB; simp [h1, h2]
   rw [hr]
   clear hr
   go_enter Tryz.func17, Tryz.ntmps17
   go_upto_region 1 with fail
   have UA0 := hid (((Old.refl w).alloc (.cells #[.int .i64 an, .int .i64 a1, .int .i64 a2, .int .i64 a3, .slice ap1 an1 ac1, .slice ap2 an2 ac2, .slice ap3 an3 ac3] 45)).alloc (.cells #[.int .i64 bn, .int .i64 b1, .int .i64 b2, .int .i64 b3, .slice bp1 bn1 bc1, .slice bp2 bn2 bc2, .slice bp3 bn3 bc3] 45))
   have N0 := hid (two_newK w (.cells #[.int .i64 an, .int .i64 a1, .int .i64 a2, .int .i64 a3, .slice ap1 an1 ac1, .slice ap2 an2 ac2, .slice ap3 an3 ac3] 45) (.cells #[.int .i64 bn, .int .i64 b1, .int .i64 b2, .int .i64 b3, .slice bp1 bn1 bc1, .slice bp2 bn2 bc2, .slice bp3 bn3 bc3] 45))
   generalize (w.alloc (.cells #[.int .i64 an, .int .i64 a1, .int .i64 a2, .int .i64 a3, .slice ap1 an1 ac1, .slice ap2 an2 ac2, .slice ap3 an3 ac3] 45)).alloc (.cells #[.int .i64 bn, .int .i64 b1, .int .i64 b2, .int .i64 b3, .slice bp1 bn1 bc1, .slice bp2 bn2 bc2, .slice bp3 bn3 bc3] 45) = w0 at *
   generalize w.heap.size = ab at *
   obtain ⟨bb, hbb⟩ : ∃ bb, ab + 1 = bb := ⟨_, rfl⟩
   rw [hbb] at N0 ⊢
   clear hbb
   obtain ⟨x0, x1, x2, x3, x4, x5, x6⟩ := box7D N0.out.1
   obtain ⟨y0, y1, y2, y3, y4, y5, y6⟩ := box7D N0.out.2
   clear N0
   go_wp2
   go_ret
   exact ⟨rfl, UA0.out⟩
  ·have d3 : decide (a3 < bn) = false := by simp [h2]
   have hr : nearB an a3 bn b3 = false := by unfold nearB; simp [h1, h2]
   rw [hr]
   clear hr
   go_enter Tryz.func17, Tryz.ntmps17
   go_upto_region 1 with fail
   have UA0 := hid (((Old.refl w).alloc (.cells #[.int .i64 an, .int .i64 a1, .int .i64 a2, .int .i64 a3, .slice ap1 an1 ac1, .slice ap2 an2 ac2, .slice ap3 an3 ac3] 45)).alloc (.cells #[.int .i64 bn, .int .i64 b1, .int .i64 b2, .int .i64 b3, .slice bp1 bn1 bc1, .slice bp2 bn2 bc2, .slice bp3 bn3 bc3] 45))
   have N0 := hid (two_newK w (.cells #[.int .i64 an, .int .i64 a1, .int .i64 a2, .int .i64 a3, .slice ap1 an1 ac1, .slice ap2 an2 ac2, .slice ap3 an3 ac3] 45) (.cells #[.int .i64 bn, .int .i64 b1, .int .i64 b2, .int .i64 b3, .slice bp1 bn1 bc1, .slice bp2 bn2 bc2, .slice bp3 bn3 bc3] 45))
   generalize (w.alloc (.cells #[.int .i64 an, .int .i64 a1, .int .i64 a2, .int .i64 a3, .slice ap1 an1 ac1, .slice ap2 an2 ac2, .slice ap3 an3 ac3] 45)).alloc (.cells #[.int .i64 bn, .int .i64 b1, .int .i64 b2, .int .i64 b3, .slice bp1 bn1 bc1, .slice bp2 bn2 bc2, .slice bp3 bn3 bc3] 45) = w0 at *
   generalize w.heap.size = ab at *
   obtain ⟨bb, hbb⟩ : ∃ bb, ab + 1 = bb := ⟨_, rfl⟩
   rw [hbb] at N0 ⊢
   clear hbb
   obtain ⟨x0, x1, x2, x3, x4, x5, x6⟩ := box7D N0.out.1
   obtain ⟨y0, y1, y2, y3, y4, y5, y6⟩ := box7D N0.out.2
   clear N0
   go_wp2
   go_ret
   exact ⟨rfl, UA0.out⟩
end Go.Proofs.YtfpadkgienjjpaaGreat
