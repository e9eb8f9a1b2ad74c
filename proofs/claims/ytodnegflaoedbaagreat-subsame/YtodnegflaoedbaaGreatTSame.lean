/- The law SubSame at every two submissions; conditions: the lengths fit. -/
import Derived.Test.YtodnegflaoedbaaGreatTB
namespace Go.Proofs.YtodnegflaoedbaaGreat
open Go.RowKit Go.Lib
set_option linter.unusedVariables false
set_option linter.unusedSimpArgs false
set_option maxRecDepth 20000
def smallS (g1 g2 g3 : Nat) : Sb := ⟨1, 2, 0, some ⟨g1, 0, none⟩, some ⟨g2, 0, none⟩, some ⟨g3, 0, none⟩, 2, 1, 1, 2, 1, 1, atN [4607182418800017408, 4613937818241073152], atN [4611686018427387904], atS [⟨4607182418800017408, 4613937818241073152, false, false⟩]⟩
theorem small_same (g1 g2 g3 j1 j2 j3 : Nat) : sameB (smallS g1 g2 g3) (smallS j1 j2 j3) = true := by
  have h1 : (smallS g1 g2 g3).chk = 0 := chk_small
  have h2 : (smallS j1 j2 j3).chk = 0 := chk_small
  have h3 : (smallS g1 g2 g3).enc = (smallS j1 j2 j3).enc := rfl
  unfold sameB
  rw [decide_eq_true h1, decide_eq_true h2, decide_eq_true h3]
  rfl
theorem same_small (w : World) (g1 g2 g3 j1 j2 j3 : Nat) (h : FRow w (.slice (some ⟨g1, 0, none⟩) 2 2) 2 (atN [4607182418800017408, 4613937818241073152]) ∧ SRow w (.slice (some ⟨g2, 0, none⟩) 1 1) 1 (atS [⟨4607182418800017408, 4613937818241073152, false, false⟩]) ∧ FRow w (.slice (some ⟨g3, 0, none⟩) 1 1) 1 (atN [4611686018427387904])) (k : FRow w (.slice (some ⟨j1, 0, none⟩) 2 2) 2 (atN [4607182418800017408, 4613937818241073152]) ∧ SRow w (.slice (some ⟨j2, 0, none⟩) 1 1) 1 (atS [⟨4607182418800017408, 4613937818241073152, false, false⟩]) ∧ FRow w (.slice (some ⟨j3, 0, none⟩) 1 1) 1 (atN [4611686018427387904])) :
    Calls Tryz.prog 18 #[.agg #[.int .i64 1, .int .i64 2, .int .i64 0, .slice (some ⟨g1, 0, none⟩) 2 2, .slice (some ⟨g2, 0, none⟩) 1 1, .slice (some ⟨g3, 0, none⟩) 1 1], .agg #[.int .i64 1, .int .i64 2, .int .i64 0, .slice (some ⟨j1, 0, none⟩) 2 2, .slice (some ⟨j2, 0, none⟩) 1 1, .slice (some ⟨j3, 0, none⟩) 1 1]] w fun e w' => e = .returned (.bool true) ∧ Old w w' := by
  have q := subSame_any (smallS g1 g2 g3) (smallS j1 j2 j3) w ⟨h.1, h.2.1, h.2.2, by simp [smallS], by simp [smallS], by simp [smallS]⟩ ⟨k.1, k.2.1, k.2.2, by simp [smallS], by simp [smallS], by simp [smallS]⟩
  rw [small_same] at q
  exact q
attribute [local go_sem] run_bits run_frombits run_store_float eqF
set_option maxHeartbeats 4000000 in
set_option maxRecDepth 20000 in
theorem samesLaw (a b : Sb) (w : World) (ha : a.Ok w) (hb : b.Ok w) :
    Calls Tryz.prog 7 #[.agg #[.int .i64 a.s1, .int .i64 a.s2, .int .i64 a.s3, .slice a.a1 a.n1 a.c1, .slice a.a2 a.n2 a.c2, .slice a.a3 a.n3 a.c3], .agg #[.int .i64 b.s1, .int .i64 b.s2, .int .i64 b.s3, .slice b.a1 b.n1 b.c1, .slice b.a2 b.n2 b.c2, .slice b.a3 b.n3 b.c3]] w fun e w' => e = .returned (.bool true) ∧ Old w w' := by
  have HS := hid (fun (W : World) (u : Old w W) => subSame_any a b W (ha.old u) (hb.old u))
  have HF := hid (fun (W : World) (u : Old w W) => refSameG a b W (ha.old u) (hb.old u))
  have HCa := hid (show ∀ (W : World), Old w W → Calls Tryz.prog 11 #[.agg #[.int .i64 a.s1, .int .i64 a.s2, .int .i64 a.s3, .slice a.a1 a.n1 a.c1, .slice a.a2 a.n2 a.c2, .slice a.a3 a.n3 a.c3]] W fun e w' => e = .returned (.int .i64 a.chk) ∧ Old W w' from fun W u => refChk_any _ _ _ _ _ _ _ _ _ _ _ _ _ _ _ W (ha.h1.old u) (ha.h2.old u) (ha.h3.old u))
  have HCb := hid (show ∀ (W : World), Old w W → Calls Tryz.prog 11 #[.agg #[.int .i64 b.s1, .int .i64 b.s2, .int .i64 b.s3, .slice b.a1 b.n1 b.c1, .slice b.a2 b.n2 b.c2, .slice b.a3 b.n3 b.c3]] W fun e w' => e = .returned (.int .i64 b.chk) ∧ Old W w' from fun W u => refChk_any _ _ _ _ _ _ _ _ _ _ _ _ _ _ _ W (hb.h1.old u) (hb.h2.old u) (hb.h3.old u))
  have HE := hid (sameB_ref a b w ha hb)
  clear ha hb
  generalize sameB a b = r at *
  generalize refB a b = r2 at *
  generalize a.chk = ka at *
  generalize b.chk = kb at *
  go_enter Tryz.func7, Tryz.ntmps7
  go_upto_region 1 with fail
  generalize hw1 : (w.alloc (.cells #[.int .i64 a.s1, .int .i64 a.s2, .int .i64 a.s3, .slice a.a1 a.n1 a.c1, .slice a.a2 a.n2 a.c2, .slice a.a3 a.n3 a.c3] 25)).alloc (.cells #[.int .i64 b.s1, .int .i64 b.s2, .int .i64 b.s3, .slice b.a1 b.n1 b.c1, .slice b.a2 b.n2 b.c2, .slice b.a3 b.n3 b.c3] 25) = w1 at *
  have HW := hid (two_new w a b w1 hw1 _ rfl)
  generalize w.heap.size = m at *
  clear hw1
  go_upto_region 3 with (first | (go_at_call 9; refine (coding_any _).mono ?_; rintro e w2 ⟨rfl, u2⟩; have U2 := hid u2; clear u2) | (go_at_call 23; first | (refine (small_any w2).mono ?_; rintro e w3 ⟨g1, g2, g3, rfl, s3, u3⟩; have S3 := hid s3; have U3 := hid (U2.out.trans u3); clear s3 u3) | (refine (small_any w3).mono ?_; rintro e w4 ⟨j1, j2, j3, rfl, s4, u4⟩; have Q4 := hid (same_small w4 g1 g2 g3 j1 j2 j3 ⟨S3.out.1.old u4, S3.out.2.1.old u4, S3.out.2.2.old u4⟩ s4); have U4 := hid (U3.out.trans u4); clear s4 u4)) | (go_at_call 18; refine Q4.out.mono ?_; rintro e w5 ⟨rfl, u5⟩; have U5 := hid (U4.out.trans u5); clear u5))
  have HW5 := hid (And.intro (SubAt.old U5.out HW.out.1) (SubAt.old U5.out HW.out.2.1))
  have V5 := hid (HW.out.2.2.trans U5.out)
  clear HW U2 U3 U4 U5 S3 Q4
  obtain ⟨⟨t0, t1, t2, t3, t4, t5⟩, ⟨u0, u1, u2, u3, u4, u5⟩⟩ := HW5.out
  by_cases ca : ka = 0
  · have ca2 : (ka == 0) = true := by rw [beq_iff_eq]; exact ca
    rw [decide_eq_true ca, Bool.true_and] at HE
    clear ca
    by_cases cb : kb = 0
    · have cb2 : (kb == 0) = true := by rw [beq_iff_eq]; exact cb
      rw [decide_eq_true cb, Bool.true_and] at HE
      clear cb
      go_upto_region 4 with (first | (go_at_call_of 11 (Value.agg #[.int .i64 a.s1, .int .i64 a.s2, .int .i64 a.s3, .slice a.a1 a.n1 a.c1, .slice a.a2 a.n2 a.c2, .slice a.a3 a.n3 a.c3]); refine (HCa.out _ V5.out).mono ?_; rintro e w6 ⟨rfl, u6⟩; have V6 := hid (V5.out.trans u6); have HW6 := hid (And.intro (SubAt.old u6 HW5.out.1) (SubAt.old u6 HW5.out.2)); clear u6; obtain ⟨_, z0, z1, z2, z3, z4, z5⟩ := HW6.out) | (go_at_call 11; refine (HCb.out _ V6.out).mono ?_; rintro e w7 ⟨rfl, u7⟩; have V7 := hid (V6.out.trans u7); have HW7 := hid (And.intro (SubAt.old u7 HW6.out.1) (SubAt.old u7 HW6.out.2)); clear u7))
      clear t0 t1 t2 t3 t4 t5 u0 u1 u2 u3 u4 u5 z0 z1 z2 z3 z4 z5
      obtain ⟨⟨t0, t1, t2, t3, t4, t5⟩, ⟨u0, u1, u2, u3, u4, u5⟩⟩ := HW7.out
      go_wp2_with (first | (go_at_call 18; refine (HS.out _ V7.out).mono ?_; rintro e w8 ⟨rfl, u8⟩; have V8 := hid (V7.out.trans u8); obtain ⟨⟨x0, x1, x2, x3, x4, x5⟩, ⟨y0, y1, y2, y3, y4, y5⟩⟩ := And.intro (SubAt.old u8 HW7.out.1) (SubAt.old u8 HW7.out.2); clear u8) | (go_at_call 15; refine (HF.out _ V8.out).mono ?_; rintro e w9 ⟨rfl, u9⟩; have V9 := hid (V8.out.trans u9); clear u9))
      go_ret
      exact ⟨ret_b (by rw [HE.out]; simp), V9.out⟩
    · have cb2 : (kb == 0) = false := by rw [beq_eq_false_iff_ne]; exact cb
      rw [decide_eq_false cb, Bool.false_and] at HE
      clear cb
      go_upto_region 4 with (first | (go_at_call_of 11 (Value.agg #[.int .i64 a.s1, .int .i64 a.s2, .int .i64 a.s3, .slice a.a1 a.n1 a.c1, .slice a.a2 a.n2 a.c2, .slice a.a3 a.n3 a.c3]); refine (HCa.out _ V5.out).mono ?_; rintro e w6 ⟨rfl, u6⟩; have V6 := hid (V5.out.trans u6); have HW6 := hid (And.intro (SubAt.old u6 HW5.out.1) (SubAt.old u6 HW5.out.2)); clear u6; obtain ⟨_, z0, z1, z2, z3, z4, z5⟩ := HW6.out) | (go_at_call 11; refine (HCb.out _ V6.out).mono ?_; rintro e w7 ⟨rfl, u7⟩; have V7 := hid (V6.out.trans u7); have HW7 := hid (And.intro (SubAt.old u7 HW6.out.1) (SubAt.old u7 HW6.out.2)); clear u7))
      clear t0 t1 t2 t3 t4 t5 u0 u1 u2 u3 u4 u5 z0 z1 z2 z3 z4 z5
      obtain ⟨⟨t0, t1, t2, t3, t4, t5⟩, ⟨u0, u1, u2, u3, u4, u5⟩⟩ := HW7.out
      go_wp2_with (first | (go_at_call 18; refine (HS.out _ V7.out).mono ?_; rintro e w8 ⟨rfl, u8⟩; have V8 := hid (V7.out.trans u8); clear u8))
      go_ret
      exact ⟨ret_b (by rw [HE.out]; simp), V8.out⟩
  · have ca2 : (ka == 0) = false := by rw [beq_eq_false_iff_ne]; exact ca
    rw [decide_eq_false ca, Bool.false_and, Bool.false_and] at HE
    clear ca
    go_upto_region 4 with (first | (go_at_call 11; refine (HCa.out _ V5.out).mono ?_; rintro e w6 ⟨rfl, u6⟩; have V6 := hid (V5.out.trans u6); have HW6 := hid (And.intro (SubAt.old u6 HW5.out.1) (SubAt.old u6 HW5.out.2)); clear u6))
    clear t0 t1 t2 t3 t4 t5 u0 u1 u2 u3 u4 u5
    obtain ⟨⟨t0, t1, t2, t3, t4, t5⟩, ⟨u0, u1, u2, u3, u4, u5⟩⟩ := HW6.out
    go_wp2_with (first | (go_at_call 18; refine (HS.out _ V6.out).mono ?_; rintro e w8 ⟨rfl, u8⟩; have V8 := hid (V6.out.trans u8); clear u8))
    go_ret
    exact ⟨ret_b (by rw [HE.out]; simp), V8.out⟩
end Go.Proofs.YtodnegflaoedbaaGreat
