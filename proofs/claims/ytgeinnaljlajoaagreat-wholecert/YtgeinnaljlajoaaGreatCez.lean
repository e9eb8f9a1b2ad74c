/- soundCert, walked; no condition. -/
import Derived.Test.YtgeinnaljlajoaaGreatCey
namespace Go.Proofs.YtgeinnaljlajoaaGreat
open Go.RowKit Go.Lib
set_option linter.unusedVariables false
set_option linter.unusedSimpArgs false
set_option maxRecDepth 20000
attribute [local go_sem] run_bits run_frombits run_store_float eqF
def oneD : Dn := ⟨1, ⟨1, 1, 0, none, none, none, 0, 0, 0, 0, 0, 0, fun _ => 0, fun _ => 0, fun _ => ⟨0, 0, false, false⟩⟩⟩
theorem one_or : orB (fun _ => oneD) 1 = true := by kernel_rfl
theorem oneD_row (w : World) (w1 : World) (e : w.alloc (.cells #[.int .i64 1, .int .i64 1, .int .i64 1, .int .i64 0, .slice none 0 0, .slice none 0 0, .slice none 0 0] 44) = w1) (m : Nat) (hm : w.heap.size = m) : DRow w1 (.slice (some ⟨m, 0, none⟩) 1 1) 1 (fun _ => oneD) := by
 subst e hm
 refine ⟨by omega, _, 1, rfl, by omega, by omega, fun i hi => ⟨w.heap.size, 0, rfl, ?_⟩⟩
 obtain rfl : i = 0 := by omega
 refine ⟨by simp [DnIn, oneD], ⟨⟨by simp [oneD], _, _, rfl, fun j hj => by simp [oneD] at hj⟩, ⟨by simp [oneD], _, _, rfl, fun j hj => by simp [oneD] at hj⟩, ⟨by simp [oneD], _, _, rfl, fun j hj => by simp [oneD] at hj⟩, by simp [oneD], by simp [oneD], by simp [oneD]⟩⟩
set_option maxHeartbeats 8000000 in
theorem sound_any (w : World) : Calls Tryz.prog 13 #[] w fun e w' => e = .returned (.bool true) ∧ Old w w' := by
 have HN := hid (fun (W : World) => cnew_any 4 0 W)
 have HOr := hid (fun (v : Value) (W : World) (h : DRow W v 1 (fun _ => oneD)) => order_any v 1 (fun _ => oneD) W h)
 rw [one_or] at HOr
 go_enter Tryz.func13, Tryz.ntmps13
 go_upto_region 4 with (go_at_call 6; refine (HN.out w).mono ?_; rintro e w1 ⟨cb, G, rfl, h1, o1, c1⟩; have H1 := hid h1; have O1 := hid o1; have C1 := hid c1; clear h1 o1 c1)
 have OkG := hid (show CpOk G.c from by rw [C1.out]; exact (new_ok 4 0).1)
 go_upto_region 5 with (go_at_call 8; refine (dec_one 1 4607182418800017408 4611686018427387904 _ _ (newC 4 0) (.inl rfl) (.inl ⟨rfl, rfl⟩) w cb G w1 H1.out OkG.out O1.out C1.out exs_a.1 exs_a.2).mono ?_; rintro e w2 ⟨G2, rfl, h2, u2, c2, -⟩; have H2 := hid h2; have U2 := hid u2; have C2 := hid c2; clear h2 u2 c2)
 have V3 := hid (alloc_at w2 (.cells #[.int .i64 0, .int .i64 1] 33))
 have U3 := hid (U2.out.trans ((Old.refl w2).alloc (.cells #[.int .i64 0, .int .i64 1] 33)))
 have H3 := hid (H2.out.old ((Old.refl w2).alloc (.cells #[.int .i64 0, .int .i64 1] 33)))
 have NV := hid (show w2.heap.size ∉ mblC cb G2 from fun q => absurd (H2.out.lt w2.heap.size q).2 (Nat.lt_irrefl _))
 generalize w2.alloc (.cells #[.int .i64 0, .int .i64 1] 33) = w3 at *
 generalize w2.heap.size = vb at *
 have Ok2 := hid (show CpOk G2.c from by rw [C2.out]; exact (dec_ok (new_ok 4 0).1 (new_ok 4 0).2 (Su.one_F _ _ _ W1 W2) 0).1)
 clear H1 H2 U2 O1 C1 OkG HN
 go_upto_region 6 with (go_at_call 8; refine (dec_one 2 4611686018427387904 4607182418800017408 _ _ exS1 (.inr rfl) (.inr ⟨rfl, rfl⟩) w cb G2 w3 H3.out Ok2.out U3.out C2.out exs_b.1 exs_b.2).mono ?_; rintro e w4 ⟨G4, rfl, -, u4, -, k4⟩; have V4 := hid (k4 _ _ V3.out NV.out); have U4 := hid u4; clear u4 k4)
 have V5 := hid (((Old.refl w4).alloc (.cells #[.int .i64 112, .int .i64 0] 33)).block V4.out)
 have X5 := hid (alloc_at w4 (.cells #[.int .i64 112, .int .i64 0] 33))
 have U5 := hid (U4.out.trans ((Old.refl w4).alloc (.cells #[.int .i64 112, .int .i64 0] 33)))
 generalize w4.alloc (.cells #[.int .i64 112, .int .i64 0] 33) = w5 at *
 generalize w4.heap.size = xb at *
 clear H3 V3 U3 U4 V4 Ok2 C2 NV
 go_upto_region 7 with (go_at_call 14; refine (HOr.out _ _ (oneD_row w5 _ rfl _ rfl)).mono ?_; rintro e w7 ⟨v7, rfl, -, u7⟩; have U7 := hid (((Old.refl w5).alloc (.cells #[.int .i64 1, .int .i64 1, .int .i64 1, .int .i64 0, .slice none 0 0, .slice none 0 0, .slice none 0 0] 44)).trans u7); clear u7)
 obtain ⟨⟨y0, y1⟩, -⟩ := box2V (U7.out.block V5.out)
 obtain ⟨⟨z0, z1⟩, -⟩ := box2V (U7.out.block X5.out)
 go_wp2
 go_ret
 exact ⟨rfl, U5.out.trans U7.out⟩
end Go.Proofs.YtgeinnaljlajoaaGreat
