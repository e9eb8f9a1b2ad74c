/- sub.read where no submission's bytes stand: it ends by the Reader's own end; conditions: the Reader lies in memory, alive. -/
import Derived.Test.YtajoodkapiifcaaGreatIb
import Derived.Test.YtajoodkapiifcaaGreatScM
namespace Go.Proofs.YtajoodkapiifcaaGreat
open Go.RowKit Go.Lib
set_option linter.unusedVariables false
set_option linter.unusedSimpArgs false
set_option maxRecDepth 20000
attribute [local go_sem] run_bits run_frombits run_store_float eqF
set_option maxHeartbeats 4000000 in
theorem read_no1 (R b0 : Nat) (L : List Nat) (hL : LB L) (w : World) (h : RL w R b0 (L)) (hb : b0 ≠ R) (hR : R < w.heap.size) (hb0 : b0 < w.heap.size) (hn : tkN L = none) :
    Calls Tryz.prog 24 #[.pointer (some ⟨R, 0, none⟩)] w fun e w' => Ends R w e w' := by
 have HNo := hid (fun W (q : RL W R b0 L) => rdNum_no R b0 L W q hn)
 unfold Ends Pk.ended at HNo
 unfold Ends Pk.ended
 have HH := hid h
 clear h hn hL
 go_enter Tryz.func24, Tryz.ntmps24
 go_upto_region 1 with fail
 generalize hw1 : w.alloc (.cells #[.int .i64 0, .int .i64 0, .int .i64 0, .slice none 0 0, .slice none 0 0, .slice none 0 0] 28) = w1 at *
 generalize hrb : w.heap.size = rb at *
 have HB1 := hid (BX.new w w1 hw1 rb hrb)
 have HRB := hid hrb
 clear hw1 hrb
 go_upto_region 2 with fail
 generalize hw2 : w1.alloc (.cells #[.int .i64 0, .int .i64 0, .int .i64 0, .slice none 0 0, .slice none 0 0, .slice none 0 0] 28) = w2 at *
 generalize hsb : w1.heap.size = sb at *
 obtain ⟨hb2, hu2, hz2⟩ := BX.new w1 w2 hw2 sb hsb
 obtain ⟨hb1, hu1, hz1⟩ := HB1.out
 have hrb := HRB.out
 have HZ := hid (show sb = rb + 1 ∧ w.heap.size = rb ∧ R < rb ∧ b0 < rb ∧ w2.heap.size = rb + 2 from ⟨by omega, hrb, by omega, by omega, by omega⟩)
 have BR := hid (hb1.chg (S := []) (Pk.Chg.old hu2) (by simp))
 have BS := hid hb2
 have L0 := hid (HH.out.chg (S := []) (Pk.Chg.old (hu1.trans hu2)) (by simp) (by simp))
 have C0 := hid (show Pk.Chg [R] w w2 from Pk.Chg.old (hu1.trans hu2))
 have N1 := hid (show sb ∉ [R] by simp; have := HZ.out; omega)
 have N2 := hid (show rb ∉ [R] by simp; have := HZ.out; omega)
 clear hw2 hsb hrb hb1 hu1 hz1 hb2 hu2 hz2 HH HB1 HRB
 go_wp2_with (first | (go_at_call 47; first | (refine (HNo.out _ L0.out).mono ?_; rintro e yy ⟨rfl, rr, cc⟩; have FF := hid rr; have CC := hid (C0.out.trans cc); clear rr cc)))
 exact ⟨rfl, rfl, FF.out, CC.out⟩
set_option maxHeartbeats 4000000 in
theorem read_no2 (R b0 : Nat) (s1 : Int) (hs1 : (-9223372036854775808 ≤ s1 ∧ s1 ≤ 9223372036854775807)) (L : List Nat) (hL : LB L) (w : World) (h : RL w R b0 (Pk.numL s1 ++ (L))) (hb : b0 ≠ R) (hR : R < w.heap.size) (hb0 : b0 < w.heap.size) (hn : tkN L = none) :
    Calls Tryz.prog 24 #[.pointer (some ⟨R, 0, none⟩)] w fun e w' => Ends R w e w' := by
 have HN1 := hid (fun W L (q : RL W R b0 (Pk.numL s1 ++ L)) => rdNum R b0 s1 hs1.1 hs1.2 L W q hb)
 have HNo := hid (fun W (q : RL W R b0 L) => rdNum_no R b0 L W q hn)
 unfold Ends Pk.ended at HNo
 unfold Ends Pk.ended
 have HH := hid h
 clear h hn hL hs1
 go_enter Tryz.func24, Tryz.ntmps24
 go_upto_region 1 with fail
 generalize hw1 : w.alloc (.cells #[.int .i64 0, .int .i64 0, .int .i64 0, .slice none 0 0, .slice none 0 0, .slice none 0 0] 28) = w1 at *
 generalize hrb : w.heap.size = rb at *
 have HB1 := hid (BX.new w w1 hw1 rb hrb)
 have HRB := hid hrb
 clear hw1 hrb
 go_upto_region 2 with fail
 generalize hw2 : w1.alloc (.cells #[.int .i64 0, .int .i64 0, .int .i64 0, .slice none 0 0, .slice none 0 0, .slice none 0 0] 28) = w2 at *
 generalize hsb : w1.heap.size = sb at *
 obtain ⟨hb2, hu2, hz2⟩ := BX.new w1 w2 hw2 sb hsb
 obtain ⟨hb1, hu1, hz1⟩ := HB1.out
 have hrb := HRB.out
 have HZ := hid (show sb = rb + 1 ∧ w.heap.size = rb ∧ R < rb ∧ b0 < rb ∧ w2.heap.size = rb + 2 from ⟨by omega, hrb, by omega, by omega, by omega⟩)
 have BR := hid (hb1.chg (S := []) (Pk.Chg.old hu2) (by simp))
 have BS := hid hb2
 have L0 := hid (HH.out.chg (S := []) (Pk.Chg.old (hu1.trans hu2)) (by simp) (by simp))
 have C0 := hid (show Pk.Chg [R] w w2 from Pk.Chg.old (hu1.trans hu2))
 have N1 := hid (show sb ∉ [R] by simp; have := HZ.out; omega)
 have N2 := hid (show rb ∉ [R] by simp; have := HZ.out; omega)
 clear hw2 hsb hrb hb1 hu1 hz1 hb2 hu2 hz2 HH HB1 HRB
 go_wp2_with (first | (go_at_call 47; first | (refine (HN1.out _ _ L0.out).mono ?_; rintro e y1 ⟨rfl, r1, c1⟩; have M1 := hid r1; have C1 := hid (C0.out.trans c1); have S1 := hid (BS.out.chg c1 N1.out); have T1 := hid (BR.out.chg c1 N2.out); have Z1 := hid c1.size; clear r1 c1) | (refine (HNo.out _ M1.out).mono ?_; rintro e yy ⟨rfl, rr, cc⟩; have FF := hid rr; have CC := hid (C1.out.trans cc); clear rr cc)))
 exact ⟨rfl, rfl, FF.out, CC.out⟩
set_option maxHeartbeats 4000000 in
theorem read_no3 (R b0 : Nat) (s1 : Int) (hs1 : (-9223372036854775808 ≤ s1 ∧ s1 ≤ 9223372036854775807)) (s2 : Int) (hs2 : (-9223372036854775808 ≤ s2 ∧ s2 ≤ 9223372036854775807)) (L : List Nat) (hL : LB L) (w : World) (h : RL w R b0 (Pk.numL s1 ++ (Pk.numL s2 ++ (L)))) (hb : b0 ≠ R) (hR : R < w.heap.size) (hb0 : b0 < w.heap.size) (hn : tkN L = none) :
    Calls Tryz.prog 24 #[.pointer (some ⟨R, 0, none⟩)] w fun e w' => Ends R w e w' := by
 have HN1 := hid (fun W L (q : RL W R b0 (Pk.numL s1 ++ L)) => rdNum R b0 s1 hs1.1 hs1.2 L W q hb)
 have HN2 := hid (fun W L (q : RL W R b0 (Pk.numL s2 ++ L)) => rdNum R b0 s2 hs2.1 hs2.2 L W q hb)
 have HNo := hid (fun W (q : RL W R b0 L) => rdNum_no R b0 L W q hn)
 unfold Ends Pk.ended at HNo
 unfold Ends Pk.ended
 have HH := hid h
 clear h hn hL hs1 hs2
 go_enter Tryz.func24, Tryz.ntmps24
 go_upto_region 1 with fail
 generalize hw1 : w.alloc (.cells #[.int .i64 0, .int .i64 0, .int .i64 0, .slice none 0 0, .slice none 0 0, .slice none 0 0] 28) = w1 at *
 generalize hrb : w.heap.size = rb at *
 have HB1 := hid (BX.new w w1 hw1 rb hrb)
 have HRB := hid hrb
 clear hw1 hrb
 go_upto_region 2 with fail
 generalize hw2 : w1.alloc (.cells #[.int .i64 0, .int .i64 0, .int .i64 0, .slice none 0 0, .slice none 0 0, .slice none 0 0] 28) = w2 at *
 generalize hsb : w1.heap.size = sb at *
 obtain ⟨hb2, hu2, hz2⟩ := BX.new w1 w2 hw2 sb hsb
 obtain ⟨hb1, hu1, hz1⟩ := HB1.out
 have hrb := HRB.out
 have HZ := hid (show sb = rb + 1 ∧ w.heap.size = rb ∧ R < rb ∧ b0 < rb ∧ w2.heap.size = rb + 2 from ⟨by omega, hrb, by omega, by omega, by omega⟩)
 have BR := hid (hb1.chg (S := []) (Pk.Chg.old hu2) (by simp))
 have BS := hid hb2
 have L0 := hid (HH.out.chg (S := []) (Pk.Chg.old (hu1.trans hu2)) (by simp) (by simp))
 have C0 := hid (show Pk.Chg [R] w w2 from Pk.Chg.old (hu1.trans hu2))
 have N1 := hid (show sb ∉ [R] by simp; have := HZ.out; omega)
 have N2 := hid (show rb ∉ [R] by simp; have := HZ.out; omega)
 clear hw2 hsb hrb hb1 hu1 hz1 hb2 hu2 hz2 HH HB1 HRB
 go_wp2_with (first | (go_at_call 47; first | (refine (HN1.out _ _ L0.out).mono ?_; rintro e y1 ⟨rfl, r1, c1⟩; have M1 := hid r1; have C1 := hid (C0.out.trans c1); have S1 := hid (BS.out.chg c1 N1.out); have T1 := hid (BR.out.chg c1 N2.out); have Z1 := hid c1.size; clear r1 c1) | (refine (HN2.out _ _ M1.out).mono ?_; rintro e y2 ⟨rfl, r2, c2⟩; have M2 := hid r2; have C2 := hid (C1.out.trans c2); have S2 := hid (S1.out.chg c2 N1.out); have T2 := hid (T1.out.chg c2 N2.out); have Z2 := hid (Nat.le_trans Z1.out c2.size); clear r2 c2) | (refine (HNo.out _ M2.out).mono ?_; rintro e yy ⟨rfl, rr, cc⟩; have FF := hid rr; have CC := hid (C2.out.trans cc); clear rr cc)))
 exact ⟨rfl, rfl, FF.out, CC.out⟩
set_option maxHeartbeats 4000000 in
theorem read_no4 (R b0 : Nat) (s1 : Int) (hs1 : (-9223372036854775808 ≤ s1 ∧ s1 ≤ 9223372036854775807)) (s2 : Int) (hs2 : (-9223372036854775808 ≤ s2 ∧ s2 ≤ 9223372036854775807)) (s3 : Int) (hs3 : (-9223372036854775808 ≤ s3 ∧ s3 ≤ 9223372036854775807)) (L : List Nat) (hL : LB L) (w : World) (h : RL w R b0 (Pk.numL s1 ++ (Pk.numL s2 ++ (Pk.numL s3 ++ (L))))) (hb : b0 ≠ R) (hR : R < w.heap.size) (hb0 : b0 < w.heap.size) (hn : tkR 16 1 L = none) :
    Calls Tryz.prog 24 #[.pointer (some ⟨R, 0, none⟩)] w fun e w' => Ends R w e w' := by
 have HN1 := hid (fun W L (q : RL W R b0 (Pk.numL s1 ++ L)) => rdNum R b0 s1 hs1.1 hs1.2 L W q hb)
 have HN2 := hid (fun W L (q : RL W R b0 (Pk.numL s2 ++ L)) => rdNum R b0 s2 hs2.1 hs2.2 L W q hb)
 have HN3 := hid (fun W L (q : RL W R b0 (Pk.numL s3 ++ L)) => rdNum R b0 s3 hs3.1 hs3.2 L W q hb)
 have HNo := hid (fun W (q : RL W R b0 L) (z1 : R < W.heap.size) (z2 : b0 < W.heap.size) => readKeys_no R b0 16 L (by omega) W q hL hb z1 z2 hn)
 unfold Ends Pk.ended at HNo
 unfold Ends Pk.ended
 have HH := hid h
 clear h hn hL hs1 hs2 hs3
 go_enter Tryz.func24, Tryz.ntmps24
 go_upto_region 1 with fail
 generalize hw1 : w.alloc (.cells #[.int .i64 0, .int .i64 0, .int .i64 0, .slice none 0 0, .slice none 0 0, .slice none 0 0] 28) = w1 at *
 generalize hrb : w.heap.size = rb at *
 have HB1 := hid (BX.new w w1 hw1 rb hrb)
 have HRB := hid hrb
 clear hw1 hrb
 go_upto_region 2 with fail
 generalize hw2 : w1.alloc (.cells #[.int .i64 0, .int .i64 0, .int .i64 0, .slice none 0 0, .slice none 0 0, .slice none 0 0] 28) = w2 at *
 generalize hsb : w1.heap.size = sb at *
 obtain ⟨hb2, hu2, hz2⟩ := BX.new w1 w2 hw2 sb hsb
 obtain ⟨hb1, hu1, hz1⟩ := HB1.out
 have hrb := HRB.out
 have HZ := hid (show sb = rb + 1 ∧ w.heap.size = rb ∧ R < rb ∧ b0 < rb ∧ w2.heap.size = rb + 2 from ⟨by omega, hrb, by omega, by omega, by omega⟩)
 have BR := hid (hb1.chg (S := []) (Pk.Chg.old hu2) (by simp))
 have BS := hid hb2
 have L0 := hid (HH.out.chg (S := []) (Pk.Chg.old (hu1.trans hu2)) (by simp) (by simp))
 have C0 := hid (show Pk.Chg [R] w w2 from Pk.Chg.old (hu1.trans hu2))
 have N1 := hid (show sb ∉ [R] by simp; have := HZ.out; omega)
 have N2 := hid (show rb ∉ [R] by simp; have := HZ.out; omega)
 clear hw2 hsb hrb hb1 hu1 hz1 hb2 hu2 hz2 HH HB1 HRB
 go_upto_region 3 with (first | (go_at_call 47; first | (refine (HN1.out _ _ L0.out).mono ?_; rintro e y1 ⟨rfl, r1, c1⟩; have M1 := hid r1; have C1 := hid (C0.out.trans c1); have S1 := hid (BS.out.chg c1 N1.out); have T1 := hid (BR.out.chg c1 N2.out); have Z1 := hid c1.size; clear r1 c1) | (refine (HN2.out _ _ M1.out).mono ?_; rintro e y2 ⟨rfl, r2, c2⟩; have M2 := hid r2; have C2 := hid (C1.out.trans c2); have S2 := hid (S1.out.chg c2 N1.out); have T2 := hid (T1.out.chg c2 N2.out); have Z2 := hid (Nat.le_trans Z1.out c2.size); clear r2 c2) | (refine (HN3.out _ _ M2.out).mono ?_; rintro e y3 ⟨rfl, r3, c3⟩; have M3 := hid r3; have C3 := hid (C2.out.trans c3); have S3 := hid (S2.out.chg c3 N1.out); have T3 := hid (T2.out.chg c3 N2.out); have Z3 := hid (Nat.le_trans Z2.out c3.size); obtain ⟨⟨k0, k1, k2, k3, k4, k5⟩, kf⟩ := S3.out; have f0 := kf 0 (by omega); have f1 := kf 1 (by omega); have f2' := kf 2 (by omega); clear r3 c3 kf)))
 clear M1 C1 S1 T1 M2 C2 S2 T2 Z1 Z2 HN1 HN2 HN3 L0 C0 BS BR
 generalize hw4 : ((y3.setCell ⟨sb, 0, none⟩ (.int .i64 s1)).setCell ⟨sb, 1, none⟩ (.int .i64 s2)).setCell ⟨sb, 2, none⟩ (.int .i64 s3) = w4 at *
 have c4 : Pk.Chg [sb] y3 w4 := by rw [← hw4]; exact set012_chg _ _ _ _ _
 have S4 := hid (show BX w4 sb s1 s2 s3 (.slice none 0 0) (.slice none 0 0) (.slice none 0 0) from by rw [← hw4]; exact S3.out.set012 s1 s2 s3)
 have T4 := hid (T3.out.chg c4 (by simp; have := HZ.out; omega))
 have M4 := hid (M3.out.chg c4 (by simp; have := HZ.out; omega) (by simp; have := HZ.out; omega))
 have C4 := hid (C3.out.trans' c4 (by simp; have := HZ.out; omega))
 have Z4 := hid (show rb + 2 ≤ w4.heap.size by have := c4.size; have := Z3.out; have := HZ.out; omega)
 clear hw4 c4 S3 T3 M3 C3 Z3 k0 k1 k2 k3 k4 k5 f0 f1 f2'
 obtain ⟨⟨k0, k1, k2, k3, k4, k5⟩, kf⟩ := S4.out
 have f3 := kf 3 (by omega)
 have KF := hid kf
 clear kf
 go_wp2_with (first | (go_at_call 48; refine (HNo.out _ M4.out (by have := HZ.out; have := Z4.out; omega) (by have := HZ.out; have := Z4.out; omega)).mono ?_; rintro e yy ⟨rfl, rr, cc⟩; have FF := hid rr; have CC := hid (C4.out.trans cc); clear rr cc))
 exact ⟨rfl, rfl, FF.out, CC.out⟩
set_option maxHeartbeats 4000000 in
theorem read_no5 (R b0 : Nat) (s1 : Int) (hs1 : (-9223372036854775808 ≤ s1 ∧ s1 ≤ 9223372036854775807)) (s2 : Int) (hs2 : (-9223372036854775808 ≤ s2 ∧ s2 ≤ 9223372036854775807)) (s3 : Int) (hs3 : (-9223372036854775808 ≤ s3 ∧ s3 ≤ 9223372036854775807)) (n1 : Nat) (x1 : Nat → Nat) (hn1 : n1 ≤ 16) (hx1 : ∀ i, i < n1 → Fl.W (x1 i) ∧ Fl.canon (x1 i) = x1 i) (L : List Nat) (hL : LB L) (w : World) (h : RL w R b0 (Pk.numL s1 ++ (Pk.numL s2 ++ (Pk.numL s3 ++ (Pk.numL n1 ++ kRest x1 n1 0 L))))) (hb : b0 ≠ R) (hR : R < w.heap.size) (hb0 : b0 < w.heap.size) (hn : tkR 8 2 L = none) :
    Calls Tryz.prog 24 #[.pointer (some ⟨R, 0, none⟩)] w fun e w' => Ends R w e w' := by
 have HN1 := hid (fun W L (q : RL W R b0 (Pk.numL s1 ++ L)) => rdNum R b0 s1 hs1.1 hs1.2 L W q hb)
 have HN2 := hid (fun W L (q : RL W R b0 (Pk.numL s2 ++ L)) => rdNum R b0 s2 hs2.1 hs2.2 L W q hb)
 have HN3 := hid (fun W L (q : RL W R b0 (Pk.numL s3 ++ L)) => rdNum R b0 s3 hs3.1 hs3.2 L W q hb)
 have HK1 := hid (fun W L (q : RL W R b0 (Pk.numL n1 ++ kRest x1 n1 0 L)) (z1 : R < W.heap.size) (z2 : b0 < W.heap.size) => readKeys_ok R b0 n1 x1 16 (by omega) (by omega) hx1 L W q hb z1 z2)
 have HNo := hid (fun W (q : RL W R b0 L) (z1 : R < W.heap.size) (z2 : b0 < W.heap.size) => readSpans_no R b0 8 L (by omega) W q hL hb z1 z2 hn)
 unfold Ends Pk.ended at HNo
 unfold Ends Pk.ended
 generalize hL1 : Pk.numL n1 ++ kRest x1 n1 0 L = L1 at *
 have HL1 := hid hL1
 have HH := hid h
 clear hL1 h hn hL hs1 hs2 hs3 hx1 hn1
 go_enter Tryz.func24, Tryz.ntmps24
 go_upto_region 1 with fail
 generalize hw1 : w.alloc (.cells #[.int .i64 0, .int .i64 0, .int .i64 0, .slice none 0 0, .slice none 0 0, .slice none 0 0] 28) = w1 at *
 generalize hrb : w.heap.size = rb at *
 have HB1 := hid (BX.new w w1 hw1 rb hrb)
 have HRB := hid hrb
 clear hw1 hrb
 go_upto_region 2 with fail
 generalize hw2 : w1.alloc (.cells #[.int .i64 0, .int .i64 0, .int .i64 0, .slice none 0 0, .slice none 0 0, .slice none 0 0] 28) = w2 at *
 generalize hsb : w1.heap.size = sb at *
 obtain ⟨hb2, hu2, hz2⟩ := BX.new w1 w2 hw2 sb hsb
 obtain ⟨hb1, hu1, hz1⟩ := HB1.out
 have hrb := HRB.out
 have HZ := hid (show sb = rb + 1 ∧ w.heap.size = rb ∧ R < rb ∧ b0 < rb ∧ w2.heap.size = rb + 2 from ⟨by omega, hrb, by omega, by omega, by omega⟩)
 have BR := hid (hb1.chg (S := []) (Pk.Chg.old hu2) (by simp))
 have BS := hid hb2
 have L0 := hid (HH.out.chg (S := []) (Pk.Chg.old (hu1.trans hu2)) (by simp) (by simp))
 have C0 := hid (show Pk.Chg [R] w w2 from Pk.Chg.old (hu1.trans hu2))
 have N1 := hid (show sb ∉ [R] by simp; have := HZ.out; omega)
 have N2 := hid (show rb ∉ [R] by simp; have := HZ.out; omega)
 clear hw2 hsb hrb hb1 hu1 hz1 hb2 hu2 hz2 HH HB1 HRB
 go_upto_region 3 with (first | (go_at_call 47; first | (refine (HN1.out _ _ L0.out).mono ?_; rintro e y1 ⟨rfl, r1, c1⟩; have M1 := hid r1; have C1 := hid (C0.out.trans c1); have S1 := hid (BS.out.chg c1 N1.out); have T1 := hid (BR.out.chg c1 N2.out); have Z1 := hid c1.size; clear r1 c1) | (refine (HN2.out _ _ M1.out).mono ?_; rintro e y2 ⟨rfl, r2, c2⟩; have M2 := hid r2; have C2 := hid (C1.out.trans c2); have S2 := hid (S1.out.chg c2 N1.out); have T2 := hid (T1.out.chg c2 N2.out); have Z2 := hid (Nat.le_trans Z1.out c2.size); clear r2 c2) | (refine (HN3.out _ _ M2.out).mono ?_; rintro e y3 ⟨rfl, r3, c3⟩; have M3 := hid r3; have C3 := hid (C2.out.trans c3); have S3 := hid (S2.out.chg c3 N1.out); have T3 := hid (T2.out.chg c3 N2.out); have Z3 := hid (Nat.le_trans Z2.out c3.size); obtain ⟨⟨k0, k1, k2, k3, k4, k5⟩, kf⟩ := S3.out; have f0 := kf 0 (by omega); have f1 := kf 1 (by omega); have f2' := kf 2 (by omega); clear r3 c3 kf)))
 clear M1 C1 S1 T1 M2 C2 S2 T2 Z1 Z2 HN1 HN2 HN3 L0 C0 BS BR
 generalize hw4 : ((y3.setCell ⟨sb, 0, none⟩ (.int .i64 s1)).setCell ⟨sb, 1, none⟩ (.int .i64 s2)).setCell ⟨sb, 2, none⟩ (.int .i64 s3) = w4 at *
 have c4 : Pk.Chg [sb] y3 w4 := by rw [← hw4]; exact set012_chg _ _ _ _ _
 have S4 := hid (show BX w4 sb s1 s2 s3 (.slice none 0 0) (.slice none 0 0) (.slice none 0 0) from by rw [← hw4]; exact S3.out.set012 s1 s2 s3)
 have T4 := hid (T3.out.chg c4 (by simp; have := HZ.out; omega))
 have M4 := hid (M3.out.chg c4 (by simp; have := HZ.out; omega) (by simp; have := HZ.out; omega))
 have C4 := hid (C3.out.trans' c4 (by simp; have := HZ.out; omega))
 have Z4 := hid (show rb + 2 ≤ w4.heap.size by have := c4.size; have := Z3.out; have := HZ.out; omega)
 rw [← HL1.out] at M4
 clear hw4 c4 S3 T3 M3 C3 Z3 k0 k1 k2 k3 k4 k5 f0 f1 f2' HL1
 obtain ⟨⟨k0, k1, k2, k3, k4, k5⟩, kf⟩ := S4.out
 have f3 := kf 3 (by omega)
 have KF := hid kf
 clear kf
 go_upto_region 4 with (first | (go_at_call 48; refine (HK1.out _ _ M4.out (by have := HZ.out; have := Z4.out; omega) (by have := HZ.out; have := Z4.out; omega)).mono ?_; rintro e y5 ⟨vr5, rfl, o5, r5, c5⟩; obtain ⟨p1, q1, hv5⟩ := o5.len2; subst hv5; have O1a := hid (o5.mono2 (show rb + 2 ≤ w4.heap.size from Z4.out)); have M5a := hid r5; have S5a := hid (S4.out.chg c5 N1.out); have T5a := hid (T4.out.chg c5 N2.out); have C5a := hid (C4.out.trans c5); have Z5a := hid (Nat.le_trans Z4.out c5.size); obtain ⟨⟨j0, j1, j2, j3, j4, j5⟩, jf⟩ := S5a.out; have g3 := jf 3 (by omega); clear o5 r5 c5 jf))
 generalize hw5 : y5.setCell ⟨sb, 3, none⟩ (.slice p1 n1 q1) = w5 at *
 have c5 : Pk.Chg [sb] y5 w5 := by rw [← hw5]; exact Pk.Chg.set' _ ⟨sb, 3, none⟩ _
 have S5 := hid (show BX w5 sb s1 s2 s3 (.slice p1 n1 q1) (.slice none 0 0) (.slice none 0 0) from by rw [← hw5]; exact (S5a.out.setV _).1)
 have T5 := hid (T5a.out.chg c5 (by simp; have := HZ.out; omega))
 have M5 := hid (M5a.out.chg c5 (by simp; have := HZ.out; omega) (by simp; have := HZ.out; omega))
 have C5 := hid (C5a.out.trans' c5 (by simp; have := HZ.out; omega))
 have Z5 := hid (show rb + 2 ≤ w5.heap.size by have := c5.size; have := Z5a.out; omega)
 have O1x5 := hid (O1a.out.chg c5 (by simp; have := HZ.out; omega))
 clear hw5 c5 S5a T5a M5a C5a Z5a O1a j0 j1 j2 j3 j4 j5 k0 k1 k2 k3 k4 k5 g3 S4 T4 M4 C4 Z4
 obtain ⟨⟨k0, k1, k2, k3, k4, k5⟩, kf⟩ := S5.out
 clear kf
 go_wp2_with (first | (go_at_call 49; refine (HNo.out _ M5.out (by have := HZ.out; have := Z5.out; omega) (by have := HZ.out; have := Z5.out; omega)).mono ?_; rintro e yy ⟨rfl, rr, cc⟩; have FF := hid rr; have CC := hid (C5.out.trans cc); clear rr cc))
 exact ⟨rfl, rfl, FF.out, CC.out⟩
set_option maxHeartbeats 4000000 in
theorem read_no6 (R b0 : Nat) (s1 : Int) (hs1 : (-9223372036854775808 ≤ s1 ∧ s1 ≤ 9223372036854775807)) (s2 : Int) (hs2 : (-9223372036854775808 ≤ s2 ∧ s2 ≤ 9223372036854775807)) (s3 : Int) (hs3 : (-9223372036854775808 ≤ s3 ∧ s3 ≤ 9223372036854775807)) (n1 : Nat) (x1 : Nat → Nat) (hn1 : n1 ≤ 16) (hx1 : ∀ i, i < n1 → Fl.W (x1 i) ∧ Fl.canon (x1 i) = x1 i) (n2 : Nat) (f2 : Nat → Sp) (hn2 : n2 ≤ 8) (hf : (∀ i, i < n2 → (Fl.W (f2 i).a ∧ Fl.canon (f2 i).a = (f2 i).a) ∧ (Fl.W (f2 i).b ∧ Fl.canon (f2 i).b = (f2 i).b)) ∧ ∀ i, i < n2 → (f2 i).p = false ∧ (f2 i).q = false) (L : List Nat) (hL : LB L) (w : World) (h : RL w R b0 (Pk.numL s1 ++ (Pk.numL s2 ++ (Pk.numL s3 ++ (Pk.numL n1 ++ kRest x1 n1 0 (Pk.numL n2 ++ sRest f2 n2 0 L)))))) (hb : b0 ≠ R) (hR : R < w.heap.size) (hb0 : b0 < w.heap.size) (hn : tkR 16 1 L = none) :
    Calls Tryz.prog 24 #[.pointer (some ⟨R, 0, none⟩)] w fun e w' => Ends R w e w' := by
 have HN1 := hid (fun W L (q : RL W R b0 (Pk.numL s1 ++ L)) => rdNum R b0 s1 hs1.1 hs1.2 L W q hb)
 have HN2 := hid (fun W L (q : RL W R b0 (Pk.numL s2 ++ L)) => rdNum R b0 s2 hs2.1 hs2.2 L W q hb)
 have HN3 := hid (fun W L (q : RL W R b0 (Pk.numL s3 ++ L)) => rdNum R b0 s3 hs3.1 hs3.2 L W q hb)
 have HK1 := hid (fun W L (q : RL W R b0 (Pk.numL n1 ++ kRest x1 n1 0 L)) (z1 : R < W.heap.size) (z2 : b0 < W.heap.size) => readKeys_ok R b0 n1 x1 16 (by omega) (by omega) hx1 L W q hb z1 z2)
 have HK2 := hid (fun W L (q : RL W R b0 (Pk.numL n2 ++ sRest f2 n2 0 L)) (z1 : R < W.heap.size) (z2 : b0 < W.heap.size) => readSpans_ok R b0 n2 f2 8 (by omega) (by omega) hf.1 hf.2 L W q hb z1 z2)
 have HNo := hid (fun W (q : RL W R b0 L) (z1 : R < W.heap.size) (z2 : b0 < W.heap.size) => readKeys_no R b0 16 L (by omega) W q hL hb z1 z2 hn)
 unfold Ends Pk.ended at HNo
 unfold Ends Pk.ended
 generalize hL2 : Pk.numL n2 ++ sRest f2 n2 0 L = L2 at *
 generalize hL1 : Pk.numL n1 ++ kRest x1 n1 0 L2 = L1 at *
 have HL1 := hid hL1
 have HL2 := hid hL2
 have HH := hid h
 clear hL1 hL2 h hn hL hs1 hs2 hs3 hx1 hn1 hf hn2
 go_enter Tryz.func24, Tryz.ntmps24
 go_upto_region 1 with fail
 generalize hw1 : w.alloc (.cells #[.int .i64 0, .int .i64 0, .int .i64 0, .slice none 0 0, .slice none 0 0, .slice none 0 0] 28) = w1 at *
 generalize hrb : w.heap.size = rb at *
 have HB1 := hid (BX.new w w1 hw1 rb hrb)
 have HRB := hid hrb
 clear hw1 hrb
 go_upto_region 2 with fail
 generalize hw2 : w1.alloc (.cells #[.int .i64 0, .int .i64 0, .int .i64 0, .slice none 0 0, .slice none 0 0, .slice none 0 0] 28) = w2 at *
 generalize hsb : w1.heap.size = sb at *
 obtain ⟨hb2, hu2, hz2⟩ := BX.new w1 w2 hw2 sb hsb
 obtain ⟨hb1, hu1, hz1⟩ := HB1.out
 have hrb := HRB.out
 have HZ := hid (show sb = rb + 1 ∧ w.heap.size = rb ∧ R < rb ∧ b0 < rb ∧ w2.heap.size = rb + 2 from ⟨by omega, hrb, by omega, by omega, by omega⟩)
 have BR := hid (hb1.chg (S := []) (Pk.Chg.old hu2) (by simp))
 have BS := hid hb2
 have L0 := hid (HH.out.chg (S := []) (Pk.Chg.old (hu1.trans hu2)) (by simp) (by simp))
 have C0 := hid (show Pk.Chg [R] w w2 from Pk.Chg.old (hu1.trans hu2))
 have N1 := hid (show sb ∉ [R] by simp; have := HZ.out; omega)
 have N2 := hid (show rb ∉ [R] by simp; have := HZ.out; omega)
 clear hw2 hsb hrb hb1 hu1 hz1 hb2 hu2 hz2 HH HB1 HRB
 go_upto_region 3 with (first | (go_at_call 47; first | (refine (HN1.out _ _ L0.out).mono ?_; rintro e y1 ⟨rfl, r1, c1⟩; have M1 := hid r1; have C1 := hid (C0.out.trans c1); have S1 := hid (BS.out.chg c1 N1.out); have T1 := hid (BR.out.chg c1 N2.out); have Z1 := hid c1.size; clear r1 c1) | (refine (HN2.out _ _ M1.out).mono ?_; rintro e y2 ⟨rfl, r2, c2⟩; have M2 := hid r2; have C2 := hid (C1.out.trans c2); have S2 := hid (S1.out.chg c2 N1.out); have T2 := hid (T1.out.chg c2 N2.out); have Z2 := hid (Nat.le_trans Z1.out c2.size); clear r2 c2) | (refine (HN3.out _ _ M2.out).mono ?_; rintro e y3 ⟨rfl, r3, c3⟩; have M3 := hid r3; have C3 := hid (C2.out.trans c3); have S3 := hid (S2.out.chg c3 N1.out); have T3 := hid (T2.out.chg c3 N2.out); have Z3 := hid (Nat.le_trans Z2.out c3.size); obtain ⟨⟨k0, k1, k2, k3, k4, k5⟩, kf⟩ := S3.out; have f0 := kf 0 (by omega); have f1 := kf 1 (by omega); have f2' := kf 2 (by omega); clear r3 c3 kf)))
 clear M1 C1 S1 T1 M2 C2 S2 T2 Z1 Z2 HN1 HN2 HN3 L0 C0 BS BR
 generalize hw4 : ((y3.setCell ⟨sb, 0, none⟩ (.int .i64 s1)).setCell ⟨sb, 1, none⟩ (.int .i64 s2)).setCell ⟨sb, 2, none⟩ (.int .i64 s3) = w4 at *
 have c4 : Pk.Chg [sb] y3 w4 := by rw [← hw4]; exact set012_chg _ _ _ _ _
 have S4 := hid (show BX w4 sb s1 s2 s3 (.slice none 0 0) (.slice none 0 0) (.slice none 0 0) from by rw [← hw4]; exact S3.out.set012 s1 s2 s3)
 have T4 := hid (T3.out.chg c4 (by simp; have := HZ.out; omega))
 have M4 := hid (M3.out.chg c4 (by simp; have := HZ.out; omega) (by simp; have := HZ.out; omega))
 have C4 := hid (C3.out.trans' c4 (by simp; have := HZ.out; omega))
 have Z4 := hid (show rb + 2 ≤ w4.heap.size by have := c4.size; have := Z3.out; have := HZ.out; omega)
 rw [← HL1.out] at M4
 clear hw4 c4 S3 T3 M3 C3 Z3 k0 k1 k2 k3 k4 k5 f0 f1 f2' HL1
 obtain ⟨⟨k0, k1, k2, k3, k4, k5⟩, kf⟩ := S4.out
 have f3 := kf 3 (by omega)
 have KF := hid kf
 clear kf
 go_upto_region 4 with (first | (go_at_call 48; refine (HK1.out _ _ M4.out (by have := HZ.out; have := Z4.out; omega) (by have := HZ.out; have := Z4.out; omega)).mono ?_; rintro e y5 ⟨vr5, rfl, o5, r5, c5⟩; obtain ⟨p1, q1, hv5⟩ := o5.len2; subst hv5; have O1a := hid (o5.mono2 (show rb + 2 ≤ w4.heap.size from Z4.out)); have M5a := hid r5; have S5a := hid (S4.out.chg c5 N1.out); have T5a := hid (T4.out.chg c5 N2.out); have C5a := hid (C4.out.trans c5); have Z5a := hid (Nat.le_trans Z4.out c5.size); obtain ⟨⟨j0, j1, j2, j3, j4, j5⟩, jf⟩ := S5a.out; have g3 := jf 3 (by omega); clear o5 r5 c5 jf))
 generalize hw5 : y5.setCell ⟨sb, 3, none⟩ (.slice p1 n1 q1) = w5 at *
 have c5 : Pk.Chg [sb] y5 w5 := by rw [← hw5]; exact Pk.Chg.set' _ ⟨sb, 3, none⟩ _
 have S5 := hid (show BX w5 sb s1 s2 s3 (.slice p1 n1 q1) (.slice none 0 0) (.slice none 0 0) from by rw [← hw5]; exact (S5a.out.setV _).1)
 have T5 := hid (T5a.out.chg c5 (by simp; have := HZ.out; omega))
 have M5 := hid (M5a.out.chg c5 (by simp; have := HZ.out; omega) (by simp; have := HZ.out; omega))
 have C5 := hid (C5a.out.trans' c5 (by simp; have := HZ.out; omega))
 have Z5 := hid (show rb + 2 ≤ w5.heap.size by have := c5.size; have := Z5a.out; omega)
 have O1x5 := hid (O1a.out.chg c5 (by simp; have := HZ.out; omega))
 rw [← HL2.out] at M5
 clear hw5 c5 S5a T5a M5a C5a Z5a O1a j0 j1 j2 j3 j4 j5 k0 k1 k2 k3 k4 k5 g3 S4 T4 M4 C4 Z4
 obtain ⟨⟨k0, k1, k2, k3, k4, k5⟩, kf⟩ := S5.out
 clear kf
 go_upto_region 5 with (first | (go_at_call 49; refine (HK2.out _ _ M5.out (by have := HZ.out; have := Z5.out; omega) (by have := HZ.out; have := Z5.out; omega)).mono ?_; rintro e y6 ⟨vr6, rfl, o6, r6, c6⟩; obtain ⟨p2, q2, hv6⟩ := o6.len2; subst hv6; have O2a := hid (o6.mono2 (show rb + 2 ≤ w5.heap.size from Z5.out)); have O1b := hid (O1x5.out.chg c6 (by simp; have := HZ.out; have := Z5.out; omega)); have M6a := hid r6; have S6a := hid (S5.out.chg c6 N1.out); have T6a := hid (T5.out.chg c6 N2.out); have C6a := hid (C5.out.trans c6); have Z6a := hid (Nat.le_trans Z5.out c6.size); obtain ⟨⟨j0, j1, j2, j3, j4, j5⟩, jf⟩ := S6a.out; have g4 := jf 4 (by omega); clear o6 r6 c6 jf))
 generalize hw6 : y6.setCell ⟨sb, 4, none⟩ (.slice p2 n2 q2) = w6 at *
 have c6 : Pk.Chg [sb] y6 w6 := by rw [← hw6]; exact Pk.Chg.set' _ ⟨sb, 4, none⟩ _
 have S6 := hid (show BX w6 sb s1 s2 s3 (.slice p1 n1 q1) (.slice p2 n2 q2) (.slice none 0 0) from by rw [← hw6]; exact (S6a.out.setV _).2.1)
 have T6 := hid (T6a.out.chg c6 (by simp; have := HZ.out; omega))
 have M6 := hid (M6a.out.chg c6 (by simp; have := HZ.out; omega) (by simp; have := HZ.out; omega))
 have C6 := hid (C6a.out.trans' c6 (by simp; have := HZ.out; omega))
 have Z6 := hid (show rb + 2 ≤ w6.heap.size by have := c6.size; have := Z6a.out; omega)
 have O1x6 := hid (O1b.out.chg c6 (by simp; have := HZ.out; omega))
 clear O1b
 have O2x6 := hid (O2a.out.chg c6 (by simp; have := HZ.out; omega))
 clear hw6 c6 S6a T6a M6a C6a Z6a O2a j0 j1 j2 j3 j4 j5 k0 k1 k2 k3 k4 k5 g4 S5 T5 M5 C5 Z5
 obtain ⟨⟨k0, k1, k2, k3, k4, k5⟩, kf⟩ := S6.out
 clear kf
 go_wp2_with (first | (go_at_call 48; refine (HNo.out _ M6.out (by have := HZ.out; have := Z6.out; omega) (by have := HZ.out; have := Z6.out; omega)).mono ?_; rintro e yy ⟨rfl, rr, cc⟩; have FF := hid rr; have CC := hid (C6.out.trans cc); clear rr cc))
 exact ⟨rfl, rfl, FF.out, CC.out⟩
theorem kRest_atN (xs B : List Nat) (n : Nat) (h : xs.length = n) : kRest (atN xs) n 0 B = xs.flatMap keyB ++ B := by
 subst h
 unfold kRest
 rw [List.drop_zero, rl_atN]
theorem sRest_prs (ys B : List Nat) (n : Nat) (h : ys.length = n * 2) : sRest (atS (prs ys)) n 0 B = ys.flatMap keyB ++ B := by
 have e := prs_len n ys h
 unfold sRest
 rw [List.drop_zero, ← prs_flat n ys h]
 have q := rl_atS (prs ys)
 rw [e] at q
 rw [q]
theorem read_all (R b0 : Nat) (L : List Nat) (hL : LB L) (w : World) (h : RL w R b0 L) (hb : b0 ≠ R) (hR : R < w.heap.size) (hb0 : b0 < w.heap.size) :
    (∃ r B, tkSub L = some (r, B) ∧ r.Ok ∧ L = r.enc B) ∨ tkSub L = none ∧ Calls Tryz.prog 24 #[.pointer (some ⟨R, 0, none⟩)] w fun e w' => Ends R w e w' := by
 cases e : tkSub L with
 | some p =>
  obtain ⟨r, B⟩ := p
  have q := tkSub_some hL e
  exact .inl ⟨r, B, rfl, q.2.1, q.1⟩
 | none =>
  refine .inr ⟨rfl, ?_⟩
  unfold tkSub at e
  cases e1 : tkN L with
  | none => exact read_no1 R b0 L hL w h hb hR hb0 e1
  | some p1 =>
  obtain ⟨s1, A1⟩ := p1
  obtain ⟨rfl, b1, c1⟩ := tkN_some hL e1
  rw [e1] at e; simp only at e
  cases e2 : tkN A1 with
  | none => exact read_no2 R b0 s1 b1 A1 c1 w h hb hR hb0 e2
  | some p2 =>
  obtain ⟨s2, A2⟩ := p2
  obtain ⟨rfl, b2, c2⟩ := tkN_some c1 e2
  rw [e2] at e; simp only at e
  cases e3 : tkN A2 with
  | none => exact read_no3 R b0 s1 b1 s2 b2 A2 c2 w h hb hR hb0 e3
  | some p3 =>
  obtain ⟨s3, A3⟩ := p3
  obtain ⟨rfl, b3, c3⟩ := tkN_some c2 e3
  rw [e3] at e; simp only at e
  cases e4 : tkR 16 1 A3 with
  | none => exact read_no4 R b0 s1 b1 s2 b2 s3 b3 A3 c3 w h hb hR hb0 e4
  | some p4 =>
  obtain ⟨xs, A4⟩ := p4
  obtain ⟨m1, b4, l4, rfl, x4, c4⟩ := tkR_some c3 e4
  rw [e4] at e; simp only at e
  rw [Nat.mul_one] at l4
  rw [← kRest_atN xs A4 m1 l4] at h
  have g4 : ∀ i, i < m1 → Fl.W (atN xs i) ∧ Fl.canon (atN xs i) = atN xs i := fun i hi => x4 _ (atN_mem _ i (by omega))
  cases e5 : tkR 8 2 A4 with
  | none => exact read_no5 R b0 s1 b1 s2 b2 s3 b3 m1 (atN xs) b4 g4 A4 c4 w h hb hR hb0 e5
  | some p5 =>
  obtain ⟨ys, A5⟩ := p5
  obtain ⟨m2, b5, l5, rfl, x5, c5⟩ := tkR_some c4 e5
  rw [e5] at e; simp only at e
  rw [← sRest_prs ys A5 m2 l5] at h
  have q2 := prs_len m2 ys l5
  cases e6 : tkR 16 1 A5 with
  | none => exact read_no6 R b0 s1 b1 s2 b2 s3 b3 m1 (atN xs) b4 g4 m2 (atS (prs ys)) b5 ⟨fun i hi => (prs_all m2 ys l5 x5 _ (atS_mem _ i (by omega))).1, fun i hi => (prs_all m2 ys l5 x5 _ (atS_mem _ i (by omega))).2⟩ A5 c5 w h hb hR hb0 e6
  | some p6 => rw [e6] at e; cases e
end Go.Proofs.YtajoodkapiifcaaGreat
