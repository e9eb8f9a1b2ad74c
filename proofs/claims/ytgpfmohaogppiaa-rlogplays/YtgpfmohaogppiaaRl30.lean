/- The law RlogPlays, walked; conditions: its arguments lie in memory. -/
import Derived.Test.YtgpfmohaogppiaaRl29
namespace Go.Proofs.Ytgpfmohaogppiaa
open Go.RowKit Go.Lib
set_option linter.unusedVariables false
set_option linter.unusedSimpArgs false
set_option maxRecDepth 20000
theorem Both.start {w W0 w2 w3 : World} {lb : Nat} {G : Lg} {ci ct : Int} {p1 p2 : Option Addr} {n1 n2 c1 c2 : Nat} {f1 f2 : Nat → Int} (u0 : Old w W0) (l : LogP W0.heap.size lb G ⟨ci, ct, [], lsI f1 n1, lsI f2 n2⟩ w2) (u2 : Old W0 w2) (u3 : Old w2 w3) (d : DocP ⟨ci, ct, [], lsI f1 n1, lsI f2 n2⟩ ⟨p1, c1, p2, c2, none, 0, []⟩ w3) (h1 : NRowL w (.slice p1 n1 c1) n1 f1) (h2 : NRowL w (.slice p2 n2 c2) n2 f2) :
    Both W0 lb w3.heap.size G ⟨ci, ct, [], lsI f1 n1, lsI f2 n2⟩ ⟨p1, c1, p2, c2, none, 0, []⟩ (w3.alloc (.cells #[.int .i64 ci, .int .i64 ct, .slice p1 n1 c1, .slice p2 n2 c2, .slice none 0 0] 54)) := by
  have u4 : Old w3 (w3.alloc (.cells #[.int .i64 ci, .int .i64 ct, .slice p1 n1 c1, .slice p2 n2 c2, .slice none 0 0] 54)) := (Old.refl w3).alloc _
  have s0 := u0.size
  have s3 := (u2.trans u3).size
  refine ⟨l.old (u3.trans u4), d.old u4, ?_, ⟨⟨fun h0 => by simp at h0, fun x hx => by cases hx⟩, fun h0 g e q => ?_, fun h0 g e q => ?_⟩, (u2.trans u3).trans u4, s3⟩
  · have := alloc_at w3 (.cells #[.int .i64 ci, .int .i64 ct, .slice p1 n1 c1, .slice p2 n2 c2, .slice none 0 0] 54)
    unfold Dg.v1 Dg.v2 Dg.ve
    dsimp only
    rw [lsI_len, lsI_len]
    exact this
  · dsimp only at h0
    rw [lsI_len] at h0
    unfold Dg.v1 at e
    dsimp only at e
    rw [lsI_len] at e
    have := h1.lt h0 g e
    rcases List.mem_cons.1 q with rfl | q
    · omega
    · have := (l.m.lt g q).1; omega
  · dsimp only at h0
    rw [lsI_len] at h0
    unfold Dg.v2 at e
    dsimp only at e
    rw [lsI_len] at e
    have := h2.lt h0 g e
    rcases List.mem_cons.1 q with rfl | q
    · omega
    · have := (l.m.lt g q).1; omega
set_option maxHeartbeats 16000000 in
set_option maxRecDepth 20000 in
theorem playsLaw (index term : Int) (v1 v2 : Value) (n1 n2 : Nat) (f1 f2 : Nat → Int) (vs : Value) (n : Nat) (f : Nat → Opr) (at_ most : Int) (w : World) (h1 : NRowL w v1 n1 f1) (h2 : NRowL w v2 n2 f2) (hO : ORRow w vs n f) :
    Calls Try.prog 5 #[.int .i64 index, .int .i64 term, .agg #[v1, v2], vs, .int .i64 at_, .int .i64 most] w fun e w' => e = .returned (.bool true) ∧ Old w w' := by
  have HNw := hid (fun (W : World) (u : Old w W) => new_any index term v1 v2 n1 n2 f1 f2 W (h1.old u) (h2.old u))
  have HH1 := hid h1
  have HH2 := hid h2
  obtain ⟨_, p1, c1, rfl, _⟩ := h1
  obtain ⟨_, p2, c2, rfl, _⟩ := h2
  have HRn := hid (fun (W : World) (u : Old w W) => rNew_any index term p1 p2 c1 c2 n1 n2 f1 f2 W (HH1.out.old u) (HH2.out.old u))
  have HV := hid (show DV ⟨clampI index, clampI term, [], lsI f1 n1, lsI f2 n2⟩ ⟨p1, c1, p2, c2, none, 0, []⟩ = .agg #[.int .i64 (clampI index), .int .i64 (clampI term), .slice p1 n1 c1, .slice p2 n2 c2, .slice none 0 0] from by unfold DV Dg.v1 Dg.v2 Dg.ve; rw [lsI_len, lsI_len]; rfl)
  rw [HV.out] at HRn
  clear HV
  generalize hci : clampI index = ci at *
  generalize hct : clampI term = ct at *
  have HCI := hid hci
  have HCT := hid hct
  clear hci hct
  obtain ⟨hn, pa, pc, rfl, hnc, hcm, hOp⟩ := hO
  have HOp := hid hOp
  have hnn : (n : Int) ≤ 2932031007402 := by omega
  clear hOp
  go_enter Try.func5, Try.ntmps5
  go_upto_region 1 with (fail)
  have U0 := hid ((Old.refl w).alloc (.cells #[.slice p1 n1 c1, .slice p2 n2 c2] 24))
  have B0 := hid (alloc_at w (.cells #[.slice p1 n1 c1, .slice p2 n2 c2] 24))
  generalize w.alloc (.cells #[.slice p1 n1 c1, .slice p2 n2 c2] 24) = W0 at *
  generalize w.heap.size = cb at *
  have HNn := hid (HNw.out W0 U0.out)
  obtain ⟨z0, z1⟩ := box2 B0.out
  go_upto_region 4 with (first | (go_at_call 6; refine HNn.out.mono ?_; rintro e w1 ⟨lb, gc, u1, u2, rfl, o1, m1, k1⟩; have O1 := hid o1; have L1 := hid (show LogP W0.heap.size lb _ ⟨ci, ct, [], lsI f1 n1, lsI f2 n2⟩ w1 from by rw [← HCI.out, ← HCT.out]; exact ⟨m1, ⟨rfl, rfl, rfl, rfl, k1.sm⟩, ⟨k1.i0, k1.i1, k1.t0, k1.t1, trivial⟩⟩); clear o1 m1 k1) | (go_at_call 7; refine (alive_any _).mono ?_; rintro e w2 ⟨rfl, o2⟩; have O2 := hid (O1.out.trans o2); have L2 := hid (L1.out.old o2); clear o2))
  clear z0 z1 HNw HNn L1 O1
  obtain ⟨z0, z1⟩ := box2 (O2.out.block B0.out)
  have HRm := hid (HRn.out w2 (U0.out.trans O2.out))
  clear HRn
  go_upto_region 5 with (go_at_call 23; refine HRm.out.mono ?_; rintro e w3 ⟨rfl, d3, o3⟩; have O3 := hid (O2.out.trans o3); have HB := hid (Both.start U0.out L2.out O2.out o3 d3 HH1.out HH2.out); clear d3 o3)
  clear z0 z1 B0 HRm L2 O2 O3
  obtain ⟨P0, hP0⟩ : ∃ P0 : PL, P0 = ⟨ci, ct, [], lsI f1 n1, lsI f2 n2⟩ := ⟨_, rfl⟩
  rw [← hP0] at HB
  clear hP0
  generalize w3.alloc (.cells #[.int .i64 ci, .int .i64 ct, .slice p1 n1 c1, .slice p2 n2 c2, .slice none 0 0] 54) = w4 at *
  generalize w3.heap.size = mb at *
  clear HCI HCT HH1 HH2
  go_wp2
  go_loopw [39] (fun i wx => ∃ (k : Nat) (G : Lg) (P : PL) (D : Dg), k ≤ n ∧ i = .int .i64 (k : Nat) ∧ Hid (Both W0 lb mb G P D wx)) (fun i _ => n - (intOf i).toNat)
  case atStart => exact ⟨0, _, _, _, Nat.zero_le _, rfl, HB⟩
  case round =>
    obtain ⟨k, G, P, D, hk, rfl, HI⟩ := hrel
    clear HB
    by_cases hlt : k < n
    · obtain ⟨bb, oo, e1, hok, hcs⟩ := HOp.out k hlt
      subst e1
      have y0 := (U0.out.trans HI.out.u).keep ((hcs 0 (by omega)).trans (show _ = some _ from rfl))
      have y1 := (U0.out.trans HI.out.u).keep ((hcs 1 (by omega)).trans (show _ = some _ from rfl))
      have y2 := (U0.out.trans HI.out.u).keep ((hcs 2 (by omega)).trans (show _ = some _ from rfl))
      have y3 := (U0.out.trans HI.out.u).keep ((hcs 3 (by omega)).trans (show _ = some _ from rfl))
      rw [Nat.add_zero] at y0
      have HER := hid hok.2.1
      have hzn := hok.1
      clear hcs hok
      generalize f k = E at *
      obtain ⟨ok, on, ob0, ov, oX⟩ := E
      dsimp only at y0 y1 y2 y3 HER hzn
      obtain ⟨-, ⟨op, oc, rfl, -⟩, -⟩ := HER.out
      have l1 : (0 : Int) ≤ (k : Int) := by omega
      have l2 : (k : Int) < (n : Int) := by omega
      obtain ⟨hz1, hz2⟩ := and15 on
      have hP0 := HI.out.l.ok.i0
      have hP1 := HI.out.l.ok.i1
      obtain ⟨xl, hxl⟩ : ∃ xl, oX.length = xl := ⟨_, rfl⟩
      rw [hxl] at y3
      have HER2 := hid (show ERow w (.slice op xl oc) oX from by rw [← hxl]; exact HER.out)
      clear hxl HER
      have O4 := hid ((Old.refl wr).alloc (.cells #[.int .i64 ok, .int .i64 on, .bool ob0, .slice op xl oc] 31))
      have B4 := hid (alloc_at wr (.cells #[.int .i64 ok, .int .i64 on, .bool ob0, .slice op xl oc] 31))
      go_upto_region 8 with (fail)
      have HB4 := hid (HI.out.old O4.out)
      generalize wr.alloc (.cells #[.int .i64 ok, .int .i64 on, .bool ob0, .slice op xl oc] 31) = w5 at *
      generalize wr.heap.size = obx at *
      clear y0 y1 y2 y3 O4
      obtain ⟨x0, x1, x2, x3, -⟩ := box4 B4.out
      have HDl := hid (rLast_any P D w5 HB4.out.d)
      unfold DV Dg.v1 Dg.v2 Dg.ve at HDl
      have HB5 := hid HB4.out.b
      unfold Dg.v1 Dg.v2 Dg.ve at HB5
      obtain ⟨⟨q0, q1, q2, q3, q4⟩, -⟩ := box5 HB5.out
      have HO4 := hid HOp
      obtain ⟨pix, hpix⟩ : ∃ pix, P.ix = pix := ⟨_, rfl⟩
      obtain ⟨ptm, hptm⟩ : ∃ ptm, P.tm = ptm := ⟨_, rfl⟩
      obtain ⟨li, hli⟩ : ∃ li, lI P = li := ⟨_, rfl⟩
      have HPI := hid hpix
      have HPT := hid hptm
      have HLI := hid hli
      rw [hpix] at HDl HB5 q0 hP0 hP1
      rw [hptm] at HDl HB5 q1
      rw [hli] at HDl
      clear hpix hptm hli HI
      cases ob0
      · go_upto_region 11 with (fail)
        obtain ⟨nz, hnz⟩ : ∃ nz, on = nz := ⟨_, rfl⟩
        have hn63 : nz ≤ 9223372036854775807 := by rw [← hnz]; omega
        rw [hnz]
        have HN63 := hid hn63
        clear hnz hz1 hz2 hn63 hzn hP0 hP1 x1 x2
        go_upto_region 13 with (go_at_call 24; refine HDl.out.mono ?_; rintro e w6 ⟨rfl, o6⟩; have HB6 := hid (HB4.out.old o6); have B6 := hid (o6.block B4.out); clear o6)
        clear HDl q0 q1 q2 q3 q4 x0 x3 B4 HB4
        obtain ⟨x0, x1, x2, x3, -⟩ := box4 B6.out
        clear x1 x2 B6 HB5
        by_cases c1 : ok = 1
        · subst c1
          have HPt := hid (lawPut_any (.slice op xl oc) oX li w6 (HER2.out.old (U0.out.trans HB6.out.u)))
          have HFp := hid (fun (v : Value) (hv : ∀ g, v.ownBlock = some g → w6.heap.size ≤ g) => far_put (l := li) U0.out HB6.out.l HER2.out hv)
          have HE0 := hid (show ∀ x ∈ putL li oX, 0 < x.d.length → ∀ g, x.s.ownBlock = some g → g < W0.heap.size from fun x hx h0 g e => by obtain ⟨y, hy, e1, e2⟩ := putL_mem _ _ _ hx; rw [e1] at e; rw [e2] at h0; have := (HER2.out.2.2 y hy).lt h0 g e; have := U0.out.size; omega)
          have HLL := hid (show lstI P.ix P.es = li from HLI.out)
          go_upto_region 16 with (go_at_call 11; refine HPt.out.mono ?_; rintro e w5' ⟨v5, rfl, r5, o5, n5⟩; have HB7 := hid (HB6.out.old o5); have R5 := hid r5; have F5 := hid (HFp.out v5 n5); obtain ⟨-, ⟨pp, cc5, ev, -⟩, -⟩ := r5; subst ev; clear o5 n5)
          clear HPt HFp HB6 x3
          have HAp := hid (append_any W0.heap.size lb G P _ (putL li oX) w5' HB7.out.l R5.out F5.out)
          obtain ⟨F, hF⟩ : ∃ F, flt (lstI P.ix P.es) (lstT P.tm P.es) (putL li oX) = F := ⟨_, rfl⟩
          have HFl := hid (show flt (lI P) (lT P) (putL li oX) = F from hF)
          rw [hF] at HAp
          clear hF
          obtain ⟨P7, hP7⟩ : ∃ P7, appF P (putL li oX) = P7 := ⟨_, rfl⟩
          have HP7 := hid hP7
          rw [hP7] at HAp
          clear hP7
          obtain ⟨Y, hY⟩ : ∃ Y, putL li oX = Y := ⟨_, rfl⟩
          rw [hY] at R5 F5 HE0 HFl HP7
          rw [hY] at HAp
          obtain ⟨yl, hyl⟩ : ∃ yl, Y.length = yl := ⟨_, rfl⟩
          try rw [hY]
          rw [hyl] at R5 F5 HAp ⊢
          clear hY hyl
          go_upto_region 17 with (go_at_call 10; refine HAp.out.mono ?_; rintro e w7 ⟨rfl, G7, l7, m7⟩; have L7 := hid l7; have M7 := hid m7; have HQ := hid (HB7.out.log m7); have R7 := hid (R5.out.chg m7.1 F5.out); clear l7 m7)
          clear HAp F5 R5
          have HDA := hid (rAppend_any P D _ Y w7 HQ.out.1 R7.out)
          unfold RPost DV Dg.v1 Dg.v2 Dg.ve at HDA
          rw [HFl.out, HP7.out, HPI.out, HPT.out] at HDA
          have HBx := hid HQ.out.2.1
          unfold Dg.v1 Dg.v2 Dg.ve at HBx
          rw [HPI.out, HPT.out] at HBx
          obtain ⟨⟨q0, q1, q2, q3, q4⟩, fz0, fz1, fz2, fz3, fz4⟩ := box5 HBx.out
          go_upto_region 24 with (go_at_call 25; refine HDA.out.mono ?_; rintro e w8 ⟨D7, rfl, d8, o8, k8⟩; have HB8 := hid (Both.step HB7.out L7.out M7.out d8 o8 k8 HE0.out); have HB9 := hid (o8.block HBx.out); obtain ⟨⟨r0, r1, r2, r3, r4⟩, g0, g1, g2, g3, g4⟩ := box5 HB9.out; clear d8 o8 k8)
          unfold Dg.v1 Dg.v2 Dg.ve at HB8
          clear HB7 L7 M7 HQ HDA HBx HB9 q0 q1 q2 q3 q4 fz0 fz1 fz2 fz3 fz4 r0 r1 r2 r3 r4 g0 g1 g2 g3 g4 HFl HP7
          generalize (((((w8.setCell ⟨mb, 0, none⟩ (.int .i64 P7.ix)).setCell ⟨mb, 1, none⟩ (.int .i64 P7.tm)).setCell ⟨mb, 2, none⟩ (.slice D7.p1 P7.a.length D7.c1)).setCell ⟨mb, 3, none⟩ (.slice D7.p2 P7.b.length D7.c2)).setCell ⟨mb, 4, none⟩ (.slice D7.p D7.X.length D7.c)) = w9 at *
          clear x0 HER2 HLI HPI HPT HN63
          have HA := hid (fun (a m : Int) (W : World) (u : Old w9 W) => alike_any W0.heap.size lb G7 P7 D7 a m W (HB8.out.l.old u) (HB8.out.d.old u))
          unfold DV Dg.v1 Dg.v2 Dg.ve at HA
          have HBy := hid HB8.out.b
          unfold Dg.v1 Dg.v2 Dg.ve at HBy
          obtain ⟨⟨q0, q1, q2, q3, q4⟩, -⟩ := box5 HBy.out
          go_upto_region 26 with (go_at_call 28; first | (refine (HA.out _ _ _ O10.out).mono ?_; rintro e w11 ⟨rfl, o11⟩; have O11 := hid (O10.out.trans o11); clear o11) | (refine (HA.out _ _ _ (Old.refl w9)).mono ?_; rintro e w10 ⟨rfl, o10⟩; have O10 := hid o10; obtain ⟨⟨s0, s1, s2, s3, s4⟩, -⟩ := box5 (o10.block HBy.out); clear o10))
          clear HA q0 q1 q2 q3 q4 s0 s1 s2 s3 s4
          go_wp2
          exact ⟨⟨k + 1, G7, P7, D7, hlt, by go_num, hid (HB8.out.old O11.out)⟩, by simp [intOf]; omega⟩
        · by_cases c2 : ok = 2
          · subst c2
            have HAp := hid (cut_any W0.heap.size lb G P nz HN63.out w6 HB6.out.l)
            obtain ⟨F, hF⟩ : ∃ F, cutV P nz = F := ⟨_, rfl⟩
            have HFl := hid hF
            rw [hF] at HAp
            clear hF
            obtain ⟨P7, hP7⟩ : ∃ P7, cutP P nz = P7 := ⟨_, rfl⟩
            have HP7 := hid hP7
            rw [hP7] at HAp
            clear hP7 x3
            have HB7 := HB6
            clear HB6
            go_upto_region 20 with (go_at_call 12; refine HAp.out.mono ?_; rintro e w7 ⟨rfl, G7, l7, m7⟩; have L7 := hid l7; have M7 := hid m7; have HQ := hid (HB7.out.log m7); clear l7 m7)
            clear HAp
            have HDA := hid (rCut_any P D nz HN63.out w7 HQ.out.1)
            unfold RPost DV Dg.v1 Dg.v2 Dg.ve at HDA
            rw [HFl.out, HP7.out, HPI.out, HPT.out] at HDA
            have HBx := hid HQ.out.2.1
            unfold Dg.v1 Dg.v2 Dg.ve at HBx
            rw [HPI.out, HPT.out] at HBx
            obtain ⟨⟨q0, q1, q2, q3, q4⟩, fz0, fz1, fz2, fz3, fz4⟩ := box5 HBx.out
            go_upto_region 24 with (go_at_call 26; refine HDA.out.mono ?_; rintro e w8 ⟨D7, rfl, d8, o8, k8⟩; have HB8 := hid (Both.step HB7.out L7.out M7.out d8 o8 k8 (fun x hx => by cases hx)); have HB9 := hid (o8.block HBx.out); obtain ⟨⟨r0, r1, r2, r3, r4⟩, g0, g1, g2, g3, g4⟩ := box5 HB9.out; clear d8 o8 k8)
            unfold Dg.v1 Dg.v2 Dg.ve at HB8
            clear HB7 L7 M7 HQ HDA HBx HB9 q0 q1 q2 q3 q4 fz0 fz1 fz2 fz3 fz4 r0 r1 r2 r3 r4 g0 g1 g2 g3 g4 HFl HP7
            generalize (((((w8.setCell ⟨mb, 0, none⟩ (.int .i64 P7.ix)).setCell ⟨mb, 1, none⟩ (.int .i64 P7.tm)).setCell ⟨mb, 2, none⟩ (.slice D7.p1 P7.a.length D7.c1)).setCell ⟨mb, 3, none⟩ (.slice D7.p2 P7.b.length D7.c2)).setCell ⟨mb, 4, none⟩ (.slice D7.p D7.X.length D7.c)) = w9 at *
            clear x0 HER2 HLI HPI HPT HN63
            have HA := hid (fun (a m : Int) (W : World) (u : Old w9 W) => alike_any W0.heap.size lb G7 P7 D7 a m W (HB8.out.l.old u) (HB8.out.d.old u))
            unfold DV Dg.v1 Dg.v2 Dg.ve at HA
            have HBy := hid HB8.out.b
            unfold Dg.v1 Dg.v2 Dg.ve at HBy
            obtain ⟨⟨q0, q1, q2, q3, q4⟩, -⟩ := box5 HBy.out
            go_upto_region 26 with (go_at_call 28; first | (refine (HA.out _ _ _ O10.out).mono ?_; rintro e w11 ⟨rfl, o11⟩; have O11 := hid (O10.out.trans o11); clear o11) | (refine (HA.out _ _ _ (Old.refl w9)).mono ?_; rintro e w10 ⟨rfl, o10⟩; have O10 := hid o10; obtain ⟨⟨s0, s1, s2, s3, s4⟩, -⟩ := box5 (o10.block HBy.out); clear o10))
            clear HA q0 q1 q2 q3 q4 s0 s1 s2 s3 s4
            go_wp2
            exact ⟨⟨k + 1, G7, P7, D7, hlt, by go_num, hid (HB8.out.old O11.out)⟩, by simp [intOf]; omega⟩
          · by_cases c3 : ok = 3
            · subst c3
              have HAp := hid (drop_any W0.heap.size lb G P nz w6 HB6.out.l)
              obtain ⟨F, hF⟩ : ∃ F, drpV P nz = F := ⟨_, rfl⟩
              have HFl := hid hF
              rw [hF] at HAp
              clear hF
              obtain ⟨P7, hP7⟩ : ∃ P7, drpP P nz = P7 := ⟨_, rfl⟩
              have HP7 := hid hP7
              rw [hP7] at HAp
              clear hP7 x3
              have HB7 := HB6
              clear HB6
              go_upto_region 23 with (go_at_call 13; refine HAp.out.mono ?_; rintro e w7 ⟨rfl, G7, l7, m7⟩; have L7 := hid l7; have M7 := hid m7; have HQ := hid (HB7.out.log m7); clear l7 m7)
              clear HAp
              have HDA := hid (rDrop_any P D nz w7 HQ.out.1)
              unfold RPost DV Dg.v1 Dg.v2 Dg.ve at HDA
              rw [HFl.out, HP7.out, HPI.out, HPT.out] at HDA
              have HBx := hid HQ.out.2.1
              unfold Dg.v1 Dg.v2 Dg.ve at HBx
              rw [HPI.out, HPT.out] at HBx
              obtain ⟨⟨q0, q1, q2, q3, q4⟩, fz0, fz1, fz2, fz3, fz4⟩ := box5 HBx.out
              go_upto_region 24 with (go_at_call 27; refine HDA.out.mono ?_; rintro e w8 ⟨D7, rfl, d8, o8, k8⟩; have HB8 := hid (Both.step HB7.out L7.out M7.out d8 o8 k8 (fun x hx => by cases hx)); have HB9 := hid (o8.block HBx.out); obtain ⟨⟨r0, r1, r2, r3, r4⟩, g0, g1, g2, g3, g4⟩ := box5 HB9.out; clear d8 o8 k8)
              unfold Dg.v1 Dg.v2 Dg.ve at HB8
              clear HB7 L7 M7 HQ HDA HBx HB9 q0 q1 q2 q3 q4 fz0 fz1 fz2 fz3 fz4 r0 r1 r2 r3 r4 g0 g1 g2 g3 g4 HFl HP7
              generalize (((((w8.setCell ⟨mb, 0, none⟩ (.int .i64 P7.ix)).setCell ⟨mb, 1, none⟩ (.int .i64 P7.tm)).setCell ⟨mb, 2, none⟩ (.slice D7.p1 P7.a.length D7.c1)).setCell ⟨mb, 3, none⟩ (.slice D7.p2 P7.b.length D7.c2)).setCell ⟨mb, 4, none⟩ (.slice D7.p D7.X.length D7.c)) = w9 at *
              clear x0 HER2 HLI HPI HPT HN63
              have HA := hid (fun (a m : Int) (W : World) (u : Old w9 W) => alike_any W0.heap.size lb G7 P7 D7 a m W (HB8.out.l.old u) (HB8.out.d.old u))
              unfold DV Dg.v1 Dg.v2 Dg.ve at HA
              have HBy := hid HB8.out.b
              unfold Dg.v1 Dg.v2 Dg.ve at HBy
              obtain ⟨⟨q0, q1, q2, q3, q4⟩, -⟩ := box5 HBy.out
              go_upto_region 26 with (go_at_call 28; first | (refine (HA.out _ _ _ O10.out).mono ?_; rintro e w11 ⟨rfl, o11⟩; have O11 := hid (O10.out.trans o11); clear o11) | (refine (HA.out _ _ _ (Old.refl w9)).mono ?_; rintro e w10 ⟨rfl, o10⟩; have O10 := hid o10; obtain ⟨⟨s0, s1, s2, s3, s4⟩, -⟩ := box5 (o10.block HBy.out); clear o10))
              clear HA q0 q1 q2 q3 q4 s0 s1 s2 s3 s4
              go_wp2
              exact ⟨⟨k + 1, G7, P7, D7, hlt, by go_num, hid (HB8.out.old O11.out)⟩, by simp [intOf]; omega⟩
            · have d1 : (ok == 1) = false := by simp [c1]
              have d2 : (ok == 2) = false := by simp [c2]
              have d3 : (ok == 3) = false := by simp [c3]
              go_upto_region 24 with (fail)
              generalize w6 = w9 at *
              have HB8 := HB6
              clear HB6 x3
              generalize G = G7 at *
              generalize P = P7 at *
              generalize D = D7 at *
              clear x0 HER2 HLI HPI HPT HN63
              have HA := hid (fun (a m : Int) (W : World) (u : Old w9 W) => alike_any W0.heap.size lb G7 P7 D7 a m W (HB8.out.l.old u) (HB8.out.d.old u))
              unfold DV Dg.v1 Dg.v2 Dg.ve at HA
              have HBy := hid HB8.out.b
              unfold Dg.v1 Dg.v2 Dg.ve at HBy
              obtain ⟨⟨q0, q1, q2, q3, q4⟩, -⟩ := box5 HBy.out
              go_upto_region 26 with (go_at_call 28; first | (refine (HA.out _ _ _ O10.out).mono ?_; rintro e w11 ⟨rfl, o11⟩; have O11 := hid (O10.out.trans o11); clear o11) | (refine (HA.out _ _ _ (Old.refl w9)).mono ?_; rintro e w10 ⟨rfl, o10⟩; have O10 := hid o10; obtain ⟨⟨s0, s1, s2, s3, s4⟩, -⟩ := box5 (o10.block HBy.out); clear o10))
              clear HA q0 q1 q2 q3 q4 s0 s1 s2 s3 s4
              go_wp2
              exact ⟨⟨k + 1, G7, P7, D7, hlt, by go_num, hid (HB8.out.old O11.out)⟩, by simp [intOf]; omega⟩
      · go_upto_region 11 with (fail)
        obtain ⟨nz, hnz⟩ : ∃ nz, pix + bits .and .i64 on 15 = nz := ⟨_, rfl⟩
        have hn63 : nz ≤ 9223372036854775807 := by rw [← hnz]; omega
        rw [hnz]
        have HN63 := hid hn63
        clear hnz hz1 hz2 hn63 hzn hP0 hP1 x1 x2
        go_upto_region 13 with (go_at_call 24; refine HDl.out.mono ?_; rintro e w6 ⟨rfl, o6⟩; have HB6 := hid (HB4.out.old o6); have B6 := hid (o6.block B4.out); clear o6)
        clear HDl q0 q1 q2 q3 q4 x0 x3 B4 HB4
        obtain ⟨x0, x1, x2, x3, -⟩ := box4 B6.out
        clear x1 x2 B6 HB5
        by_cases c1 : ok = 1
        · subst c1
          have HPt := hid (lawPut_any (.slice op xl oc) oX li w6 (HER2.out.old (U0.out.trans HB6.out.u)))
          have HFp := hid (fun (v : Value) (hv : ∀ g, v.ownBlock = some g → w6.heap.size ≤ g) => far_put (l := li) U0.out HB6.out.l HER2.out hv)
          have HE0 := hid (show ∀ x ∈ putL li oX, 0 < x.d.length → ∀ g, x.s.ownBlock = some g → g < W0.heap.size from fun x hx h0 g e => by obtain ⟨y, hy, e1, e2⟩ := putL_mem _ _ _ hx; rw [e1] at e; rw [e2] at h0; have := (HER2.out.2.2 y hy).lt h0 g e; have := U0.out.size; omega)
          have HLL := hid (show lstI P.ix P.es = li from HLI.out)
          go_upto_region 16 with (go_at_call 11; refine HPt.out.mono ?_; rintro e w5' ⟨v5, rfl, r5, o5, n5⟩; have HB7 := hid (HB6.out.old o5); have R5 := hid r5; have F5 := hid (HFp.out v5 n5); obtain ⟨-, ⟨pp, cc5, ev, -⟩, -⟩ := r5; subst ev; clear o5 n5)
          clear HPt HFp HB6 x3
          have HAp := hid (append_any W0.heap.size lb G P _ (putL li oX) w5' HB7.out.l R5.out F5.out)
          obtain ⟨F, hF⟩ : ∃ F, flt (lstI P.ix P.es) (lstT P.tm P.es) (putL li oX) = F := ⟨_, rfl⟩
          have HFl := hid (show flt (lI P) (lT P) (putL li oX) = F from hF)
          rw [hF] at HAp
          clear hF
          obtain ⟨P7, hP7⟩ : ∃ P7, appF P (putL li oX) = P7 := ⟨_, rfl⟩
          have HP7 := hid hP7
          rw [hP7] at HAp
          clear hP7
          obtain ⟨Y, hY⟩ : ∃ Y, putL li oX = Y := ⟨_, rfl⟩
          rw [hY] at R5 F5 HE0 HFl HP7
          rw [hY] at HAp
          obtain ⟨yl, hyl⟩ : ∃ yl, Y.length = yl := ⟨_, rfl⟩
          try rw [hY]
          rw [hyl] at R5 F5 HAp ⊢
          clear hY hyl
          go_upto_region 17 with (go_at_call 10; refine HAp.out.mono ?_; rintro e w7 ⟨rfl, G7, l7, m7⟩; have L7 := hid l7; have M7 := hid m7; have HQ := hid (HB7.out.log m7); have R7 := hid (R5.out.chg m7.1 F5.out); clear l7 m7)
          clear HAp F5 R5
          have HDA := hid (rAppend_any P D _ Y w7 HQ.out.1 R7.out)
          unfold RPost DV Dg.v1 Dg.v2 Dg.ve at HDA
          rw [HFl.out, HP7.out, HPI.out, HPT.out] at HDA
          have HBx := hid HQ.out.2.1
          unfold Dg.v1 Dg.v2 Dg.ve at HBx
          rw [HPI.out, HPT.out] at HBx
          obtain ⟨⟨q0, q1, q2, q3, q4⟩, fz0, fz1, fz2, fz3, fz4⟩ := box5 HBx.out
          go_upto_region 24 with (go_at_call 25; refine HDA.out.mono ?_; rintro e w8 ⟨D7, rfl, d8, o8, k8⟩; have HB8 := hid (Both.step HB7.out L7.out M7.out d8 o8 k8 HE0.out); have HB9 := hid (o8.block HBx.out); obtain ⟨⟨r0, r1, r2, r3, r4⟩, g0, g1, g2, g3, g4⟩ := box5 HB9.out; clear d8 o8 k8)
          unfold Dg.v1 Dg.v2 Dg.ve at HB8
          clear HB7 L7 M7 HQ HDA HBx HB9 q0 q1 q2 q3 q4 fz0 fz1 fz2 fz3 fz4 r0 r1 r2 r3 r4 g0 g1 g2 g3 g4 HFl HP7
          generalize (((((w8.setCell ⟨mb, 0, none⟩ (.int .i64 P7.ix)).setCell ⟨mb, 1, none⟩ (.int .i64 P7.tm)).setCell ⟨mb, 2, none⟩ (.slice D7.p1 P7.a.length D7.c1)).setCell ⟨mb, 3, none⟩ (.slice D7.p2 P7.b.length D7.c2)).setCell ⟨mb, 4, none⟩ (.slice D7.p D7.X.length D7.c)) = w9 at *
          clear x0 HER2 HLI HPI HPT HN63
          have HA := hid (fun (a m : Int) (W : World) (u : Old w9 W) => alike_any W0.heap.size lb G7 P7 D7 a m W (HB8.out.l.old u) (HB8.out.d.old u))
          unfold DV Dg.v1 Dg.v2 Dg.ve at HA
          have HBy := hid HB8.out.b
          unfold Dg.v1 Dg.v2 Dg.ve at HBy
          obtain ⟨⟨q0, q1, q2, q3, q4⟩, -⟩ := box5 HBy.out
          go_upto_region 26 with (go_at_call 28; first | (refine (HA.out _ _ _ O10.out).mono ?_; rintro e w11 ⟨rfl, o11⟩; have O11 := hid (O10.out.trans o11); clear o11) | (refine (HA.out _ _ _ (Old.refl w9)).mono ?_; rintro e w10 ⟨rfl, o10⟩; have O10 := hid o10; obtain ⟨⟨s0, s1, s2, s3, s4⟩, -⟩ := box5 (o10.block HBy.out); clear o10))
          clear HA q0 q1 q2 q3 q4 s0 s1 s2 s3 s4
          go_wp2
          exact ⟨⟨k + 1, G7, P7, D7, hlt, by go_num, hid (HB8.out.old O11.out)⟩, by simp [intOf]; omega⟩
        · by_cases c2 : ok = 2
          · subst c2
            have HAp := hid (cut_any W0.heap.size lb G P nz HN63.out w6 HB6.out.l)
            obtain ⟨F, hF⟩ : ∃ F, cutV P nz = F := ⟨_, rfl⟩
            have HFl := hid hF
            rw [hF] at HAp
            clear hF
            obtain ⟨P7, hP7⟩ : ∃ P7, cutP P nz = P7 := ⟨_, rfl⟩
            have HP7 := hid hP7
            rw [hP7] at HAp
            clear hP7 x3
            have HB7 := HB6
            clear HB6
            go_upto_region 20 with (go_at_call 12; refine HAp.out.mono ?_; rintro e w7 ⟨rfl, G7, l7, m7⟩; have L7 := hid l7; have M7 := hid m7; have HQ := hid (HB7.out.log m7); clear l7 m7)
            clear HAp
            have HDA := hid (rCut_any P D nz HN63.out w7 HQ.out.1)
            unfold RPost DV Dg.v1 Dg.v2 Dg.ve at HDA
            rw [HFl.out, HP7.out, HPI.out, HPT.out] at HDA
            have HBx := hid HQ.out.2.1
            unfold Dg.v1 Dg.v2 Dg.ve at HBx
            rw [HPI.out, HPT.out] at HBx
            obtain ⟨⟨q0, q1, q2, q3, q4⟩, fz0, fz1, fz2, fz3, fz4⟩ := box5 HBx.out
            go_upto_region 24 with (go_at_call 26; refine HDA.out.mono ?_; rintro e w8 ⟨D7, rfl, d8, o8, k8⟩; have HB8 := hid (Both.step HB7.out L7.out M7.out d8 o8 k8 (fun x hx => by cases hx)); have HB9 := hid (o8.block HBx.out); obtain ⟨⟨r0, r1, r2, r3, r4⟩, g0, g1, g2, g3, g4⟩ := box5 HB9.out; clear d8 o8 k8)
            unfold Dg.v1 Dg.v2 Dg.ve at HB8
            clear HB7 L7 M7 HQ HDA HBx HB9 q0 q1 q2 q3 q4 fz0 fz1 fz2 fz3 fz4 r0 r1 r2 r3 r4 g0 g1 g2 g3 g4 HFl HP7
            generalize (((((w8.setCell ⟨mb, 0, none⟩ (.int .i64 P7.ix)).setCell ⟨mb, 1, none⟩ (.int .i64 P7.tm)).setCell ⟨mb, 2, none⟩ (.slice D7.p1 P7.a.length D7.c1)).setCell ⟨mb, 3, none⟩ (.slice D7.p2 P7.b.length D7.c2)).setCell ⟨mb, 4, none⟩ (.slice D7.p D7.X.length D7.c)) = w9 at *
            clear x0 HER2 HLI HPI HPT HN63
            have HA := hid (fun (a m : Int) (W : World) (u : Old w9 W) => alike_any W0.heap.size lb G7 P7 D7 a m W (HB8.out.l.old u) (HB8.out.d.old u))
            unfold DV Dg.v1 Dg.v2 Dg.ve at HA
            have HBy := hid HB8.out.b
            unfold Dg.v1 Dg.v2 Dg.ve at HBy
            obtain ⟨⟨q0, q1, q2, q3, q4⟩, -⟩ := box5 HBy.out
            go_upto_region 26 with (go_at_call 28; first | (refine (HA.out _ _ _ O10.out).mono ?_; rintro e w11 ⟨rfl, o11⟩; have O11 := hid (O10.out.trans o11); clear o11) | (refine (HA.out _ _ _ (Old.refl w9)).mono ?_; rintro e w10 ⟨rfl, o10⟩; have O10 := hid o10; obtain ⟨⟨s0, s1, s2, s3, s4⟩, -⟩ := box5 (o10.block HBy.out); clear o10))
            clear HA q0 q1 q2 q3 q4 s0 s1 s2 s3 s4
            go_wp2
            exact ⟨⟨k + 1, G7, P7, D7, hlt, by go_num, hid (HB8.out.old O11.out)⟩, by simp [intOf]; omega⟩
          · by_cases c3 : ok = 3
            · subst c3
              have HAp := hid (drop_any W0.heap.size lb G P nz w6 HB6.out.l)
              obtain ⟨F, hF⟩ : ∃ F, drpV P nz = F := ⟨_, rfl⟩
              have HFl := hid hF
              rw [hF] at HAp
              clear hF
              obtain ⟨P7, hP7⟩ : ∃ P7, drpP P nz = P7 := ⟨_, rfl⟩
              have HP7 := hid hP7
              rw [hP7] at HAp
              clear hP7 x3
              have HB7 := HB6
              clear HB6
              go_upto_region 23 with (go_at_call 13; refine HAp.out.mono ?_; rintro e w7 ⟨rfl, G7, l7, m7⟩; have L7 := hid l7; have M7 := hid m7; have HQ := hid (HB7.out.log m7); clear l7 m7)
              clear HAp
              have HDA := hid (rDrop_any P D nz w7 HQ.out.1)
              unfold RPost DV Dg.v1 Dg.v2 Dg.ve at HDA
              rw [HFl.out, HP7.out, HPI.out, HPT.out] at HDA
              have HBx := hid HQ.out.2.1
              unfold Dg.v1 Dg.v2 Dg.ve at HBx
              rw [HPI.out, HPT.out] at HBx
              obtain ⟨⟨q0, q1, q2, q3, q4⟩, fz0, fz1, fz2, fz3, fz4⟩ := box5 HBx.out
              go_upto_region 24 with (go_at_call 27; refine HDA.out.mono ?_; rintro e w8 ⟨D7, rfl, d8, o8, k8⟩; have HB8 := hid (Both.step HB7.out L7.out M7.out d8 o8 k8 (fun x hx => by cases hx)); have HB9 := hid (o8.block HBx.out); obtain ⟨⟨r0, r1, r2, r3, r4⟩, g0, g1, g2, g3, g4⟩ := box5 HB9.out; clear d8 o8 k8)
              unfold Dg.v1 Dg.v2 Dg.ve at HB8
              clear HB7 L7 M7 HQ HDA HBx HB9 q0 q1 q2 q3 q4 fz0 fz1 fz2 fz3 fz4 r0 r1 r2 r3 r4 g0 g1 g2 g3 g4 HFl HP7
              generalize (((((w8.setCell ⟨mb, 0, none⟩ (.int .i64 P7.ix)).setCell ⟨mb, 1, none⟩ (.int .i64 P7.tm)).setCell ⟨mb, 2, none⟩ (.slice D7.p1 P7.a.length D7.c1)).setCell ⟨mb, 3, none⟩ (.slice D7.p2 P7.b.length D7.c2)).setCell ⟨mb, 4, none⟩ (.slice D7.p D7.X.length D7.c)) = w9 at *
              clear x0 HER2 HLI HPI HPT HN63
              have HA := hid (fun (a m : Int) (W : World) (u : Old w9 W) => alike_any W0.heap.size lb G7 P7 D7 a m W (HB8.out.l.old u) (HB8.out.d.old u))
              unfold DV Dg.v1 Dg.v2 Dg.ve at HA
              have HBy := hid HB8.out.b
              unfold Dg.v1 Dg.v2 Dg.ve at HBy
              obtain ⟨⟨q0, q1, q2, q3, q4⟩, -⟩ := box5 HBy.out
              go_upto_region 26 with (go_at_call 28; first | (refine (HA.out _ _ _ O10.out).mono ?_; rintro e w11 ⟨rfl, o11⟩; have O11 := hid (O10.out.trans o11); clear o11) | (refine (HA.out _ _ _ (Old.refl w9)).mono ?_; rintro e w10 ⟨rfl, o10⟩; have O10 := hid o10; obtain ⟨⟨s0, s1, s2, s3, s4⟩, -⟩ := box5 (o10.block HBy.out); clear o10))
              clear HA q0 q1 q2 q3 q4 s0 s1 s2 s3 s4
              go_wp2
              exact ⟨⟨k + 1, G7, P7, D7, hlt, by go_num, hid (HB8.out.old O11.out)⟩, by simp [intOf]; omega⟩
            · have d1 : (ok == 1) = false := by simp [c1]
              have d2 : (ok == 2) = false := by simp [c2]
              have d3 : (ok == 3) = false := by simp [c3]
              go_upto_region 24 with (fail)
              generalize w6 = w9 at *
              have HB8 := HB6
              clear HB6 x3
              generalize G = G7 at *
              generalize P = P7 at *
              generalize D = D7 at *
              clear x0 HER2 HLI HPI HPT HN63
              have HA := hid (fun (a m : Int) (W : World) (u : Old w9 W) => alike_any W0.heap.size lb G7 P7 D7 a m W (HB8.out.l.old u) (HB8.out.d.old u))
              unfold DV Dg.v1 Dg.v2 Dg.ve at HA
              have HBy := hid HB8.out.b
              unfold Dg.v1 Dg.v2 Dg.ve at HBy
              obtain ⟨⟨q0, q1, q2, q3, q4⟩, -⟩ := box5 HBy.out
              go_upto_region 26 with (go_at_call 28; first | (refine (HA.out _ _ _ O10.out).mono ?_; rintro e w11 ⟨rfl, o11⟩; have O11 := hid (O10.out.trans o11); clear o11) | (refine (HA.out _ _ _ (Old.refl w9)).mono ?_; rintro e w10 ⟨rfl, o10⟩; have O10 := hid o10; obtain ⟨⟨s0, s1, s2, s3, s4⟩, -⟩ := box5 (o10.block HBy.out); clear o10))
              clear HA q0 q1 q2 q3 q4 s0 s1 s2 s3 s4
              go_wp2
              exact ⟨⟨k + 1, G7, P7, D7, hlt, by go_num, hid (HB8.out.old O11.out)⟩, by simp [intOf]; omega⟩
    · obtain rfl : n = k := by omega
      go_wp2
      go_ret
      exact ⟨rfl, U0.out.trans HI.out.u⟩
end Go.Proofs.Ytgpfmohaogppiaa
