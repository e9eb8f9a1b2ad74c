/- The law RlogSound, walked; conditions: its arguments lie in memory. -/
import Derived.Test.YtgpfmohaogppiaaRl14
namespace Go.Proofs.Ytgpfmohaogppiaa
open Go.RowKit Go.Lib
set_option linter.unusedVariables false
set_option linter.unusedSimpArgs false
set_option maxRecDepth 20000
set_option maxHeartbeats 16000000 in
set_option maxRecDepth 20000 in
theorem soundLaw (index term : Int) (v1 v2 : Value) (n1 n2 : Nat) (f1 f2 : Nat → Int) (vs : Value) (n : Nat) (f : Nat → Opr) (w : World) (h1 : NRowL w v1 n1 f1) (h2 : NRowL w v2 n2 f2) (hO : ORRow w vs n f) :
    Calls Try.prog 3 #[.int .i64 index, .int .i64 term, .agg #[v1, v2], vs] w fun e w' => e = .returned (.bool true) ∧ Old w w' := by
  have HNw := hid (fun (W : World) (u : Old w W) => new_any index term v1 v2 n1 n2 f1 f2 W (h1.old u) (h2.old u))
  obtain ⟨_, p1, c1, rfl, _⟩ := h1
  obtain ⟨_, p2, c2, rfl, _⟩ := h2
  obtain ⟨hn, pa, pc, rfl, hnc, hcm, hOp⟩ := hO
  have HOp := hid hOp
  have hnn : (n : Int) ≤ 2932031007402 := by omega
  clear hOp
  go_enter Try.func3, Try.ntmps3
  go_upto_region 1 with (fail)
  have U0 := hid ((Old.refl w).alloc (.cells #[.slice p1 n1 c1, .slice p2 n2 c2] 24))
  have B0 := hid (alloc_at w (.cells #[.slice p1 n1 c1, .slice p2 n2 c2] 24))
  generalize w.alloc (.cells #[.slice p1 n1 c1, .slice p2 n2 c2] 24) = W0 at *
  generalize w.heap.size = cb at *
  have HNn := hid (HNw.out W0 U0.out)
  obtain ⟨z0, z1⟩ := box2 B0.out
  go_upto_region 4 with (first | (go_at_call 6; refine HNn.out.mono ?_; rintro e w1 ⟨lb, gc, u1, u2, rfl, o1, m1, k1⟩; have O1 := hid o1; have L1 := hid (show LogP W0.heap.size lb _ ⟨clampI index, clampI term, [], lsI f1 n1, lsI f2 n2⟩ w1 from ⟨m1, ⟨rfl, rfl, rfl, rfl, k1.sm⟩, ⟨k1.i0, k1.i1, k1.t0, k1.t1, trivial⟩⟩); clear o1 m1 k1) | (go_at_call 7; refine (alive_any _).mono ?_; rintro e w2 ⟨rfl, o2⟩; have O2 := hid (O1.out.trans o2); have L2 := hid (L1.out.old o2); clear o2))
  clear z0 z1 B0 HNw HNn L1 O1
  go_wp2
  go_loopw [36] (fun i wx => ∃ (k : Nat) (G : Lg) (P : PL), k ≤ n ∧ i = .int .i64 (k : Nat) ∧ Hid (LogP W0.heap.size lb G P wx ∧ Old W0 wx)) (fun i _ => n - (intOf i).toNat)
  case atStart => exact ⟨0, _, _, Nat.zero_le _, rfl, hid ⟨L2.out, O2.out⟩⟩
  case round =>
    obtain ⟨k, G, P, hk, rfl, HI⟩ := hrel
    clear L2 O2
    by_cases hlt : k < n
    · obtain ⟨bb, oo, e1, hok, hcs⟩ := HOp.out k hlt
      subst e1
      have y0 := (U0.out.trans HI.out.2).keep ((hcs 0 (by omega)).trans (show _ = some _ from rfl))
      have y1 := (U0.out.trans HI.out.2).keep ((hcs 1 (by omega)).trans (show _ = some _ from rfl))
      have y2 := (U0.out.trans HI.out.2).keep ((hcs 2 (by omega)).trans (show _ = some _ from rfl))
      have y3 := (U0.out.trans HI.out.2).keep ((hcs 3 (by omega)).trans (show _ = some _ from rfl))
      rw [Nat.add_zero] at y0
      have HER := hid hok.2.1
      clear hcs hok
      generalize f k = E at *
      obtain ⟨ok, on, ob0, ov, oX⟩ := E
      dsimp only at y0 y1 y2 y3 HER
      obtain ⟨-, ⟨op, oc, rfl, -⟩, -⟩ := HER.out
      have l1 : (0 : Int) ≤ (k : Int) := by omega
      have l2 : (k : Int) < (n : Int) := by omega
      have HLs := hid (fun (W : World) (u : Old wr W) => ((HI.out.1.old u).m.last (HI.out.1.old u).lg))
      have HBs := hid (fun (W : World) (u : Old wr W) => ((HI.out.1.old u).m.base (HI.out.1.old u).lg))
      rw [HI.out.1.is.ix, HI.out.1.is.tm] at HBs
      obtain ⟨hz1, hz2⟩ := and15 on
      have hP0 := HI.out.1.ok.i0
      have hP1 := HI.out.1.ok.i1
      generalize lstI G.ix G.es = li at *
      generalize lstT G.tm G.es = lt at *
      obtain ⟨xl, hxl⟩ : ∃ xl, oX.length = xl := ⟨_, rfl⟩
      rw [hxl] at y3
      have HER2 := hid (show ERow w (.slice op xl oc) oX from by rw [← hxl]; exact HER.out)
      clear hxl HER
      go_upto_region 9 with (first | (go_at_call 8; refine (HLs.out _ ((Old.refl wr).alloc _)).mono ?_; rintro e w3 ⟨rfl, o3⟩; have O3 := hid (((Old.refl wr).alloc _).trans o3); have B3 := hid (o3.block (alloc_at wr _)); clear o3) | (go_at_call 9; refine (HBs.out _ O3.out).mono ?_; rintro e w4 ⟨rfl, o4⟩; have O4 := hid (O3.out.trans o4); have B4 := hid (o4.block B3.out); clear o4))
      clear HLs HBs B3 O3 y0 y1 y2 y3
      obtain ⟨x0, x1, x2, x3, -⟩ := box4 B4.out
      have L4 := hid (HI.out.1.old O4.out)
      have U4 := hid (HI.out.2.trans O4.out)
      clear B4
      generalize wr.heap.size = obx at *
      generalize P.ix = pix at *
      by_cases c1 : ok = 1
      · subst c1
        have HPt := hid (lawPut_any (.slice op xl oc) oX li w4 (HER2.out.old (U0.out.trans U4.out)))
        have HAp := hid (fun (v : Value) (W : World) (u : Old w4 W) (hX : ERow W v (putL li oX)) (hv : ∀ g, v.ownBlock = some g → w4.heap.size ≤ g) => append_any W0.heap.size lb G P v (putL li oX) W (L4.out.old u) hX (far_put (l := li) U0.out L4.out HER2.out hv))
        go_upto_region 16 with (first | (go_at_call 11; refine HPt.out.mono ?_; rintro e w5 ⟨v5, rfl, r5, o5, n5⟩; have HA := hid (HAp.out v5 w5 o5 r5 n5); have O5 := hid o5; have R5 := hid r5; obtain ⟨-, ⟨pp, cc5, ev, -⟩, -⟩ := r5; subst ev; clear o5 n5) | (go_at_call 10; refine HA.out.mono ?_; rintro e w7 ⟨rfl, G7, l7, m7⟩; have L7 := hid l7; have U7 := hid (Mov.keep (U4.out.trans O5.out) (L4.out.old O5.out) m7); clear l7 m7))
        clear HPt HAp HA O5 R5 x0 x1 x2 x3 L4 U4 O4 HI
        generalize appF P (putL li oX) = P7 at *
        clear hz1 hz2 hP0 hP1 HER2 HOp
        have HBs := hid (L7.out.m.base L7.out.lg)
        rw [L7.out.is.ix, L7.out.is.tm] at HBs
        have HEn := hid (fun (W : World) (u : Old w7 W) => entries_any W0.heap.size lb G7 P7 0 1000 W (L7.out.old u))
        go_upto_region 18 with (first | (go_at_call 9; refine HBs.out.mono ?_; rintro e w8 ⟨rfl, o8⟩; have L8 := hid (L7.out.old o8); have U8 := hid (U7.out.trans o8); have O8 := hid o8; clear o8) | (go_at_call 14; refine (HEn.out _ O8.out).mono ?_; rintro e w9 ⟨v9, X, rfl, n9, x9, o9⟩; have X9 := hid x9; have N9 := hid (n9.spoil o9); clear n9 x9 o9; obtain ⟨rb, ev, -⟩ := N9.out; subst ev))
        have SP := hid (show Spoil w8 rb X.length X w9 from by obtain ⟨rb', e, q⟩ := N9.out; simp only [Value.slice.injEq, Option.some.injEq, Addr.mk.injEq, and_true] at e; rw [e]; exact q)
        clear N9 HBs HEn L7 U7 O8
        have hXl : X.length = (entL P7 0 1000).length := by rw [← X9.out, pls_len]
        obtain ⟨hm1, hm2⟩ := ent_len L8.out.ok
        have HFo := hid (ent_fol L8.out.ok 1000)
        have HHs := hid (fun (W : World) (u : Old w8 W) (j : Nat) (hj : j < (entL P7 0 1000).length) => has_at (L8.out.old u) 1000 j hj)
        have HLt := hid (fun (W : World) (u : Old w8 W) => (L8.out.old u).m.last (L8.out.old u).lg)
        have HLs : lstI G7.ix G7.es = lstI P7.ix P7.es ∧ lstT G7.tm G7.es = lstT P7.tm P7.es := by rw [L8.out.is.ix, L8.out.is.tm, ← lstI_pls _ G7.es, ← lstT_pls _ G7.es, L8.out.is.es]; exact ⟨rfl, rfl⟩
        rw [HLs.1, HLs.2] at HLt
        have HB := hid (show 0 ≤ P7.ix ∧ P7.ix ≤ 1099511627776 ∧ 0 ≤ P7.tm ∧ P7.tm ≤ 1099511627776 from ⟨L8.out.ok.i0, L8.out.ok.i1, L8.out.ok.t0, L8.out.ok.t1⟩)
        obtain ⟨m, hm⟩ : ∃ m, X.length = m := ⟨_, rfl⟩
        have HM := hid hm
        have HXl := hid hXl
        have HM2 := hid hm2
        rw [hm] at SP
        have hmm : (m : Int) ≤ 1000 := by omega
        simp only [hm]
        clear hm hXl hm1 hm2 HLs
        go_wp2
        generalize wr = wrr at *
        go_loopw [16, 17, 87] (fun a t i wx => ∃ (j : Nat) (ai ti : Int), j ≤ m ∧ i = .int .i64 (j : Nat) ∧ a = .int .i64 ai ∧ t = .int .i64 ti ∧ Hid (ai = lstI P7.ix ((entL P7 0 1000).take j) ∧ ti = lstT P7.tm ((entL P7 0 1000).take j) ∧ Spoil w8 rb m X wx)) (fun _ _ i _ => m - (intOf i).toNat)
        case atStart => exact ⟨0, _, _, Nat.zero_le _, rfl, rfl, rfl, hid ⟨rfl, rfl, SP.out⟩⟩
        case round =>
          obtain ⟨j, ai, ti, hj, rfl, rfl, rfl, HJ⟩ := hrel
          clear SP
          by_cases hjl : j < m
          · have hjX : j < X.length := by rw [HM.out]; exact hjl
            have hjE : j < (entL P7 0 1000).length := by rw [← HXl.out]; exact hjX
            obtain ⟨q0, q1, q2, q3⟩ := HJ.out.2.2.ent j hjX
            have hxe : atE (entL P7 0 1000) j = (atE X j).pl := by rw [← X9.out]; exact atE_pls _ _ hjX
            obtain ⟨g1, g2, g3⟩ := fol_at HFo.out j hjE
            have HHj := hid (fun (W : World) (u : Old w8 W) => HHs.out W u j hjE)
            have HTk := hid (take_at hjE)
            rw [hxe] at g1 g2 g3 HHj HTk
            rw [← HJ.out.1] at g1
            rw [← HJ.out.2.1] at g2
            have HDB := hid (HJ.out.2.2.d _ (atE_mem X j hjX))
            have hrp := rightE_parts g3
            generalize atE X j = E at *
            obtain ⟨ei, et, ek, ep, ec, ed⟩ := E
            dsimp only [En.e, En.pl] at q0 q1 q2 q3 g1 g2 HHj HTk hrp
            have HDB2 := hid (show 0 < ed.length → ∃ g, ep = some ⟨g, 0, none⟩ ∧ w8.heap.size ≤ g from fun h0 => by obtain ⟨g, cur, e1, -, -, e4⟩ := HDB.out h0; exact ⟨g, e1, e4⟩)
            have HLA := hid (show ei = lstI P7.ix ((entL P7 0 1000).take (j + 1)) ∧ et = lstT P7.tm ((entL P7 0 1000).take (j + 1)) from by rw [HTk.out, lstI_app, lstT_app]; exact ⟨rfl, rfl⟩)
            have HED := hid (show ed.length ≤ 2048 from hrp.2.2.2.2.1)
            have r1 : 1 ≤ ei := hrp.1
            have r2 : ei ≤ 1099511627776 := hrp.2.1
            obtain ⟨el, hel⟩ : ∃ el, ed.length = el := ⟨_, rfl⟩
            have HEL := hid hel
            rw [hel] at q3 HED HDB2
            have n1 : (ei != ai + 1) = false := by rw [g1]; simp
            have n2 : decide (et < ti) = false := decide_eq_false (by omega)
            have b1 : ai ≤ 1099511627776 := by omega
            have b2 : 0 ≤ ai := by omega
            have l3 : (0 : Int) ≤ (j : Int) := by omega
            have l4 : (j : Int) < (m : Int) := by omega
            have l5 : (el : Int) ≤ 2048 := by have := HED.out; omega
            clear hxe g3 hrp hel g1 g2 HTk hjE hjX
            have HDJ := hid (HDB.out.old ((Old.refl wr).alloc (.cells #[.int .i64 ei, .int .i64 et, .int .i64 ek, .slice ep el ec] 41)))
            have SJ := hid (HJ.out.2.2.old ((Old.refl wr).alloc (.cells #[.int .i64 ei, .int .i64 et, .int .i64 ek, .slice ep el ec] 41)))
            have BJ := hid (alloc_at wr (.cells #[.int .i64 ei, .int .i64 et, .int .i64 ek, .slice ep el ec] 41))
            go_upto_region 21 with (fail)
            generalize wr.alloc (.cells #[.int .i64 ei, .int .i64 et, .int .i64 ek, .slice ep el ec] 41) = wj at *
            generalize wr.heap.size = bx at *
            obtain ⟨s0, s1, s2, s3, -⟩ := box4 BJ.out
            clear q0 q1 q2 q3
            go_upto_region 27 with (go_at_call 15; refine (HHj.out _ SJ.out.u).mono ?_; rintro e wh ⟨rfl, oh⟩; have SH := hid (SJ.out.old oh); have HDH := hid (HDJ.out.old oh); have BH := hid (oh.block BJ.out); clear oh)
            clear s0 s1 s2 s3 SJ BJ HHj
            obtain ⟨s0, s1, s2, s3, -⟩ := box4 BH.out
            go_wp2
            generalize wr = wr2 at *
            go_loopw [114] (fun i wx => ∃ q : Nat, q ≤ el ∧ i = .int .i64 (q : Nat) ∧ Hid (Spoil w8 rb m X wx ∧ EBx bx ei et ek ep el ec wx ∧ DB w8.heap.size ⟨ei, et, ek, ep, ec, ed⟩ wx)) (fun i _ => el - (intOf i).toNat)
            case atStart => exact ⟨0, Nat.zero_le _, rfl, hid ⟨SH.out, BH.out, HDH.out⟩⟩
            case round =>
              obtain ⟨q, hq, rfl, HQ⟩ := hrel
              clear s0 s1 s2 s3
              obtain ⟨s0, s1, s2, s3, -⟩ := box4 HQ.out.2.1
              by_cases hql : q < el
              · obtain ⟨g, cur, e1, e2, e3, e4⟩ := HQ.out.2.2 (by dsimp only; rw [HEL.out]; omega)
                dsimp only at e1 e3
                subst e1
                rw [HEL.out] at e3
                have hgl : q < cur.size := by omega
                have t0 : wr.cell? ⟨g, q, none⟩ = some cur[q] := by rw [Go.Joins.cell_of_block e2, Array.getElem?_eq_getElem hgl]
                have tf : wr.frozen? ⟨g, q, none⟩ = false := Go.Joins.unfrozen_of_block e2 q
                have l6 : (0 : Int) ≤ (q : Int) := by omega
                have l7 : (q : Int) < (el : Int) := by omega
                have S2 := hid (HQ.out.1.set g q (.int .u8 99) cur e2 e4)
                have B2 := hid (show EBx bx ei et ek (some ⟨g, 0, none⟩) el ec (wr.setCell ⟨g, q, none⟩ (.int .u8 99)) from set_other HQ.out.2.1 (ty_ne HQ.out.2.1 e2 (by decide)))
                have D2 := hid (HQ.out.2.2.set ⟨g, q, none⟩ (.int .u8 99) rfl)
                generalize cur[q] = cq at *
                clear e2 e3 hgl
                go_wp2
                exact ⟨⟨q + 1, hql, by go_num, hid ⟨S2.out, B2.out, D2.out⟩⟩, by simp [intOf]; omega⟩
              · obtain rfl : el = q := by omega
                go_wp2
                exact ⟨⟨j + 1, ei, et, hjl, by go_num, rfl, rfl, hid ⟨HLA.out.1, HLA.out.2, HQ.out.1⟩⟩, by simp [intOf]; omega⟩
          · obtain rfl : m = j := by omega
            have HLj := hid (HLt.out _ HJ.out.2.2.u)
            have HEq := hid (show m < 1000 → ai = lstI P7.ix P7.es ∧ ti = lstT P7.tm P7.es from fun h => by
              have h3 : (entL P7 0 1000).length = m := by rw [← HXl.out, HM.out]
              have h4 := HM2.out (by omega)
              rw [HJ.out.1, HJ.out.2.1, List.take_of_length_le (by omega), h4]; exact ⟨rfl, rfl⟩)
            generalize lstI P7.ix P7.es = fi at *
            generalize lstT P7.tm P7.es = ft at *
            by_cases h1k : m < 1000
            · obtain ⟨e1, e2⟩ := HEq.out h1k
              have d1k : decide ((m : Int) < 1000) = true := decide_eq_true (by omega)
              have i1 : (ai != fi) = false := by simp [e1]
              have i2 : (ti != ft) = false := by simp [e2]
              clear e1 e2 HEq
              go_wp2_with (go_at_call 8; refine HLj.out.mono ?_; rintro e wl ⟨rfl, ol⟩; have OL := hid (HJ.out.2.2.u.trans ol); clear ol)
              exact ⟨⟨k + 1, G7, P7, hlt, by go_num, hid ⟨L8.out.old OL.out, U8.out.trans OL.out⟩⟩, by simp [intOf]; omega⟩
            · have d1k : decide ((m : Int) < 1000) = false := decide_eq_false (by omega)
              clear HEq
              go_wp2_with (go_at_call 8; refine HLj.out.mono ?_; rintro e wl ⟨rfl, ol⟩; have OL := hid (HJ.out.2.2.u.trans ol); clear ol)
              exact ⟨⟨k + 1, G7, P7, hlt, by go_num, hid ⟨L8.out.old OL.out, U8.out.trans OL.out⟩⟩, by simp [intOf]; omega⟩
      · by_cases c2 : ok = 2
        · subst c2
          have HCt := hid (cut_any W0.heap.size lb G P (pix + bits .and .i64 on 15) (by omega) w4 L4.out)
          obtain ⟨z, hbz⟩ : ∃ z, bits .and .i64 on 15 = z := ⟨_, rfl⟩
          rw [hbz] at HCt hz1 hz2
          go_upto_region 16 with (go_at_call 12; refine HCt.out.mono ?_; rintro e w7 ⟨rfl, G7, l7, m7⟩; have L7 := hid l7; have U7 := hid (Mov.keep U4.out L4.out m7); clear l7 m7)
          clear HCt x0 x1 x2 x3 L4 U4 O4 HI hbz
          generalize cutP P (pix + z) = P7 at *
          clear hz1 hz2 hP0 hP1 HER2 HOp
          have HBs := hid (L7.out.m.base L7.out.lg)
          rw [L7.out.is.ix, L7.out.is.tm] at HBs
          have HEn := hid (fun (W : World) (u : Old w7 W) => entries_any W0.heap.size lb G7 P7 0 1000 W (L7.out.old u))
          go_upto_region 18 with (first | (go_at_call 9; refine HBs.out.mono ?_; rintro e w8 ⟨rfl, o8⟩; have L8 := hid (L7.out.old o8); have U8 := hid (U7.out.trans o8); have O8 := hid o8; clear o8) | (go_at_call 14; refine (HEn.out _ O8.out).mono ?_; rintro e w9 ⟨v9, X, rfl, n9, x9, o9⟩; have X9 := hid x9; have N9 := hid (n9.spoil o9); clear n9 x9 o9; obtain ⟨rb, ev, -⟩ := N9.out; subst ev))
          have SP := hid (show Spoil w8 rb X.length X w9 from by obtain ⟨rb', e, q⟩ := N9.out; simp only [Value.slice.injEq, Option.some.injEq, Addr.mk.injEq, and_true] at e; rw [e]; exact q)
          clear N9 HBs HEn L7 U7 O8
          have hXl : X.length = (entL P7 0 1000).length := by rw [← X9.out, pls_len]
          obtain ⟨hm1, hm2⟩ := ent_len L8.out.ok
          have HFo := hid (ent_fol L8.out.ok 1000)
          have HHs := hid (fun (W : World) (u : Old w8 W) (j : Nat) (hj : j < (entL P7 0 1000).length) => has_at (L8.out.old u) 1000 j hj)
          have HLt := hid (fun (W : World) (u : Old w8 W) => (L8.out.old u).m.last (L8.out.old u).lg)
          have HLs : lstI G7.ix G7.es = lstI P7.ix P7.es ∧ lstT G7.tm G7.es = lstT P7.tm P7.es := by rw [L8.out.is.ix, L8.out.is.tm, ← lstI_pls _ G7.es, ← lstT_pls _ G7.es, L8.out.is.es]; exact ⟨rfl, rfl⟩
          rw [HLs.1, HLs.2] at HLt
          have HB := hid (show 0 ≤ P7.ix ∧ P7.ix ≤ 1099511627776 ∧ 0 ≤ P7.tm ∧ P7.tm ≤ 1099511627776 from ⟨L8.out.ok.i0, L8.out.ok.i1, L8.out.ok.t0, L8.out.ok.t1⟩)
          obtain ⟨m, hm⟩ : ∃ m, X.length = m := ⟨_, rfl⟩
          have HM := hid hm
          have HXl := hid hXl
          have HM2 := hid hm2
          rw [hm] at SP
          have hmm : (m : Int) ≤ 1000 := by omega
          simp only [hm]
          clear hm hXl hm1 hm2 HLs
          go_wp2
          generalize wr = wrr at *
          go_loopw [16, 17, 87] (fun a t i wx => ∃ (j : Nat) (ai ti : Int), j ≤ m ∧ i = .int .i64 (j : Nat) ∧ a = .int .i64 ai ∧ t = .int .i64 ti ∧ Hid (ai = lstI P7.ix ((entL P7 0 1000).take j) ∧ ti = lstT P7.tm ((entL P7 0 1000).take j) ∧ Spoil w8 rb m X wx)) (fun _ _ i _ => m - (intOf i).toNat)
          case atStart => exact ⟨0, _, _, Nat.zero_le _, rfl, rfl, rfl, hid ⟨rfl, rfl, SP.out⟩⟩
          case round =>
            obtain ⟨j, ai, ti, hj, rfl, rfl, rfl, HJ⟩ := hrel
            clear SP
            by_cases hjl : j < m
            · have hjX : j < X.length := by rw [HM.out]; exact hjl
              have hjE : j < (entL P7 0 1000).length := by rw [← HXl.out]; exact hjX
              obtain ⟨q0, q1, q2, q3⟩ := HJ.out.2.2.ent j hjX
              have hxe : atE (entL P7 0 1000) j = (atE X j).pl := by rw [← X9.out]; exact atE_pls _ _ hjX
              obtain ⟨g1, g2, g3⟩ := fol_at HFo.out j hjE
              have HHj := hid (fun (W : World) (u : Old w8 W) => HHs.out W u j hjE)
              have HTk := hid (take_at hjE)
              rw [hxe] at g1 g2 g3 HHj HTk
              rw [← HJ.out.1] at g1
              rw [← HJ.out.2.1] at g2
              have HDB := hid (HJ.out.2.2.d _ (atE_mem X j hjX))
              have hrp := rightE_parts g3
              generalize atE X j = E at *
              obtain ⟨ei, et, ek, ep, ec, ed⟩ := E
              dsimp only [En.e, En.pl] at q0 q1 q2 q3 g1 g2 HHj HTk hrp
              have HDB2 := hid (show 0 < ed.length → ∃ g, ep = some ⟨g, 0, none⟩ ∧ w8.heap.size ≤ g from fun h0 => by obtain ⟨g, cur, e1, -, -, e4⟩ := HDB.out h0; exact ⟨g, e1, e4⟩)
              have HLA := hid (show ei = lstI P7.ix ((entL P7 0 1000).take (j + 1)) ∧ et = lstT P7.tm ((entL P7 0 1000).take (j + 1)) from by rw [HTk.out, lstI_app, lstT_app]; exact ⟨rfl, rfl⟩)
              have HED := hid (show ed.length ≤ 2048 from hrp.2.2.2.2.1)
              have r1 : 1 ≤ ei := hrp.1
              have r2 : ei ≤ 1099511627776 := hrp.2.1
              obtain ⟨el, hel⟩ : ∃ el, ed.length = el := ⟨_, rfl⟩
              have HEL := hid hel
              rw [hel] at q3 HED HDB2
              have n1 : (ei != ai + 1) = false := by rw [g1]; simp
              have n2 : decide (et < ti) = false := decide_eq_false (by omega)
              have b1 : ai ≤ 1099511627776 := by omega
              have b2 : 0 ≤ ai := by omega
              have l3 : (0 : Int) ≤ (j : Int) := by omega
              have l4 : (j : Int) < (m : Int) := by omega
              have l5 : (el : Int) ≤ 2048 := by have := HED.out; omega
              clear hxe g3 hrp hel g1 g2 HTk hjE hjX
              have HDJ := hid (HDB.out.old ((Old.refl wr).alloc (.cells #[.int .i64 ei, .int .i64 et, .int .i64 ek, .slice ep el ec] 41)))
              have SJ := hid (HJ.out.2.2.old ((Old.refl wr).alloc (.cells #[.int .i64 ei, .int .i64 et, .int .i64 ek, .slice ep el ec] 41)))
              have BJ := hid (alloc_at wr (.cells #[.int .i64 ei, .int .i64 et, .int .i64 ek, .slice ep el ec] 41))
              go_upto_region 21 with (fail)
              generalize wr.alloc (.cells #[.int .i64 ei, .int .i64 et, .int .i64 ek, .slice ep el ec] 41) = wj at *
              generalize wr.heap.size = bx at *
              obtain ⟨s0, s1, s2, s3, -⟩ := box4 BJ.out
              clear q0 q1 q2 q3
              go_upto_region 27 with (go_at_call 15; refine (HHj.out _ SJ.out.u).mono ?_; rintro e wh ⟨rfl, oh⟩; have SH := hid (SJ.out.old oh); have HDH := hid (HDJ.out.old oh); have BH := hid (oh.block BJ.out); clear oh)
              clear s0 s1 s2 s3 SJ BJ HHj
              obtain ⟨s0, s1, s2, s3, -⟩ := box4 BH.out
              go_wp2
              generalize wr = wr2 at *
              go_loopw [114] (fun i wx => ∃ q : Nat, q ≤ el ∧ i = .int .i64 (q : Nat) ∧ Hid (Spoil w8 rb m X wx ∧ EBx bx ei et ek ep el ec wx ∧ DB w8.heap.size ⟨ei, et, ek, ep, ec, ed⟩ wx)) (fun i _ => el - (intOf i).toNat)
              case atStart => exact ⟨0, Nat.zero_le _, rfl, hid ⟨SH.out, BH.out, HDH.out⟩⟩
              case round =>
                obtain ⟨q, hq, rfl, HQ⟩ := hrel
                clear s0 s1 s2 s3
                obtain ⟨s0, s1, s2, s3, -⟩ := box4 HQ.out.2.1
                by_cases hql : q < el
                · obtain ⟨g, cur, e1, e2, e3, e4⟩ := HQ.out.2.2 (by dsimp only; rw [HEL.out]; omega)
                  dsimp only at e1 e3
                  subst e1
                  rw [HEL.out] at e3
                  have hgl : q < cur.size := by omega
                  have t0 : wr.cell? ⟨g, q, none⟩ = some cur[q] := by rw [Go.Joins.cell_of_block e2, Array.getElem?_eq_getElem hgl]
                  have tf : wr.frozen? ⟨g, q, none⟩ = false := Go.Joins.unfrozen_of_block e2 q
                  have l6 : (0 : Int) ≤ (q : Int) := by omega
                  have l7 : (q : Int) < (el : Int) := by omega
                  have S2 := hid (HQ.out.1.set g q (.int .u8 99) cur e2 e4)
                  have B2 := hid (show EBx bx ei et ek (some ⟨g, 0, none⟩) el ec (wr.setCell ⟨g, q, none⟩ (.int .u8 99)) from set_other HQ.out.2.1 (ty_ne HQ.out.2.1 e2 (by decide)))
                  have D2 := hid (HQ.out.2.2.set ⟨g, q, none⟩ (.int .u8 99) rfl)
                  generalize cur[q] = cq at *
                  clear e2 e3 hgl
                  go_wp2
                  exact ⟨⟨q + 1, hql, by go_num, hid ⟨S2.out, B2.out, D2.out⟩⟩, by simp [intOf]; omega⟩
                · obtain rfl : el = q := by omega
                  go_wp2
                  exact ⟨⟨j + 1, ei, et, hjl, by go_num, rfl, rfl, hid ⟨HLA.out.1, HLA.out.2, HQ.out.1⟩⟩, by simp [intOf]; omega⟩
            · obtain rfl : m = j := by omega
              have HLj := hid (HLt.out _ HJ.out.2.2.u)
              have HEq := hid (show m < 1000 → ai = lstI P7.ix P7.es ∧ ti = lstT P7.tm P7.es from fun h => by
                have h3 : (entL P7 0 1000).length = m := by rw [← HXl.out, HM.out]
                have h4 := HM2.out (by omega)
                rw [HJ.out.1, HJ.out.2.1, List.take_of_length_le (by omega), h4]; exact ⟨rfl, rfl⟩)
              generalize lstI P7.ix P7.es = fi at *
              generalize lstT P7.tm P7.es = ft at *
              by_cases h1k : m < 1000
              · obtain ⟨e1, e2⟩ := HEq.out h1k
                have d1k : decide ((m : Int) < 1000) = true := decide_eq_true (by omega)
                have i1 : (ai != fi) = false := by simp [e1]
                have i2 : (ti != ft) = false := by simp [e2]
                clear e1 e2 HEq
                go_wp2_with (go_at_call 8; refine HLj.out.mono ?_; rintro e wl ⟨rfl, ol⟩; have OL := hid (HJ.out.2.2.u.trans ol); clear ol)
                exact ⟨⟨k + 1, G7, P7, hlt, by go_num, hid ⟨L8.out.old OL.out, U8.out.trans OL.out⟩⟩, by simp [intOf]; omega⟩
              · have d1k : decide ((m : Int) < 1000) = false := decide_eq_false (by omega)
                clear HEq
                go_wp2_with (go_at_call 8; refine HLj.out.mono ?_; rintro e wl ⟨rfl, ol⟩; have OL := hid (HJ.out.2.2.u.trans ol); clear ol)
                exact ⟨⟨k + 1, G7, P7, hlt, by go_num, hid ⟨L8.out.old OL.out, U8.out.trans OL.out⟩⟩, by simp [intOf]; omega⟩
        · by_cases c3 : ok = 3
          · subst c3
            have HCt := hid (drop_any W0.heap.size lb G P (pix + bits .and .i64 on 15) w4 L4.out)
            obtain ⟨z, hbz⟩ : ∃ z, bits .and .i64 on 15 = z := ⟨_, rfl⟩
            rw [hbz] at HCt hz1 hz2
            go_upto_region 16 with (go_at_call 13; refine HCt.out.mono ?_; rintro e w7 ⟨rfl, G7, l7, m7⟩; have L7 := hid l7; have U7 := hid (Mov.keep U4.out L4.out m7); clear l7 m7)
            clear HCt x0 x1 x2 x3 L4 U4 O4 HI hbz
            generalize drpP P (pix + z) = P7 at *
            clear hz1 hz2 hP0 hP1 HER2 HOp
            have HBs := hid (L7.out.m.base L7.out.lg)
            rw [L7.out.is.ix, L7.out.is.tm] at HBs
            have HEn := hid (fun (W : World) (u : Old w7 W) => entries_any W0.heap.size lb G7 P7 0 1000 W (L7.out.old u))
            go_upto_region 18 with (first | (go_at_call 9; refine HBs.out.mono ?_; rintro e w8 ⟨rfl, o8⟩; have L8 := hid (L7.out.old o8); have U8 := hid (U7.out.trans o8); have O8 := hid o8; clear o8) | (go_at_call 14; refine (HEn.out _ O8.out).mono ?_; rintro e w9 ⟨v9, X, rfl, n9, x9, o9⟩; have X9 := hid x9; have N9 := hid (n9.spoil o9); clear n9 x9 o9; obtain ⟨rb, ev, -⟩ := N9.out; subst ev))
            have SP := hid (show Spoil w8 rb X.length X w9 from by obtain ⟨rb', e, q⟩ := N9.out; simp only [Value.slice.injEq, Option.some.injEq, Addr.mk.injEq, and_true] at e; rw [e]; exact q)
            clear N9 HBs HEn L7 U7 O8
            have hXl : X.length = (entL P7 0 1000).length := by rw [← X9.out, pls_len]
            obtain ⟨hm1, hm2⟩ := ent_len L8.out.ok
            have HFo := hid (ent_fol L8.out.ok 1000)
            have HHs := hid (fun (W : World) (u : Old w8 W) (j : Nat) (hj : j < (entL P7 0 1000).length) => has_at (L8.out.old u) 1000 j hj)
            have HLt := hid (fun (W : World) (u : Old w8 W) => (L8.out.old u).m.last (L8.out.old u).lg)
            have HLs : lstI G7.ix G7.es = lstI P7.ix P7.es ∧ lstT G7.tm G7.es = lstT P7.tm P7.es := by rw [L8.out.is.ix, L8.out.is.tm, ← lstI_pls _ G7.es, ← lstT_pls _ G7.es, L8.out.is.es]; exact ⟨rfl, rfl⟩
            rw [HLs.1, HLs.2] at HLt
            have HB := hid (show 0 ≤ P7.ix ∧ P7.ix ≤ 1099511627776 ∧ 0 ≤ P7.tm ∧ P7.tm ≤ 1099511627776 from ⟨L8.out.ok.i0, L8.out.ok.i1, L8.out.ok.t0, L8.out.ok.t1⟩)
            obtain ⟨m, hm⟩ : ∃ m, X.length = m := ⟨_, rfl⟩
            have HM := hid hm
            have HXl := hid hXl
            have HM2 := hid hm2
            rw [hm] at SP
            have hmm : (m : Int) ≤ 1000 := by omega
            simp only [hm]
            clear hm hXl hm1 hm2 HLs
            go_wp2
            generalize wr = wrr at *
            go_loopw [16, 17, 87] (fun a t i wx => ∃ (j : Nat) (ai ti : Int), j ≤ m ∧ i = .int .i64 (j : Nat) ∧ a = .int .i64 ai ∧ t = .int .i64 ti ∧ Hid (ai = lstI P7.ix ((entL P7 0 1000).take j) ∧ ti = lstT P7.tm ((entL P7 0 1000).take j) ∧ Spoil w8 rb m X wx)) (fun _ _ i _ => m - (intOf i).toNat)
            case atStart => exact ⟨0, _, _, Nat.zero_le _, rfl, rfl, rfl, hid ⟨rfl, rfl, SP.out⟩⟩
            case round =>
              obtain ⟨j, ai, ti, hj, rfl, rfl, rfl, HJ⟩ := hrel
              clear SP
              by_cases hjl : j < m
              · have hjX : j < X.length := by rw [HM.out]; exact hjl
                have hjE : j < (entL P7 0 1000).length := by rw [← HXl.out]; exact hjX
                obtain ⟨q0, q1, q2, q3⟩ := HJ.out.2.2.ent j hjX
                have hxe : atE (entL P7 0 1000) j = (atE X j).pl := by rw [← X9.out]; exact atE_pls _ _ hjX
                obtain ⟨g1, g2, g3⟩ := fol_at HFo.out j hjE
                have HHj := hid (fun (W : World) (u : Old w8 W) => HHs.out W u j hjE)
                have HTk := hid (take_at hjE)
                rw [hxe] at g1 g2 g3 HHj HTk
                rw [← HJ.out.1] at g1
                rw [← HJ.out.2.1] at g2
                have HDB := hid (HJ.out.2.2.d _ (atE_mem X j hjX))
                have hrp := rightE_parts g3
                generalize atE X j = E at *
                obtain ⟨ei, et, ek, ep, ec, ed⟩ := E
                dsimp only [En.e, En.pl] at q0 q1 q2 q3 g1 g2 HHj HTk hrp
                have HDB2 := hid (show 0 < ed.length → ∃ g, ep = some ⟨g, 0, none⟩ ∧ w8.heap.size ≤ g from fun h0 => by obtain ⟨g, cur, e1, -, -, e4⟩ := HDB.out h0; exact ⟨g, e1, e4⟩)
                have HLA := hid (show ei = lstI P7.ix ((entL P7 0 1000).take (j + 1)) ∧ et = lstT P7.tm ((entL P7 0 1000).take (j + 1)) from by rw [HTk.out, lstI_app, lstT_app]; exact ⟨rfl, rfl⟩)
                have HED := hid (show ed.length ≤ 2048 from hrp.2.2.2.2.1)
                have r1 : 1 ≤ ei := hrp.1
                have r2 : ei ≤ 1099511627776 := hrp.2.1
                obtain ⟨el, hel⟩ : ∃ el, ed.length = el := ⟨_, rfl⟩
                have HEL := hid hel
                rw [hel] at q3 HED HDB2
                have n1 : (ei != ai + 1) = false := by rw [g1]; simp
                have n2 : decide (et < ti) = false := decide_eq_false (by omega)
                have b1 : ai ≤ 1099511627776 := by omega
                have b2 : 0 ≤ ai := by omega
                have l3 : (0 : Int) ≤ (j : Int) := by omega
                have l4 : (j : Int) < (m : Int) := by omega
                have l5 : (el : Int) ≤ 2048 := by have := HED.out; omega
                clear hxe g3 hrp hel g1 g2 HTk hjE hjX
                have HDJ := hid (HDB.out.old ((Old.refl wr).alloc (.cells #[.int .i64 ei, .int .i64 et, .int .i64 ek, .slice ep el ec] 41)))
                have SJ := hid (HJ.out.2.2.old ((Old.refl wr).alloc (.cells #[.int .i64 ei, .int .i64 et, .int .i64 ek, .slice ep el ec] 41)))
                have BJ := hid (alloc_at wr (.cells #[.int .i64 ei, .int .i64 et, .int .i64 ek, .slice ep el ec] 41))
                go_upto_region 21 with (fail)
                generalize wr.alloc (.cells #[.int .i64 ei, .int .i64 et, .int .i64 ek, .slice ep el ec] 41) = wj at *
                generalize wr.heap.size = bx at *
                obtain ⟨s0, s1, s2, s3, -⟩ := box4 BJ.out
                clear q0 q1 q2 q3
                go_upto_region 27 with (go_at_call 15; refine (HHj.out _ SJ.out.u).mono ?_; rintro e wh ⟨rfl, oh⟩; have SH := hid (SJ.out.old oh); have HDH := hid (HDJ.out.old oh); have BH := hid (oh.block BJ.out); clear oh)
                clear s0 s1 s2 s3 SJ BJ HHj
                obtain ⟨s0, s1, s2, s3, -⟩ := box4 BH.out
                go_wp2
                generalize wr = wr2 at *
                go_loopw [114] (fun i wx => ∃ q : Nat, q ≤ el ∧ i = .int .i64 (q : Nat) ∧ Hid (Spoil w8 rb m X wx ∧ EBx bx ei et ek ep el ec wx ∧ DB w8.heap.size ⟨ei, et, ek, ep, ec, ed⟩ wx)) (fun i _ => el - (intOf i).toNat)
                case atStart => exact ⟨0, Nat.zero_le _, rfl, hid ⟨SH.out, BH.out, HDH.out⟩⟩
                case round =>
                  obtain ⟨q, hq, rfl, HQ⟩ := hrel
                  clear s0 s1 s2 s3
                  obtain ⟨s0, s1, s2, s3, -⟩ := box4 HQ.out.2.1
                  by_cases hql : q < el
                  · obtain ⟨g, cur, e1, e2, e3, e4⟩ := HQ.out.2.2 (by dsimp only; rw [HEL.out]; omega)
                    dsimp only at e1 e3
                    subst e1
                    rw [HEL.out] at e3
                    have hgl : q < cur.size := by omega
                    have t0 : wr.cell? ⟨g, q, none⟩ = some cur[q] := by rw [Go.Joins.cell_of_block e2, Array.getElem?_eq_getElem hgl]
                    have tf : wr.frozen? ⟨g, q, none⟩ = false := Go.Joins.unfrozen_of_block e2 q
                    have l6 : (0 : Int) ≤ (q : Int) := by omega
                    have l7 : (q : Int) < (el : Int) := by omega
                    have S2 := hid (HQ.out.1.set g q (.int .u8 99) cur e2 e4)
                    have B2 := hid (show EBx bx ei et ek (some ⟨g, 0, none⟩) el ec (wr.setCell ⟨g, q, none⟩ (.int .u8 99)) from set_other HQ.out.2.1 (ty_ne HQ.out.2.1 e2 (by decide)))
                    have D2 := hid (HQ.out.2.2.set ⟨g, q, none⟩ (.int .u8 99) rfl)
                    generalize cur[q] = cq at *
                    clear e2 e3 hgl
                    go_wp2
                    exact ⟨⟨q + 1, hql, by go_num, hid ⟨S2.out, B2.out, D2.out⟩⟩, by simp [intOf]; omega⟩
                  · obtain rfl : el = q := by omega
                    go_wp2
                    exact ⟨⟨j + 1, ei, et, hjl, by go_num, rfl, rfl, hid ⟨HLA.out.1, HLA.out.2, HQ.out.1⟩⟩, by simp [intOf]; omega⟩
              · obtain rfl : m = j := by omega
                have HLj := hid (HLt.out _ HJ.out.2.2.u)
                have HEq := hid (show m < 1000 → ai = lstI P7.ix P7.es ∧ ti = lstT P7.tm P7.es from fun h => by
                  have h3 : (entL P7 0 1000).length = m := by rw [← HXl.out, HM.out]
                  have h4 := HM2.out (by omega)
                  rw [HJ.out.1, HJ.out.2.1, List.take_of_length_le (by omega), h4]; exact ⟨rfl, rfl⟩)
                generalize lstI P7.ix P7.es = fi at *
                generalize lstT P7.tm P7.es = ft at *
                by_cases h1k : m < 1000
                · obtain ⟨e1, e2⟩ := HEq.out h1k
                  have d1k : decide ((m : Int) < 1000) = true := decide_eq_true (by omega)
                  have i1 : (ai != fi) = false := by simp [e1]
                  have i2 : (ti != ft) = false := by simp [e2]
                  clear e1 e2 HEq
                  go_wp2_with (go_at_call 8; refine HLj.out.mono ?_; rintro e wl ⟨rfl, ol⟩; have OL := hid (HJ.out.2.2.u.trans ol); clear ol)
                  exact ⟨⟨k + 1, G7, P7, hlt, by go_num, hid ⟨L8.out.old OL.out, U8.out.trans OL.out⟩⟩, by simp [intOf]; omega⟩
                · have d1k : decide ((m : Int) < 1000) = false := decide_eq_false (by omega)
                  clear HEq
                  go_wp2_with (go_at_call 8; refine HLj.out.mono ?_; rintro e wl ⟨rfl, ol⟩; have OL := hid (HJ.out.2.2.u.trans ol); clear ol)
                  exact ⟨⟨k + 1, G7, P7, hlt, by go_num, hid ⟨L8.out.old OL.out, U8.out.trans OL.out⟩⟩, by simp [intOf]; omega⟩
          · have d1 : (ok == 1) = false := by simp [c1]
            have d2 : (ok == 2) = false := by simp [c2]
            have d3 : (ok == 3) = false := by simp [c3]
            go_upto_region 16 with (fail)
            clear x0 x1 x2 x3 O4 HI
            have L7 := L4
            have U7 := U4
            clear L4 U4
            generalize w4 = w7 at *
            generalize G = G7 at *
            generalize P = P7 at *
            clear hz1 hz2 hP0 hP1 HER2 HOp
            have HBs := hid (L7.out.m.base L7.out.lg)
            rw [L7.out.is.ix, L7.out.is.tm] at HBs
            have HEn := hid (fun (W : World) (u : Old w7 W) => entries_any W0.heap.size lb G7 P7 0 1000 W (L7.out.old u))
            go_upto_region 18 with (first | (go_at_call 9; refine HBs.out.mono ?_; rintro e w8 ⟨rfl, o8⟩; have L8 := hid (L7.out.old o8); have U8 := hid (U7.out.trans o8); have O8 := hid o8; clear o8) | (go_at_call 14; refine (HEn.out _ O8.out).mono ?_; rintro e w9 ⟨v9, X, rfl, n9, x9, o9⟩; have X9 := hid x9; have N9 := hid (n9.spoil o9); clear n9 x9 o9; obtain ⟨rb, ev, -⟩ := N9.out; subst ev))
            have SP := hid (show Spoil w8 rb X.length X w9 from by obtain ⟨rb', e, q⟩ := N9.out; simp only [Value.slice.injEq, Option.some.injEq, Addr.mk.injEq, and_true] at e; rw [e]; exact q)
            clear N9 HBs HEn L7 U7 O8
            have hXl : X.length = (entL P7 0 1000).length := by rw [← X9.out, pls_len]
            obtain ⟨hm1, hm2⟩ := ent_len L8.out.ok
            have HFo := hid (ent_fol L8.out.ok 1000)
            have HHs := hid (fun (W : World) (u : Old w8 W) (j : Nat) (hj : j < (entL P7 0 1000).length) => has_at (L8.out.old u) 1000 j hj)
            have HLt := hid (fun (W : World) (u : Old w8 W) => (L8.out.old u).m.last (L8.out.old u).lg)
            have HLs : lstI G7.ix G7.es = lstI P7.ix P7.es ∧ lstT G7.tm G7.es = lstT P7.tm P7.es := by rw [L8.out.is.ix, L8.out.is.tm, ← lstI_pls _ G7.es, ← lstT_pls _ G7.es, L8.out.is.es]; exact ⟨rfl, rfl⟩
            rw [HLs.1, HLs.2] at HLt
            have HB := hid (show 0 ≤ P7.ix ∧ P7.ix ≤ 1099511627776 ∧ 0 ≤ P7.tm ∧ P7.tm ≤ 1099511627776 from ⟨L8.out.ok.i0, L8.out.ok.i1, L8.out.ok.t0, L8.out.ok.t1⟩)
            obtain ⟨m, hm⟩ : ∃ m, X.length = m := ⟨_, rfl⟩
            have HM := hid hm
            have HXl := hid hXl
            have HM2 := hid hm2
            rw [hm] at SP
            have hmm : (m : Int) ≤ 1000 := by omega
            simp only [hm]
            clear hm hXl hm1 hm2 HLs
            go_wp2
            generalize wr = wrr at *
            go_loopw [16, 17, 87] (fun a t i wx => ∃ (j : Nat) (ai ti : Int), j ≤ m ∧ i = .int .i64 (j : Nat) ∧ a = .int .i64 ai ∧ t = .int .i64 ti ∧ Hid (ai = lstI P7.ix ((entL P7 0 1000).take j) ∧ ti = lstT P7.tm ((entL P7 0 1000).take j) ∧ Spoil w8 rb m X wx)) (fun _ _ i _ => m - (intOf i).toNat)
            case atStart => exact ⟨0, _, _, Nat.zero_le _, rfl, rfl, rfl, hid ⟨rfl, rfl, SP.out⟩⟩
            case round =>
              obtain ⟨j, ai, ti, hj, rfl, rfl, rfl, HJ⟩ := hrel
              clear SP
              by_cases hjl : j < m
              · have hjX : j < X.length := by rw [HM.out]; exact hjl
                have hjE : j < (entL P7 0 1000).length := by rw [← HXl.out]; exact hjX
                obtain ⟨q0, q1, q2, q3⟩ := HJ.out.2.2.ent j hjX
                have hxe : atE (entL P7 0 1000) j = (atE X j).pl := by rw [← X9.out]; exact atE_pls _ _ hjX
                obtain ⟨g1, g2, g3⟩ := fol_at HFo.out j hjE
                have HHj := hid (fun (W : World) (u : Old w8 W) => HHs.out W u j hjE)
                have HTk := hid (take_at hjE)
                rw [hxe] at g1 g2 g3 HHj HTk
                rw [← HJ.out.1] at g1
                rw [← HJ.out.2.1] at g2
                have HDB := hid (HJ.out.2.2.d _ (atE_mem X j hjX))
                have hrp := rightE_parts g3
                generalize atE X j = E at *
                obtain ⟨ei, et, ek, ep, ec, ed⟩ := E
                dsimp only [En.e, En.pl] at q0 q1 q2 q3 g1 g2 HHj HTk hrp
                have HDB2 := hid (show 0 < ed.length → ∃ g, ep = some ⟨g, 0, none⟩ ∧ w8.heap.size ≤ g from fun h0 => by obtain ⟨g, cur, e1, -, -, e4⟩ := HDB.out h0; exact ⟨g, e1, e4⟩)
                have HLA := hid (show ei = lstI P7.ix ((entL P7 0 1000).take (j + 1)) ∧ et = lstT P7.tm ((entL P7 0 1000).take (j + 1)) from by rw [HTk.out, lstI_app, lstT_app]; exact ⟨rfl, rfl⟩)
                have HED := hid (show ed.length ≤ 2048 from hrp.2.2.2.2.1)
                have r1 : 1 ≤ ei := hrp.1
                have r2 : ei ≤ 1099511627776 := hrp.2.1
                obtain ⟨el, hel⟩ : ∃ el, ed.length = el := ⟨_, rfl⟩
                have HEL := hid hel
                rw [hel] at q3 HED HDB2
                have n1 : (ei != ai + 1) = false := by rw [g1]; simp
                have n2 : decide (et < ti) = false := decide_eq_false (by omega)
                have b1 : ai ≤ 1099511627776 := by omega
                have b2 : 0 ≤ ai := by omega
                have l3 : (0 : Int) ≤ (j : Int) := by omega
                have l4 : (j : Int) < (m : Int) := by omega
                have l5 : (el : Int) ≤ 2048 := by have := HED.out; omega
                clear hxe g3 hrp hel g1 g2 HTk hjE hjX
                have HDJ := hid (HDB.out.old ((Old.refl wr).alloc (.cells #[.int .i64 ei, .int .i64 et, .int .i64 ek, .slice ep el ec] 41)))
                have SJ := hid (HJ.out.2.2.old ((Old.refl wr).alloc (.cells #[.int .i64 ei, .int .i64 et, .int .i64 ek, .slice ep el ec] 41)))
                have BJ := hid (alloc_at wr (.cells #[.int .i64 ei, .int .i64 et, .int .i64 ek, .slice ep el ec] 41))
                go_upto_region 21 with (fail)
                generalize wr.alloc (.cells #[.int .i64 ei, .int .i64 et, .int .i64 ek, .slice ep el ec] 41) = wj at *
                generalize wr.heap.size = bx at *
                obtain ⟨s0, s1, s2, s3, -⟩ := box4 BJ.out
                clear q0 q1 q2 q3
                go_upto_region 27 with (go_at_call 15; refine (HHj.out _ SJ.out.u).mono ?_; rintro e wh ⟨rfl, oh⟩; have SH := hid (SJ.out.old oh); have HDH := hid (HDJ.out.old oh); have BH := hid (oh.block BJ.out); clear oh)
                clear s0 s1 s2 s3 SJ BJ HHj
                obtain ⟨s0, s1, s2, s3, -⟩ := box4 BH.out
                go_wp2
                generalize wr = wr2 at *
                go_loopw [114] (fun i wx => ∃ q : Nat, q ≤ el ∧ i = .int .i64 (q : Nat) ∧ Hid (Spoil w8 rb m X wx ∧ EBx bx ei et ek ep el ec wx ∧ DB w8.heap.size ⟨ei, et, ek, ep, ec, ed⟩ wx)) (fun i _ => el - (intOf i).toNat)
                case atStart => exact ⟨0, Nat.zero_le _, rfl, hid ⟨SH.out, BH.out, HDH.out⟩⟩
                case round =>
                  obtain ⟨q, hq, rfl, HQ⟩ := hrel
                  clear s0 s1 s2 s3
                  obtain ⟨s0, s1, s2, s3, -⟩ := box4 HQ.out.2.1
                  by_cases hql : q < el
                  · obtain ⟨g, cur, e1, e2, e3, e4⟩ := HQ.out.2.2 (by dsimp only; rw [HEL.out]; omega)
                    dsimp only at e1 e3
                    subst e1
                    rw [HEL.out] at e3
                    have hgl : q < cur.size := by omega
                    have t0 : wr.cell? ⟨g, q, none⟩ = some cur[q] := by rw [Go.Joins.cell_of_block e2, Array.getElem?_eq_getElem hgl]
                    have tf : wr.frozen? ⟨g, q, none⟩ = false := Go.Joins.unfrozen_of_block e2 q
                    have l6 : (0 : Int) ≤ (q : Int) := by omega
                    have l7 : (q : Int) < (el : Int) := by omega
                    have S2 := hid (HQ.out.1.set g q (.int .u8 99) cur e2 e4)
                    have B2 := hid (show EBx bx ei et ek (some ⟨g, 0, none⟩) el ec (wr.setCell ⟨g, q, none⟩ (.int .u8 99)) from set_other HQ.out.2.1 (ty_ne HQ.out.2.1 e2 (by decide)))
                    have D2 := hid (HQ.out.2.2.set ⟨g, q, none⟩ (.int .u8 99) rfl)
                    generalize cur[q] = cq at *
                    clear e2 e3 hgl
                    go_wp2
                    exact ⟨⟨q + 1, hql, by go_num, hid ⟨S2.out, B2.out, D2.out⟩⟩, by simp [intOf]; omega⟩
                  · obtain rfl : el = q := by omega
                    go_wp2
                    exact ⟨⟨j + 1, ei, et, hjl, by go_num, rfl, rfl, hid ⟨HLA.out.1, HLA.out.2, HQ.out.1⟩⟩, by simp [intOf]; omega⟩
              · obtain rfl : m = j := by omega
                have HLj := hid (HLt.out _ HJ.out.2.2.u)
                have HEq := hid (show m < 1000 → ai = lstI P7.ix P7.es ∧ ti = lstT P7.tm P7.es from fun h => by
                  have h3 : (entL P7 0 1000).length = m := by rw [← HXl.out, HM.out]
                  have h4 := HM2.out (by omega)
                  rw [HJ.out.1, HJ.out.2.1, List.take_of_length_le (by omega), h4]; exact ⟨rfl, rfl⟩)
                generalize lstI P7.ix P7.es = fi at *
                generalize lstT P7.tm P7.es = ft at *
                by_cases h1k : m < 1000
                · obtain ⟨e1, e2⟩ := HEq.out h1k
                  have d1k : decide ((m : Int) < 1000) = true := decide_eq_true (by omega)
                  have i1 : (ai != fi) = false := by simp [e1]
                  have i2 : (ti != ft) = false := by simp [e2]
                  clear e1 e2 HEq
                  go_wp2_with (go_at_call 8; refine HLj.out.mono ?_; rintro e wl ⟨rfl, ol⟩; have OL := hid (HJ.out.2.2.u.trans ol); clear ol)
                  exact ⟨⟨k + 1, G7, P7, hlt, by go_num, hid ⟨L8.out.old OL.out, U8.out.trans OL.out⟩⟩, by simp [intOf]; omega⟩
                · have d1k : decide ((m : Int) < 1000) = false := decide_eq_false (by omega)
                  clear HEq
                  go_wp2_with (go_at_call 8; refine HLj.out.mono ?_; rintro e wl ⟨rfl, ol⟩; have OL := hid (HJ.out.2.2.u.trans ol); clear ol)
                  exact ⟨⟨k + 1, G7, P7, hlt, by go_num, hid ⟨L8.out.old OL.out, U8.out.trans OL.out⟩⟩, by simp [intOf]; omega⟩
    · obtain rfl : n = k := by omega
      go_wp2
      go_ret
      exact ⟨rfl, U0.out.trans HI.out.2⟩
end Go.Proofs.Ytgpfmohaogppiaa
