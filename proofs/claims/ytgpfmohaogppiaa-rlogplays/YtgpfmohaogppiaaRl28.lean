/- The law's alike of layer 16, at a log and the document's log that tell the same; conditions: both lie in memory. -/
import Derived.Test.YtgpfmohaogppiaaRl27
namespace Go.Proofs.Ytgpfmohaogppiaa
open Go.RowKit Go.Lib
set_option linter.unusedVariables false
set_option linter.unusedSimpArgs false
set_option maxRecDepth 20000
theorem cfA_last {P : PL} (k : PLok P) : cfA P (lI P) = cfL P := by
  have hl : lI P = P.ix + P.es.length := Fol.len _ _ _ k.fol
  unfold cfA cfL
  rw [show cN P (lI P) = P.es.length from by unfold cN; omega, List.take_length]
theorem LogP.has {base lb : Nat} {G : Lg} {P : PL} {w : World} (h : LogP base lb G P w) (a b : Int) : Calls Try.prog 15 #[.pointer (some ⟨lb, 0, none⟩), .int .i64 a, .int .i64 b] w fun e w' => e = .returned (.bool (drpB P a && (tmP P a == b))) ∧ Old w w' := by
  have q := has_any lb G.ix G.tm G.es.length (entA (G.es.map En.e)) a b w (h.m.s h.lg)
  have hB : tmB G.ix G.es.length a = drpB P a := by unfold tmB drpB; rw [h.is.ix, h.is.len.1]
  have hV : tmV G.ix G.tm G.es.length (entA (G.es.map En.e)) a = tmP P a := by
    unfold tmP
    by_cases hb : drpB P a = true
    · rw [if_pos hb, tm_take _ _ _ _ (hB.trans hb), h.is.ix, h.is.tm, ← lstT_pls, pls_take, h.is.es]
    · unfold tmV
      rw [if_neg (by rw [hB]; exact hb), if_neg hb]
  rw [hB, hV] at q
  exact q
theorem LogP.base {base lb : Nat} {G : Lg} {P : PL} {w : World} (h : LogP base lb G P w) : Calls Try.prog 9 #[.pointer (some ⟨lb, 0, none⟩)] w fun e w' => e = .returned (.tuple #[.int .i64 P.ix, .int .i64 P.tm]) ∧ Old w w' := by
  have q := h.m.base h.lg
  rw [h.is.ix, h.is.tm] at q
  exact q
set_option maxHeartbeats 16000000 in
set_option maxRecDepth 20000 in
theorem alike_any (base lb : Nat) (G : Lg) (P : PL) (D : Dg) (at_ most : Int) (w : World) (h : LogP base lb G P w) (hd : DocP P D w) :
    Calls Try.prog 28 #[.pointer (some ⟨lb, 0, none⟩), DV P D, .int .i64 at_, .int .i64 most] w fun e w' => e = .returned (.bool true) ∧ Old w w' := by
  have HLs := hid (fun (W : World) (u : Old w W) => (h.old u).last)
  have HDl := hid (fun (W : World) (u : Old w W) => rLast_any P D W (hd.old u))
  have HBs := hid (fun (W : World) (u : Old w W) => (h.old u).base)
  have HCn := hid (fun (W : World) (u : Old w W) => (h.old u).conf)
  have HDc := hid (fun (W : World) (u : Old w W) => rConfAt_any P D (lI P) W (hd.old u))
  have HTm := hid (fun (W : World) (u : Old w W) => (h.old u).term at_)
  have HDt := hid (fun (W : World) (u : Old w W) => rTerm_any P D at_ W (hd.old u))
  have HDa := hid (fun (W : World) (u : Old w W) => rConfAt_any P D at_ W (hd.old u))
  have HCa := hid (fun (W : World) (u : Old w W) => (h.old u).confAt at_)
  have HEn := hid (fun (W : World) (u : Old w W) => entries_any base lb G P at_ most W (h.old u))
  have HFm := hid (fun (W : World) (u : Old w W) => rFrom_any P D at_ most W (hd.old u))
  have HHa := hid (fun (W : World) (u : Old w W) => (h.old u).has at_ (lT P))
  have HDh := hid (fun (W : World) (u : Old w W) => rHas_log P D at_ (lT P) W (hd.old u))
  have HNw := hid (fun (W : World) (u : Old w W) => (h.old u).newer at_ (lT P))
  have HDn := hid (fun (W : World) (u : Old w W) => rNewer_any P D at_ (lT P) W (hd.old u))
  have HSl := hid h.smallL
  have HSn := hid (show (cfA P at_).2.1.length ≤ 17592186044000 ∧ (cfA P at_).2.2.length ≤ 17592186044000 from h.small (cN P at_))
  have HEl := hid (show (entL P at_ most).length ≤ 2932031007402 from Nat.le_trans (entL_len _ _ _) (by have := h.ok.bound; have := h.ok.i0; omega))
  rw [cfA_last h.ok] at HDc
  unfold CfPost at HDc HDa
  unfold DV Dg.v1 Dg.v2 Dg.ve at HDl HDc HDt HDa HFm HDh HDn ⊢
  obtain ⟨q1, c1, q2, c2, q, c, X⟩ := D
  dsimp only at HDl HDc HDt HDa HFm HDh HDn ⊢
  clear h hd
  generalize P.a.length = n1 at *
  generalize P.b.length = n2 at *
  generalize X.length = n at *
  generalize P.ix = pix at *
  generalize P.tm = ptm at *
  generalize cfL P = C1 at *
  generalize cfA P at_ = C2 at *
  generalize lI P = li at *
  generalize lT P = lt at *
  generalize (drpB P at_ && (tmP P at_ == lt)) = hb at *
  generalize tmP P at_ = tv at *
  generalize drpB P at_ = tb at *
  generalize newB li lt at_ lt = nw at *
  generalize entL P at_ most = EL at *
  go_enter Try.func28, Try.ntmps28
  go_upto_region 1 with (fail)
  have U0 := hid ((Old.refl w).alloc (.cells #[.int .i64 pix, .int .i64 ptm, .slice q1 n1 c1, .slice q2 n2 c2, .slice q n c] 54))
  have B0 := hid (alloc_at w (.cells #[.int .i64 pix, .int .i64 ptm, .slice q1 n1 c1, .slice q2 n2 c2, .slice q n c] 54))
  generalize w.alloc (.cells #[.int .i64 pix, .int .i64 ptm, .slice q1 n1 c1, .slice q2 n2 c2, .slice q n c] 54) = w0 at *
  generalize w.heap.size = bx at *
  obtain ⟨⟨a0, a1, a2, a3, a4⟩, -⟩ := box5 B0.out
  go_upto_region 2 with (go_at_call 8; refine (HLs.out _ U0.out).mono ?_; rintro e w1 ⟨rfl, o1⟩; have U1 := hid (U0.out.trans o1); have B1 := hid (o1.block B0.out); clear o1)
  clear a0 a1 a2 a3 a4 HLs
  obtain ⟨⟨a0, a1, a2, a3, a4⟩, -⟩ := box5 B1.out
  go_upto_region 3 with (go_at_call 24; refine (HDl.out _ U1.out).mono ?_; rintro e w2 ⟨rfl, o2⟩; have U2 := hid (U1.out.trans o2); have B2 := hid (o2.block B1.out); clear o2)
  clear a0 a1 a2 a3 a4 HDl
  go_upto_region 4 with (go_at_call 9; refine (HBs.out _ U2.out).mono ?_; rintro e w3 ⟨rfl, o3⟩; have U3 := hid (U2.out.trans o3); have B3 := hid (o3.block B2.out); clear o3)
  clear HBs
  go_upto_region 5 with (go_at_call 17; refine (HCn.out _ U3.out).mono ?_; rintro e w4 ⟨v1, v2, rfl, r1, r2, o4⟩; have R1 := hid (OwnI.rowH r1 HSl.out.1); have R2 := hid (OwnI.rowH r2 HSl.out.2); obtain ⟨p1, k1, e1⟩ := r1.len; subst e1; obtain ⟨p2, k2, e2⟩ := r2.len; subst e2; have U4 := hid (U3.out.trans o4); have B4 := hid (o4.block B3.out); clear o4 r1 r2)
  clear HCn
  obtain ⟨l1, hl1⟩ : ∃ l1, C1.2.1.length = l1 := ⟨_, rfl⟩
  obtain ⟨l2, hl2⟩ : ∃ l2, C1.2.2.length = l2 := ⟨_, rfl⟩
  rw [hl1] at R1 HDc ⊢
  rw [hl2] at R2 HDc ⊢
  clear hl1 hl2 HSl
  have A5 := hid ((Old.refl w4).alloc (.cells #[.slice p1 l1 k1, .slice p2 l2 k2] 24))
  have N5 := hid (alloc_at w4 (.cells #[.slice p1 l1 k1, .slice p2 l2 k2] 24))
  generalize w4.alloc (.cells #[.slice p1 l1 k1, .slice p2 l2 k2] 24) = w5 at *
  generalize w4.heap.size = cb at *
  have U5 := hid (U4.out.trans A5.out)
  have B5 := hid (A5.out.block B4.out)
  obtain ⟨⟨a0, a1, a2, a3, a4⟩, -⟩ := box5 B5.out
  go_upto_region 6 with (go_at_call 41; refine (HDc.out _ U5.out).mono ?_; rintro e w6 ⟨s1, s2, z1, z2, rfl, r3, r4, -, -, o6⟩; have R3 := hid r3; have R4 := hid r4; have O6 := hid o6; clear o6 r3 r4)
  clear HDc a0 a1 a2 a3 a4
  have A7 := hid ((Old.refl w6).alloc (.cells #[.slice s1 l1 z1, .slice s2 l2 z2] 24))
  have N7 := hid (alloc_at w6 (.cells #[.slice s1 l1 z1, .slice s2 l2 z2] 24))
  generalize w6.alloc (.cells #[.slice s1 l1 z1, .slice s2 l2 z2] 24) = w7 at *
  generalize w6.heap.size = db at *
  have O7 := hid (O6.out.trans A7.out)
  have U7 := hid (U5.out.trans O7.out)
  have B7 := hid (O7.out.block B5.out)
  have M7 := hid (O7.out.block N5.out)
  have HS1 := hid (same_eq (.slice p1 l1 k1) (.slice p2 l2 k2) (.slice s1 l1 z1) (.slice s2 l2 z2) l1 l2 _ _ w7 (R1.out.old (A5.out.trans O7.out)) (R2.out.old (A5.out.trans O7.out)) (R3.out.old A7.out) (R4.out.old A7.out))
  clear R1 R2 R3 R4 B5 N5 A5 O6 A7 O7 B4 B3 B2 B1 B0
  obtain ⟨⟨a0, a1, a2, a3, a4⟩, -⟩ := box5 B7.out
  obtain ⟨m0, m1⟩ := box2 M7.out
  obtain ⟨o0, o1⟩ := box2 N7.out
  go_upto_region 8 with (go_at_call 19; refine HS1.out.mono ?_; rintro e w8 ⟨rfl, o8⟩; have U8 := hid (U7.out.trans o8); have B8 := hid (o8.block B7.out); clear o8)
  clear a0 a1 a2 a3 a4 m0 m1 o0 o1 HS1 B7 M7 N7
  go_upto_region 9 with (go_at_call 18; refine (HTm.out _ U8.out).mono ?_; rintro e w9 ⟨rfl, o9⟩; have U9 := hid (U8.out.trans o9); have B9 := hid (o9.block B8.out); clear o9)
  clear HTm
  obtain ⟨⟨a0, a1, a2, a3, a4⟩, -⟩ := box5 B9.out
  go_upto_region 10 with (go_at_call 40; refine (HDt.out _ U9.out).mono ?_; rintro e w11 ⟨rfl, o9⟩; have U11 := hid (U9.out.trans o9); have B11 := hid (o9.block B9.out); clear o9)
  clear HDt a0 a1 a2 a3 a4
  obtain ⟨⟨a0, a1, a2, a3, a4⟩, -⟩ := box5 B11.out
  go_upto_region 11 with (go_at_call 41; refine (HDa.out _ U11.out).mono ?_; rintro e w12 ⟨t3, t4, y3, y4, rfl, r3, r4, -, -, o6⟩; have R3 := hid r3; have R4 := hid r4; have O12 := hid o6; clear o6 r3 r4)
  clear HDa a0 a1 a2 a3 a4
  obtain ⟨m3, hm3⟩ : ∃ m3, C2.2.1.length = m3 := ⟨_, rfl⟩
  obtain ⟨m4, hm4⟩ : ∃ m4, C2.2.2.length = m4 := ⟨_, rfl⟩
  have HE1 := hid hm3.symm
  have HE2 := hid hm4.symm
  rw [hm3] at R3 ⊢
  rw [hm4] at R4 ⊢
  clear hm3 hm4
  have A12 := hid ((Old.refl w12).alloc (.cells #[.slice t3 m3 y3, .slice t4 m4 y4] 24))
  have N12 := hid (alloc_at w12 (.cells #[.slice t3 m3 y3, .slice t4 m4 y4] 24))
  generalize w12.alloc (.cells #[.slice t3 m3 y3, .slice t4 m4 y4] 24) = w10 at *
  generalize w12.heap.size = eb at *
  have U10 := hid (U11.out.trans (O12.out.trans A12.out))
  have HR3 := hid (R3.out.old A12.out)
  have HR4 := hid (R4.out.old A12.out)
  have HX := hid (show S6 bx (.int .i64 pix) (.int .i64 ptm) (.slice q1 n1 c1) (.slice q2 n2 c2) (.slice q n c) eb (.slice t3 m3 y3) (.slice t4 m4 y4) w10 from ⟨(box5 ((O12.out.trans A12.out).block B11.out)).1, (box2 N12.out).1, (box2 N12.out).2⟩)
  have H11 := hid (fun (W : World) (u : Old w10 W) => HCa.out W (U10.out.trans u))
  have H19 := hid (fun (W : World) (u : Old w10 W) => HEn.out W (U10.out.trans u))
  have H23 := hid (fun (W : World) (u : Old w10 W) => HFm.out W (U10.out.trans u))
  have H30 := hid (fun (W : World) (u : Old w10 W) => HHa.out W (U10.out.trans u))
  have H34 := hid (fun (W : World) (u : Old w10 W) => HDh.out W (U10.out.trans u))
  have H41 := hid (fun (W : World) (u : Old w10 W) => HNw.out W (U10.out.trans u))
  have H45 := hid (fun (W : World) (u : Old w10 W) => HDn.out W (U10.out.trans u))
  clear HCa HEn HFm HHa HDh HNw HDn R3 R4 N12 A12 O12 B11 U11 B9 U9 B8 U8 U7 U5 U4 U3 U2 U1 U0
  refine wp_region_noPanic ?_
  refine wp_region_held_drew (S := S6 bx (.int .i64 pix) (.int .i64 ptm) (.slice q1 n1 c1) (.slice q2 n2 c2) (.slice q n c) eb (.slice t3 m3 y3) (.slice t4 m4 y4)) (by kernel_rfl) ?_ (fun hHeld => ?_)
  · exact S6.old ((Old.refl w10).drew) HX.out
  (try simp only [Act.put]); (try simp only [List.setIfInBounds_toArray]); (try simp only [List.set_cons_succ]); (try simp only [List.set_cons_zero])
  clear hHeld
  refine wpAnyH_take (i := 0) (oi := { dst := some 100, op := Op.move (Operand.tmp 19), type := 2, pos := "law.go:64", after := #[], guard := none }) (v := ?vk1) rfl (by kernel_rfl) (by kernel_rfl) (by kernel_rfl) (fun _ _ _ h => h) (Or.inl ⟨by rfl, ?hk1⟩) (S6.old ((Old.refl w10).drew) HX.out) ?rk1
  case hk1 => (intro wz hSw; (try dsimp only at hSw); go_simp; try with_reducible rfl)
  (try simp only [Act.put]); (try simp only [List.setIfInBounds_toArray]); (try simp only [List.set_cons_succ]); (try simp only [List.set_cons_zero])
  refine wpAnyH_take (i := 1) (oi := { dst := some 101, op := Op.move (Operand.tmp 21), type := 2, pos := "law.go:64", after := #[], guard := none }) (v := ?vk2) rfl (by kernel_rfl) (by kernel_rfl) (by kernel_rfl) (fun _ _ _ h => h) (Or.inl ⟨by rfl, ?hk2⟩) (S6.old ((Old.refl w10).drew) HX.out) ?rk2
  case hk2 => (intro wz hSw; (try dsimp only at hSw); go_simp; try with_reducible rfl)
  (try simp only [Act.put]); (try simp only [List.setIfInBounds_toArray]); (try simp only [List.set_cons_succ]); (try simp only [List.set_cons_zero])
  refine wpAnyH_take (i := 2) (oi := { dst := some 102, op := Op.binOp BinOp.eql 2 (Operand.tmp 100) (Operand.tmp 101) 2, type := 4, pos := "law.go:64", after := #[{ on := 0, ground := Ground.data }, { on := 1, ground := Ground.data }], guard := none }) (v := ?vk3) rfl (by kernel_rfl) (by kernel_rfl) (by kernel_rfl) (fun _ _ _ h => h) (Or.inl ⟨by rfl, ?hk3⟩) (S6.old ((Old.refl w10).drew) HX.out) ?rk3
  case hk3 => (intro wz hSw; (try dsimp only at hSw); go_simp; try with_reducible rfl)
  (try simp only [Act.put]); (try simp only [List.setIfInBounds_toArray]); (try simp only [List.set_cons_succ]); (try simp only [List.set_cons_zero])
  refine wpAnyH_take (i := 3) (oi := { dst := some 103, op := Op.move (Operand.tmp 102), type := 4, pos := "law.go:64", after := #[{ on := 2, ground := Ground.data }], guard := none }) (v := ?vk4) rfl (by kernel_rfl) (by kernel_rfl) (by kernel_rfl) (fun _ _ _ h => h) (Or.inl ⟨by rfl, ?hk4⟩) (S6.old ((Old.refl w10).drew) HX.out) ?rk4
  case hk4 => (intro wz hSw; (try dsimp only at hSw); go_simp; try with_reducible rfl)
  (try simp only [Act.put]); (try simp only [List.setIfInBounds_toArray]); (try simp only [List.set_cons_succ]); (try simp only [List.set_cons_zero])
  refine wpAnyH_take (i := 4) (oi := { dst := some 104, op := Op.move (Operand.tmp 20), type := 4, pos := "law.go:64", after := #[{ on := 3, ground := Ground.guard }], guard := some (3, true) }) (v := ?vk5) rfl (by kernel_rfl) (by kernel_rfl) (by kernel_rfl) (fun _ _ _ h => h) (Or.inl ⟨by rfl, ?hk5⟩) (S6.old ((Old.refl w10).drew) HX.out) ?rk5
  case hk5 => (intro wz hSw; (try dsimp only at hSw); go_simp; try with_reducible rfl)
  (try simp only [Act.put]); (try simp only [List.setIfInBounds_toArray]); (try simp only [List.set_cons_succ]); (try simp only [List.set_cons_zero])
  refine wpAnyH_take (i := 5) (oi := { dst := some 105, op := Op.move (Operand.tmp 22), type := 4, pos := "law.go:64", after := #[{ on := 3, ground := Ground.guard }], guard := some (3, true) }) (v := ?vk6) rfl (by kernel_rfl) (by kernel_rfl) (by kernel_rfl) (fun _ _ _ h => h) (Or.inl ⟨by rfl, ?hk6⟩) (S6.old ((Old.refl w10).drew) HX.out) ?rk6
  case hk6 => (intro wz hSw; (try dsimp only at hSw); go_simp; try with_reducible rfl)
  (try simp only [Act.put]); (try simp only [List.setIfInBounds_toArray]); (try simp only [List.set_cons_succ]); (try simp only [List.set_cons_zero])
  refine wpAnyH_take (i := 6) (oi := { dst := some 106, op := Op.binOp BinOp.eql 4 (Operand.tmp 104) (Operand.tmp 105) 4, type := 4, pos := "law.go:64", after := #[{ on := 4, ground := Ground.data }, { on := 5, ground := Ground.data }, { on := 3, ground := Ground.guard }], guard := some (3, true) }) (v := ?vk7) rfl (by kernel_rfl) (by kernel_rfl) (by kernel_rfl) (fun _ _ _ h => h) (Or.inl ⟨by rfl, ?hk7⟩) (S6.old ((Old.refl w10).drew) HX.out) ?rk7
  case hk7 => (intro wz hSw; (try dsimp only at hSw); go_simp; try with_reducible rfl)
  (try simp only [Act.put]); (try simp only [List.setIfInBounds_toArray]); (try simp only [List.set_cons_succ]); (try simp only [List.set_cons_zero])
  refine wpAnyH_take (i := 7) (oi := { dst := some 107, op := Op.pick (Operand.tmp 103) (Operand.tmp 106) (Operand.const (Value.bool false)), type := 4, pos := "law.go:64", after := #[{ on := 3, ground := Ground.data }, { on := 6, ground := Ground.data }], guard := none }) (v := ?vk8) rfl (by kernel_rfl) (by kernel_rfl) (by kernel_rfl) (fun _ _ _ h => h) (Or.inl ⟨by rfl, ?hk8⟩) (S6.old ((Old.refl w10).drew) HX.out) ?rk8
  case hk8 => (intro wz hSw; (try dsimp only at hSw); go_simp; try with_reducible rfl)
  (try simp only [Act.put]); (try simp only [List.setIfInBounds_toArray]); (try simp only [List.set_cons_succ]); (try simp only [List.set_cons_zero])
  refine wpAnyH_take (i := 8) (oi := { dst := some 108, op := Op.move (Operand.tmp 107), type := 4, pos := "law.go:64", after := #[{ on := 7, ground := Ground.data }, { on := 3, ground := Ground.chain }], guard := none }) (v := ?vk9) rfl (by kernel_rfl) (by kernel_rfl) (by kernel_rfl) (fun _ _ _ h => h) (Or.inl ⟨by rfl, ?hk9⟩) (S6.old ((Old.refl w10).drew) HX.out) ?rk9
  case hk9 => (intro wz hSw; (try dsimp only at hSw); go_simp; try with_reducible rfl)
  (try simp only [Act.put]); (try simp only [List.setIfInBounds_toArray]); (try simp only [List.set_cons_succ]); (try simp only [List.set_cons_zero])
  refine wpAnyH_take (i := 9) (oi := { dst := some 109, op := Op.move (Operand.tmp 0), type := 26, pos := "law.go:64", after := #[{ on := 8, ground := Ground.guard }], guard := some (8, true) }) (v := ?vk10) rfl (by kernel_rfl) (by kernel_rfl) (by kernel_rfl) (fun _ _ _ h => h) (Or.inl ⟨by rfl, ?hk10⟩) (S6.old ((Old.refl w10).drew) HX.out) ?rk10
  case hk10 => (intro wz hSw; (try dsimp only at hSw); go_simp; try with_reducible rfl)
  (try simp only [Act.put]); (try simp only [List.setIfInBounds_toArray]); (try simp only [List.set_cons_succ]); (try simp only [List.set_cons_zero])
  refine wpAnyH_take (i := 10) (oi := { dst := some 110, op := Op.move (Operand.tmp 2), type := 2, pos := "law.go:64", after := #[{ on := 8, ground := Ground.guard }], guard := some (8, true) }) (v := ?vk11) rfl (by kernel_rfl) (by kernel_rfl) (by kernel_rfl) (fun _ _ _ h => h) (Or.inl ⟨by rfl, ?hk11⟩) (S6.old ((Old.refl w10).drew) HX.out) ?rk11
  case hk11 => (intro wz hSw; (try dsimp only at hSw); go_simp; try with_reducible rfl)
  (try simp only [Act.put]); (try simp only [List.setIfInBounds_toArray]); (try simp only [List.set_cons_succ]); (try simp only [List.set_cons_zero])
  refine wpAnyH_take (i := 12) (oi := { dst := some 112, op := Op.load 24 (Operand.tmp 23), type := 24, pos := "law.go:64", after := #[{ on := 8, ground := Ground.guard }], guard := some (8, true) }) (v := ?vk12) rfl (by kernel_rfl) (by kernel_rfl) (by kernel_rfl) (fun _ _ _ h => h) (Or.inl ⟨by rfl, ?hk12⟩) (S6.old ((Old.refl w10).drew) HX.out) ?rk12
  case hk12 => (intro wz hSw; (try dsimp only at hSw); go_simp; try with_reducible rfl)
  (try simp only [Act.put]); (try simp only [List.setIfInBounds_toArray]); (try simp only [List.set_cons_succ]); (try simp only [List.set_cons_zero])
  refine wpAnyH_ready (rs := [11]) (by kernel_rfl) (by simp) ?_
  refine AllReadyH.cons (o := { dst := some 111, op := Op.call { callee := Callee.value (Operand.func 20), args := #[Operand.tmp 109, Operand.tmp 110], argTypes := #[26, 2] }, type := 24, pos := "law.go:64", after := #[{ on := 9, ground := Ground.data }, { on := 10, ground := Ground.data }, { on := 8, ground := Ground.chain }, { on := 8, ground := Ground.guard }], guard := some (8, true) }) rfl (fun K hK => ?_) AllReadyH.nil
  refine wantCall2 ?_ 20 (.tmp 109) (.tmp 110) #[26, 2] ?_ (.pointer (some ⟨lb, 0, none⟩)) (.int .i64 at_) ?_ ?_ ?_ (enters_of Try.func20 (by kernel_rfl) rfl _ _) ?_
  · rfl
  · rfl
  · rfl
  · rfl
  · rfl
  refine (H11.out _ ((Old.refl w10).drew)).mono ?_
  rintro o x13 ⟨u1, u2, rfl, ra13, rb13, b13⟩
  refine ⟨_, rfl, ?_⟩
  have U13 := ((Old.refl w10).drew).trans b13
  have H13 := hid (fun (W : World) (u : Old x13 W) => same_eq u1 u2 (.slice t3 m3 y3) (.slice t4 m4 y4) m3 m4 _ _ W (by rw [HE1.out]; exact (OwnI.rowH ra13 HSn.out.1).old u) (by rw [HE2.out]; exact (OwnI.rowH rb13 HSn.out.2).old u) (HR3.out.old (U13.trans u)) (HR4.out.old (U13.trans u)))
  refine hK.out _ _ (S6.old U13 HX.out) (fun _ => ?_)
  clear hK K
  (try simp only [Act.put]); (try simp only [List.setIfInBounds_toArray]); (try simp only [List.set_cons_succ]); (try simp only [List.set_cons_zero])
  refine wpAnyH_ready (rs := [13]) (by kernel_rfl) (by simp) ?_
  refine AllReadyH.cons (o := { dst := some 113, op := Op.call { callee := Callee.value (Operand.func 19), args := #[Operand.tmp 111, Operand.tmp 112], argTypes := #[24, 24] }, type := 4, pos := "law.go:64", after := #[{ on := 11, ground := Ground.data }, { on := 12, ground := Ground.data }, { on := 11, ground := Ground.chain }, { on := 8, ground := Ground.guard }], guard := some (8, true) }) rfl (fun K hK => ?_) AllReadyH.nil
  refine wantCall2 ?_ 19 (.tmp 111) (.tmp 112) #[24, 24] ?_ (.agg #[u1, u2]) (.agg #[.slice t3 m3 y3, .slice t4 m4 y4]) ?_ ?_ ?_ (enters_of Try.func19 (by kernel_rfl) rfl _ _) ?_
  · rfl
  · rfl
  · rfl
  · rfl
  · rfl
  refine (H13.out _ (Old.refl _)).mono ?_
  rintro o x14 ⟨rfl, b14⟩
  refine ⟨_, rfl, ?_⟩
  have U14 := U13.trans b14
  refine hK.out _ _ (S6.old U14 HX.out) (fun _ => ?_)
  clear hK K
  (try simp only [Act.put]); (try simp only [List.setIfInBounds_toArray]); (try simp only [List.set_cons_succ]); (try simp only [List.set_cons_zero])
  refine wpAnyH_take (i := 14) (oi := { dst := some 114, op := Op.pick (Operand.tmp 108) (Operand.tmp 113) (Operand.const (Value.bool false)), type := 4, pos := "law.go:64", after := #[{ on := 8, ground := Ground.data }, { on := 13, ground := Ground.data }], guard := none }) (v := ?vk15) rfl (by kernel_rfl) (by kernel_rfl) (by kernel_rfl) (fun _ _ _ h => h) (Or.inl ⟨by rfl, ?hk15⟩) (S6.old U14 HX.out) ?rk15
  case hk15 => (intro wz hSw; (try dsimp only at hSw); go_simp; try with_reducible rfl)
  (try simp only [Act.put]); (try simp only [List.setIfInBounds_toArray]); (try simp only [List.set_cons_succ]); (try simp only [List.set_cons_zero])
  refine wpAnyH_take (i := 15) (oi := { dst := some 115, op := Op.move (Operand.tmp 114), type := 4, pos := "law.go:64", after := #[{ on := 14, ground := Ground.data }, { on := 13, ground := Ground.chain }], guard := none }) (v := ?vk16) rfl (by kernel_rfl) (by kernel_rfl) (by kernel_rfl) (fun _ _ _ h => h) (Or.inl ⟨by rfl, ?hk16⟩) (S6.old U14 HX.out) ?rk16
  case hk16 => (intro wz hSw; (try dsimp only at hSw); go_simp; try with_reducible rfl)
  (try simp only [Act.put]); (try simp only [List.setIfInBounds_toArray]); (try simp only [List.set_cons_succ]); (try simp only [List.set_cons_zero])
  refine wpAnyH_take (i := 16) (oi := { dst := some 116, op := Op.move (Operand.tmp 0), type := 26, pos := "law.go:64", after := #[{ on := 15, ground := Ground.guard }], guard := some (15, true) }) (v := ?vk17) rfl (by kernel_rfl) (by kernel_rfl) (by kernel_rfl) (fun _ _ _ h => h) (Or.inl ⟨by rfl, ?hk17⟩) (S6.old U14 HX.out) ?rk17
  case hk17 => (intro wz hSw; (try dsimp only at hSw); go_simp; try with_reducible rfl)
  (try simp only [Act.put]); (try simp only [List.setIfInBounds_toArray]); (try simp only [List.set_cons_succ]); (try simp only [List.set_cons_zero])
  refine wpAnyH_take (i := 17) (oi := { dst := some 117, op := Op.move (Operand.tmp 2), type := 2, pos := "law.go:64", after := #[{ on := 15, ground := Ground.guard }], guard := some (15, true) }) (v := ?vk18) rfl (by kernel_rfl) (by kernel_rfl) (by kernel_rfl) (fun _ _ _ h => h) (Or.inl ⟨by rfl, ?hk18⟩) (S6.old U14 HX.out) ?rk18
  case hk18 => (intro wz hSw; (try dsimp only at hSw); go_simp; try with_reducible rfl)
  (try simp only [Act.put]); (try simp only [List.setIfInBounds_toArray]); (try simp only [List.set_cons_succ]); (try simp only [List.set_cons_zero])
  refine wpAnyH_take (i := 18) (oi := { dst := some 118, op := Op.move (Operand.tmp 3), type := 3, pos := "law.go:64", after := #[{ on := 15, ground := Ground.guard }], guard := some (15, true) }) (v := ?vk19) rfl (by kernel_rfl) (by kernel_rfl) (by kernel_rfl) (fun _ _ _ h => h) (Or.inl ⟨by rfl, ?hk19⟩) (S6.old U14 HX.out) ?rk19
  case hk19 => (intro wz hSw; (try dsimp only at hSw); go_simp; try with_reducible rfl)
  (try simp only [Act.put]); (try simp only [List.setIfInBounds_toArray]); (try simp only [List.set_cons_succ]); (try simp only [List.set_cons_zero])
  refine wpAnyH_take (i := 20) (oi := { dst := some 120, op := Op.load 54 (Operand.tmp 5), type := 54, pos := "law.go:64", after := #[{ on := 15, ground := Ground.guard }], guard := some (15, true) }) (v := ?vk20) rfl (by kernel_rfl) (by kernel_rfl) (by kernel_rfl) (fun _ _ _ h => h) (Or.inl ⟨by rfl, ?hk20⟩) (S6.old U14 HX.out) ?rk20
  case hk20 => (intro wz hSw; (try dsimp only at hSw); go_simp; try with_reducible rfl)
  (try simp only [Act.put]); (try simp only [List.setIfInBounds_toArray]); (try simp only [List.set_cons_succ]); (try simp only [List.set_cons_zero])
  refine wpAnyH_take (i := 21) (oi := { dst := some 121, op := Op.move (Operand.tmp 2), type := 2, pos := "law.go:64", after := #[{ on := 15, ground := Ground.guard }], guard := some (15, true) }) (v := ?vk21) rfl (by kernel_rfl) (by kernel_rfl) (by kernel_rfl) (fun _ _ _ h => h) (Or.inl ⟨by rfl, ?hk21⟩) (S6.old U14 HX.out) ?rk21
  case hk21 => (intro wz hSw; (try dsimp only at hSw); go_simp; try with_reducible rfl)
  (try simp only [Act.put]); (try simp only [List.setIfInBounds_toArray]); (try simp only [List.set_cons_succ]); (try simp only [List.set_cons_zero])
  refine wpAnyH_take (i := 22) (oi := { dst := some 122, op := Op.move (Operand.tmp 3), type := 3, pos := "law.go:64", after := #[{ on := 15, ground := Ground.guard }], guard := some (15, true) }) (v := ?vk22) rfl (by kernel_rfl) (by kernel_rfl) (by kernel_rfl) (fun _ _ _ h => h) (Or.inl ⟨by rfl, ?hk22⟩) (S6.old U14 HX.out) ?rk22
  case hk22 => (intro wz hSw; (try dsimp only at hSw); go_simp; try with_reducible rfl)
  (try simp only [Act.put]); (try simp only [List.setIfInBounds_toArray]); (try simp only [List.set_cons_succ]); (try simp only [List.set_cons_zero])
  refine wpAnyH_ready (rs := [19]) (by kernel_rfl) (by simp) ?_
  refine AllReadyH.cons (o := { dst := some 119, op := Op.call { callee := Callee.value (Operand.func 14), args := #[Operand.tmp 116, Operand.tmp 117, Operand.tmp 118], argTypes := #[26, 2, 3] }, type := 29, pos := "law.go:64", after := #[{ on := 16, ground := Ground.data }, { on := 17, ground := Ground.data }, { on := 18, ground := Ground.data }, { on := 15, ground := Ground.chain }, { on := 15, ground := Ground.guard }], guard := some (15, true) }) rfl (fun K hK => ?_) AllReadyH.nil
  refine wantCall3 ?_ 14 (.tmp 116) (.tmp 117) (.tmp 118) #[26, 2, 3] ?_ (.pointer (some ⟨lb, 0, none⟩)) (.int .i64 at_) (.int .i64 most) ?_ ?_ ?_ ?_ (enters_of Try.func14 (by kernel_rfl) rfl _ _) ?_
  · rfl
  · rfl
  · rfl
  · rfl
  · rfl
  · rfl
  refine (H19.out _ U14).mono ?_
  rintro o x23 ⟨v19, X19, rfl, n19, p19, b23⟩
  refine ⟨_, rfl, ?_⟩
  have U23 := U14.trans b23
  have R19 := hid (n19.erow (by rw [← pls_len, p19]; exact HEl.out))
  have P19 := hid p19
  have Z19 := hid (Old.refl x23)
  refine hK.out _ _ (S6.old U23 HX.out) (fun _ => ?_)
  clear hK K
  (try simp only [Act.put]); (try simp only [List.setIfInBounds_toArray]); (try simp only [List.set_cons_succ]); (try simp only [List.set_cons_zero])
  refine wpAnyH_ready (rs := [23]) (by kernel_rfl) (by simp) ?_
  refine AllReadyH.cons (o := { dst := some 123, op := Op.call { callee := Callee.value (Operand.func 42), args := #[Operand.tmp 120, Operand.tmp 121, Operand.tmp 122], argTypes := #[54, 2, 3] }, type := 29, pos := "law.go:64", after := #[{ on := 20, ground := Ground.data }, { on := 21, ground := Ground.data }, { on := 22, ground := Ground.data }, { on := 19, ground := Ground.chain }, { on := 15, ground := Ground.guard }], guard := some (15, true) }) rfl (fun K hK => ?_) AllReadyH.nil
  refine wantCall3 ?_ 42 (.tmp 120) (.tmp 121) (.tmp 122) #[54, 2, 3] ?_ (.agg #[.int .i64 pix, .int .i64 ptm, .slice q1 n1 c1, .slice q2 n2 c2, .slice q n c]) (.int .i64 at_) (.int .i64 most) ?_ ?_ ?_ ?_ (enters_of Try.func42 (by kernel_rfl) rfl _ _) ?_
  · rfl
  · rfl
  · rfl
  · rfl
  · rfl
  · rfl
  refine (H23.out _ U23).mono ?_
  rintro o x24 ⟨v23, X23, rfl, r23, p23, b24⟩
  refine ⟨_, rfl, ?_⟩
  have U24 := U23.trans b24
  have H24 := hid (fun (W : World) (u : Old x24 W) => sameE_eq v19 v23 X19 X23 W (R19.out.old (b24.trans u)) (r23.old u) (P19.out.trans p23.symm))
  refine hK.out _ _ (S6.old U24 HX.out) (fun _ => ?_)
  clear hK K
  (try simp only [Act.put]); (try simp only [List.setIfInBounds_toArray]); (try simp only [List.set_cons_succ]); (try simp only [List.set_cons_zero])
  refine wpAnyH_ready (rs := [24]) (by kernel_rfl) (by simp) ?_
  refine AllReadyH.cons (o := { dst := some 124, op := Op.call { callee := Callee.value (Operand.func 21), args := #[Operand.tmp 119, Operand.tmp 123], argTypes := #[29, 29] }, type := 4, pos := "law.go:64", after := #[{ on := 19, ground := Ground.data }, { on := 23, ground := Ground.data }, { on := 23, ground := Ground.chain }, { on := 15, ground := Ground.guard }], guard := some (15, true) }) rfl (fun K hK => ?_) AllReadyH.nil
  refine wantCall2 ?_ 21 (.tmp 119) (.tmp 123) #[29, 29] ?_ (v19) (v23) ?_ ?_ ?_ (enters_of Try.func21 (by kernel_rfl) rfl _ _) ?_
  · rfl
  · rfl
  · rfl
  · rfl
  · rfl
  refine (H24.out _ (Old.refl _)).mono ?_
  rintro o x25 ⟨rfl, b25⟩
  refine ⟨_, rfl, ?_⟩
  have U25 := U24.trans b25
  refine hK.out _ _ (S6.old U25 HX.out) (fun _ => ?_)
  clear hK K
  (try simp only [Act.put]); (try simp only [List.setIfInBounds_toArray]); (try simp only [List.set_cons_succ]); (try simp only [List.set_cons_zero])
  refine wpAnyH_take (i := 25) (oi := { dst := some 125, op := Op.pick (Operand.tmp 115) (Operand.tmp 124) (Operand.const (Value.bool false)), type := 4, pos := "law.go:64", after := #[{ on := 15, ground := Ground.data }, { on := 24, ground := Ground.data }], guard := none }) (v := ?vk26) rfl (by kernel_rfl) (by kernel_rfl) (by kernel_rfl) (fun _ _ _ h => h) (Or.inl ⟨by rfl, ?hk26⟩) (S6.old U25 HX.out) ?rk26
  case hk26 => (intro wz hSw; (try dsimp only at hSw); go_simp; try with_reducible rfl)
  (try simp only [Act.put]); (try simp only [List.setIfInBounds_toArray]); (try simp only [List.set_cons_succ]); (try simp only [List.set_cons_zero])
  refine wpAnyH_take (i := 26) (oi := { dst := some 126, op := Op.move (Operand.tmp 125), type := 4, pos := "law.go:64", after := #[{ on := 25, ground := Ground.data }, { on := 24, ground := Ground.chain }], guard := none }) (v := ?vk27) rfl (by kernel_rfl) (by kernel_rfl) (by kernel_rfl) (fun _ _ _ h => h) (Or.inl ⟨by rfl, ?hk27⟩) (S6.old U25 HX.out) ?rk27
  case hk27 => (intro wz hSw; (try dsimp only at hSw); go_simp; try with_reducible rfl)
  (try simp only [Act.put]); (try simp only [List.setIfInBounds_toArray]); (try simp only [List.set_cons_succ]); (try simp only [List.set_cons_zero])
  refine wpAnyH_take (i := 27) (oi := { dst := some 127, op := Op.move (Operand.tmp 0), type := 26, pos := "law.go:64", after := #[{ on := 26, ground := Ground.guard }], guard := some (26, true) }) (v := ?vk28) rfl (by kernel_rfl) (by kernel_rfl) (by kernel_rfl) (fun _ _ _ h => h) (Or.inl ⟨by rfl, ?hk28⟩) (S6.old U25 HX.out) ?rk28
  case hk28 => (intro wz hSw; (try dsimp only at hSw); go_simp; try with_reducible rfl)
  (try simp only [Act.put]); (try simp only [List.setIfInBounds_toArray]); (try simp only [List.set_cons_succ]); (try simp only [List.set_cons_zero])
  refine wpAnyH_take (i := 28) (oi := { dst := some 128, op := Op.move (Operand.tmp 2), type := 2, pos := "law.go:64", after := #[{ on := 26, ground := Ground.guard }], guard := some (26, true) }) (v := ?vk29) rfl (by kernel_rfl) (by kernel_rfl) (by kernel_rfl) (fun _ _ _ h => h) (Or.inl ⟨by rfl, ?hk29⟩) (S6.old U25 HX.out) ?rk29
  case hk29 => (intro wz hSw; (try dsimp only at hSw); go_simp; try with_reducible rfl)
  (try simp only [Act.put]); (try simp only [List.setIfInBounds_toArray]); (try simp only [List.set_cons_succ]); (try simp only [List.set_cons_zero])
  refine wpAnyH_take (i := 29) (oi := { dst := some 129, op := Op.move (Operand.tmp 10), type := 2, pos := "law.go:64", after := #[{ on := 26, ground := Ground.guard }], guard := some (26, true) }) (v := ?vk30) rfl (by kernel_rfl) (by kernel_rfl) (by kernel_rfl) (fun _ _ _ h => h) (Or.inl ⟨by rfl, ?hk30⟩) (S6.old U25 HX.out) ?rk30
  case hk30 => (intro wz hSw; (try dsimp only at hSw); go_simp; try with_reducible rfl)
  (try simp only [Act.put]); (try simp only [List.setIfInBounds_toArray]); (try simp only [List.set_cons_succ]); (try simp only [List.set_cons_zero])
  refine wpAnyH_take (i := 31) (oi := { dst := some 131, op := Op.load 54 (Operand.tmp 5), type := 54, pos := "law.go:64", after := #[{ on := 26, ground := Ground.guard }], guard := some (26, true) }) (v := ?vk31) rfl (by kernel_rfl) (by kernel_rfl) (by kernel_rfl) (fun _ _ _ h => h) (Or.inl ⟨by rfl, ?hk31⟩) (S6.old U25 HX.out) ?rk31
  case hk31 => (intro wz hSw; (try dsimp only at hSw); go_simp; try with_reducible rfl)
  (try simp only [Act.put]); (try simp only [List.setIfInBounds_toArray]); (try simp only [List.set_cons_succ]); (try simp only [List.set_cons_zero])
  refine wpAnyH_take (i := 32) (oi := { dst := some 132, op := Op.move (Operand.tmp 2), type := 2, pos := "law.go:64", after := #[{ on := 26, ground := Ground.guard }], guard := some (26, true) }) (v := ?vk32) rfl (by kernel_rfl) (by kernel_rfl) (by kernel_rfl) (fun _ _ _ h => h) (Or.inl ⟨by rfl, ?hk32⟩) (S6.old U25 HX.out) ?rk32
  case hk32 => (intro wz hSw; (try dsimp only at hSw); go_simp; try with_reducible rfl)
  (try simp only [Act.put]); (try simp only [List.setIfInBounds_toArray]); (try simp only [List.set_cons_succ]); (try simp only [List.set_cons_zero])
  refine wpAnyH_take (i := 33) (oi := { dst := some 133, op := Op.move (Operand.tmp 10), type := 2, pos := "law.go:64", after := #[{ on := 26, ground := Ground.guard }], guard := some (26, true) }) (v := ?vk33) rfl (by kernel_rfl) (by kernel_rfl) (by kernel_rfl) (fun _ _ _ h => h) (Or.inl ⟨by rfl, ?hk33⟩) (S6.old U25 HX.out) ?rk33
  case hk33 => (intro wz hSw; (try dsimp only at hSw); go_simp; try with_reducible rfl)
  (try simp only [Act.put]); (try simp only [List.setIfInBounds_toArray]); (try simp only [List.set_cons_succ]); (try simp only [List.set_cons_zero])
  refine wpAnyH_ready (rs := [30]) (by kernel_rfl) (by simp) ?_
  refine AllReadyH.cons (o := { dst := some 130, op := Op.call { callee := Callee.value (Operand.func 15), args := #[Operand.tmp 127, Operand.tmp 128, Operand.tmp 129], argTypes := #[26, 2, 2] }, type := 4, pos := "law.go:64", after := #[{ on := 27, ground := Ground.data }, { on := 28, ground := Ground.data }, { on := 29, ground := Ground.data }, { on := 26, ground := Ground.chain }, { on := 26, ground := Ground.guard }], guard := some (26, true) }) rfl (fun K hK => ?_) AllReadyH.nil
  refine wantCall3 ?_ 15 (.tmp 127) (.tmp 128) (.tmp 129) #[26, 2, 2] ?_ (.pointer (some ⟨lb, 0, none⟩)) (.int .i64 at_) (.int .i64 lt) ?_ ?_ ?_ ?_ (enters_of Try.func15 (by kernel_rfl) rfl _ _) ?_
  · rfl
  · rfl
  · rfl
  · rfl
  · rfl
  · rfl
  refine (H30.out _ U25).mono ?_
  rintro o x34 ⟨rfl, b34⟩
  refine ⟨_, rfl, ?_⟩
  have U34 := U25.trans b34
  refine hK.out _ _ (S6.old U34 HX.out) (fun _ => ?_)
  clear hK K
  (try simp only [Act.put]); (try simp only [List.setIfInBounds_toArray]); (try simp only [List.set_cons_succ]); (try simp only [List.set_cons_zero])
  refine wpAnyH_ready (rs := [34]) (by kernel_rfl) (by simp) ?_
  refine AllReadyH.cons (o := { dst := some 134, op := Op.call { callee := Callee.value (Operand.func 43), args := #[Operand.tmp 131, Operand.tmp 132, Operand.tmp 133], argTypes := #[54, 2, 2] }, type := 4, pos := "law.go:64", after := #[{ on := 31, ground := Ground.data }, { on := 32, ground := Ground.data }, { on := 33, ground := Ground.data }, { on := 30, ground := Ground.chain }, { on := 26, ground := Ground.guard }], guard := some (26, true) }) rfl (fun K hK => ?_) AllReadyH.nil
  refine wantCall3 ?_ 43 (.tmp 131) (.tmp 132) (.tmp 133) #[54, 2, 2] ?_ (.agg #[.int .i64 pix, .int .i64 ptm, .slice q1 n1 c1, .slice q2 n2 c2, .slice q n c]) (.int .i64 at_) (.int .i64 lt) ?_ ?_ ?_ ?_ (enters_of Try.func43 (by kernel_rfl) rfl _ _) ?_
  · rfl
  · rfl
  · rfl
  · rfl
  · rfl
  · rfl
  refine (H34.out _ U34).mono ?_
  rintro o x35 ⟨rfl, b35⟩
  refine ⟨_, rfl, ?_⟩
  have U35 := U34.trans b35
  refine hK.out _ _ (S6.old U35 HX.out) (fun _ => ?_)
  clear hK K
  (try simp only [Act.put]); (try simp only [List.setIfInBounds_toArray]); (try simp only [List.set_cons_succ]); (try simp only [List.set_cons_zero])
  refine wpAnyH_take (i := 35) (oi := { dst := some 135, op := Op.binOp BinOp.eql 4 (Operand.tmp 130) (Operand.tmp 134) 4, type := 4, pos := "law.go:64", after := #[{ on := 30, ground := Ground.data }, { on := 34, ground := Ground.data }, { on := 26, ground := Ground.guard }], guard := some (26, true) }) (v := ?vk36) rfl (by kernel_rfl) (by kernel_rfl) (by kernel_rfl) (fun _ _ _ h => h) (Or.inl ⟨by rfl, ?hk36⟩) (S6.old U35 HX.out) ?rk36
  case hk36 => (intro wz hSw; (try dsimp only at hSw); go_simp; try with_reducible rfl)
  (try simp only [Act.put]); (try simp only [List.setIfInBounds_toArray]); (try simp only [List.set_cons_succ]); (try simp only [List.set_cons_zero])
  refine wpAnyH_take (i := 36) (oi := { dst := some 136, op := Op.pick (Operand.tmp 126) (Operand.tmp 135) (Operand.const (Value.bool false)), type := 4, pos := "law.go:64", after := #[{ on := 26, ground := Ground.data }, { on := 35, ground := Ground.data }], guard := none }) (v := ?vk37) rfl (by kernel_rfl) (by kernel_rfl) (by kernel_rfl) (fun _ _ _ h => h) (Or.inl ⟨by rfl, ?hk37⟩) (S6.old U35 HX.out) ?rk37
  case hk37 => (intro wz hSw; (try dsimp only at hSw); go_simp; try with_reducible rfl)
  (try simp only [Act.put]); (try simp only [List.setIfInBounds_toArray]); (try simp only [List.set_cons_succ]); (try simp only [List.set_cons_zero])
  refine wpAnyH_take (i := 37) (oi := { dst := some 137, op := Op.move (Operand.tmp 136), type := 4, pos := "law.go:64", after := #[{ on := 36, ground := Ground.data }, { on := 34, ground := Ground.chain }], guard := none }) (v := ?vk38) rfl (by kernel_rfl) (by kernel_rfl) (by kernel_rfl) (fun _ _ _ h => h) (Or.inl ⟨by rfl, ?hk38⟩) (S6.old U35 HX.out) ?rk38
  case hk38 => (intro wz hSw; (try dsimp only at hSw); go_simp; try with_reducible rfl)
  (try simp only [Act.put]); (try simp only [List.setIfInBounds_toArray]); (try simp only [List.set_cons_succ]); (try simp only [List.set_cons_zero])
  refine wpAnyH_take (i := 38) (oi := { dst := some 138, op := Op.move (Operand.tmp 0), type := 26, pos := "law.go:64", after := #[{ on := 37, ground := Ground.guard }], guard := some (37, true) }) (v := ?vk39) rfl (by kernel_rfl) (by kernel_rfl) (by kernel_rfl) (fun _ _ _ h => h) (Or.inl ⟨by rfl, ?hk39⟩) (S6.old U35 HX.out) ?rk39
  case hk39 => (intro wz hSw; (try dsimp only at hSw); go_simp; try with_reducible rfl)
  (try simp only [Act.put]); (try simp only [List.setIfInBounds_toArray]); (try simp only [List.set_cons_succ]); (try simp only [List.set_cons_zero])
  refine wpAnyH_take (i := 39) (oi := { dst := some 139, op := Op.move (Operand.tmp 2), type := 2, pos := "law.go:64", after := #[{ on := 37, ground := Ground.guard }], guard := some (37, true) }) (v := ?vk40) rfl (by kernel_rfl) (by kernel_rfl) (by kernel_rfl) (fun _ _ _ h => h) (Or.inl ⟨by rfl, ?hk40⟩) (S6.old U35 HX.out) ?rk40
  case hk40 => (intro wz hSw; (try dsimp only at hSw); go_simp; try with_reducible rfl)
  (try simp only [Act.put]); (try simp only [List.setIfInBounds_toArray]); (try simp only [List.set_cons_succ]); (try simp only [List.set_cons_zero])
  refine wpAnyH_take (i := 40) (oi := { dst := some 140, op := Op.move (Operand.tmp 10), type := 2, pos := "law.go:64", after := #[{ on := 37, ground := Ground.guard }], guard := some (37, true) }) (v := ?vk41) rfl (by kernel_rfl) (by kernel_rfl) (by kernel_rfl) (fun _ _ _ h => h) (Or.inl ⟨by rfl, ?hk41⟩) (S6.old U35 HX.out) ?rk41
  case hk41 => (intro wz hSw; (try dsimp only at hSw); go_simp; try with_reducible rfl)
  (try simp only [Act.put]); (try simp only [List.setIfInBounds_toArray]); (try simp only [List.set_cons_succ]); (try simp only [List.set_cons_zero])
  refine wpAnyH_take (i := 42) (oi := { dst := some 142, op := Op.load 54 (Operand.tmp 5), type := 54, pos := "law.go:64", after := #[{ on := 37, ground := Ground.guard }], guard := some (37, true) }) (v := ?vk42) rfl (by kernel_rfl) (by kernel_rfl) (by kernel_rfl) (fun _ _ _ h => h) (Or.inl ⟨by rfl, ?hk42⟩) (S6.old U35 HX.out) ?rk42
  case hk42 => (intro wz hSw; (try dsimp only at hSw); go_simp; try with_reducible rfl)
  (try simp only [Act.put]); (try simp only [List.setIfInBounds_toArray]); (try simp only [List.set_cons_succ]); (try simp only [List.set_cons_zero])
  refine wpAnyH_take (i := 43) (oi := { dst := some 143, op := Op.move (Operand.tmp 2), type := 2, pos := "law.go:64", after := #[{ on := 37, ground := Ground.guard }], guard := some (37, true) }) (v := ?vk43) rfl (by kernel_rfl) (by kernel_rfl) (by kernel_rfl) (fun _ _ _ h => h) (Or.inl ⟨by rfl, ?hk43⟩) (S6.old U35 HX.out) ?rk43
  case hk43 => (intro wz hSw; (try dsimp only at hSw); go_simp; try with_reducible rfl)
  (try simp only [Act.put]); (try simp only [List.setIfInBounds_toArray]); (try simp only [List.set_cons_succ]); (try simp only [List.set_cons_zero])
  refine wpAnyH_take (i := 44) (oi := { dst := some 144, op := Op.move (Operand.tmp 10), type := 2, pos := "law.go:64", after := #[{ on := 37, ground := Ground.guard }], guard := some (37, true) }) (v := ?vk44) rfl (by kernel_rfl) (by kernel_rfl) (by kernel_rfl) (fun _ _ _ h => h) (Or.inl ⟨by rfl, ?hk44⟩) (S6.old U35 HX.out) ?rk44
  case hk44 => (intro wz hSw; (try dsimp only at hSw); go_simp; try with_reducible rfl)
  (try simp only [Act.put]); (try simp only [List.setIfInBounds_toArray]); (try simp only [List.set_cons_succ]); (try simp only [List.set_cons_zero])
  refine wpAnyH_ready (rs := [41]) (by kernel_rfl) (by simp) ?_
  refine AllReadyH.cons (o := { dst := some 141, op := Op.call { callee := Callee.value (Operand.func 22), args := #[Operand.tmp 138, Operand.tmp 139, Operand.tmp 140], argTypes := #[26, 2, 2] }, type := 4, pos := "law.go:64", after := #[{ on := 38, ground := Ground.data }, { on := 39, ground := Ground.data }, { on := 40, ground := Ground.data }, { on := 37, ground := Ground.chain }, { on := 37, ground := Ground.guard }], guard := some (37, true) }) rfl (fun K hK => ?_) AllReadyH.nil
  refine wantCall3 ?_ 22 (.tmp 138) (.tmp 139) (.tmp 140) #[26, 2, 2] ?_ (.pointer (some ⟨lb, 0, none⟩)) (.int .i64 at_) (.int .i64 lt) ?_ ?_ ?_ ?_ (enters_of Try.func22 (by kernel_rfl) rfl _ _) ?_
  · rfl
  · rfl
  · rfl
  · rfl
  · rfl
  · rfl
  refine (H41.out _ U35).mono ?_
  rintro o x45 ⟨rfl, b45⟩
  refine ⟨_, rfl, ?_⟩
  have U45 := U35.trans b45
  refine hK.out _ _ (S6.old U45 HX.out) (fun _ => ?_)
  clear hK K
  (try simp only [Act.put]); (try simp only [List.setIfInBounds_toArray]); (try simp only [List.set_cons_succ]); (try simp only [List.set_cons_zero])
  refine wpAnyH_ready (rs := [45]) (by kernel_rfl) (by simp) ?_
  refine AllReadyH.cons (o := { dst := some 145, op := Op.call { callee := Callee.value (Operand.func 44), args := #[Operand.tmp 142, Operand.tmp 143, Operand.tmp 144], argTypes := #[54, 2, 2] }, type := 4, pos := "law.go:64", after := #[{ on := 42, ground := Ground.data }, { on := 43, ground := Ground.data }, { on := 44, ground := Ground.data }, { on := 41, ground := Ground.chain }, { on := 37, ground := Ground.guard }], guard := some (37, true) }) rfl (fun K hK => ?_) AllReadyH.nil
  refine wantCall3 ?_ 44 (.tmp 142) (.tmp 143) (.tmp 144) #[54, 2, 2] ?_ (.agg #[.int .i64 pix, .int .i64 ptm, .slice q1 n1 c1, .slice q2 n2 c2, .slice q n c]) (.int .i64 at_) (.int .i64 lt) ?_ ?_ ?_ ?_ (enters_of Try.func44 (by kernel_rfl) rfl _ _) ?_
  · rfl
  · rfl
  · rfl
  · rfl
  · rfl
  · rfl
  refine (H45.out _ U45).mono ?_
  rintro o x46 ⟨rfl, b46⟩
  refine ⟨_, rfl, ?_⟩
  have U46 := U45.trans b46
  refine hK.out _ _ (S6.old U46 HX.out) (fun _ => ?_)
  clear hK K
  (try simp only [Act.put]); (try simp only [List.setIfInBounds_toArray]); (try simp only [List.set_cons_succ]); (try simp only [List.set_cons_zero])
  refine wpAnyH_take (i := 46) (oi := { dst := some 146, op := Op.binOp BinOp.eql 4 (Operand.tmp 141) (Operand.tmp 145) 4, type := 4, pos := "law.go:64", after := #[{ on := 41, ground := Ground.data }, { on := 45, ground := Ground.data }, { on := 37, ground := Ground.guard }], guard := some (37, true) }) (v := ?vk47) rfl (by kernel_rfl) (by kernel_rfl) (by kernel_rfl) (fun _ _ _ h => h) (Or.inl ⟨by rfl, ?hk47⟩) (S6.old U46 HX.out) ?rk47
  case hk47 => (intro wz hSw; (try dsimp only at hSw); go_simp; try with_reducible rfl)
  (try simp only [Act.put]); (try simp only [List.setIfInBounds_toArray]); (try simp only [List.set_cons_succ]); (try simp only [List.set_cons_zero])
  refine wpAnyH_take (i := 47) (oi := { dst := some 147, op := Op.pick (Operand.tmp 137) (Operand.tmp 146) (Operand.const (Value.bool false)), type := 4, pos := "law.go:64", after := #[{ on := 37, ground := Ground.data }, { on := 46, ground := Ground.data }], guard := none }) (v := ?vk48) rfl (by kernel_rfl) (by kernel_rfl) (by kernel_rfl) (fun _ _ _ h => h) (Or.inl ⟨by rfl, ?hk48⟩) (S6.old U46 HX.out) ?rk48
  case hk48 => (intro wz hSw; (try dsimp only at hSw); go_simp; try with_reducible rfl)
  (try simp only [Act.put]); (try simp only [List.setIfInBounds_toArray]); (try simp only [List.set_cons_succ]); (try simp only [List.set_cons_zero])
  refine wpAnyH_ready (rs := [48]) (by kernel_rfl) (by simp) ?_
  refine AllReadyH.cons (o := { dst := some 8, op := Op.assign (Operand.tmp 147), type := 4, pos := "law.go:64", after := #[{ on := 47, ground := Ground.data }, { on := 45, ground := Ground.chain }, { on := 0, ground := Ground.phase }, { on := 1, ground := Ground.phase }, { on := 2, ground := Ground.phase }, { on := 3, ground := Ground.phase }, { on := 4, ground := Ground.phase }, { on := 5, ground := Ground.phase }, { on := 6, ground := Ground.phase }, { on := 7, ground := Ground.phase }, { on := 8, ground := Ground.phase }, { on := 9, ground := Ground.phase }, { on := 10, ground := Ground.phase }, { on := 11, ground := Ground.phase }, { on := 12, ground := Ground.phase }, { on := 13, ground := Ground.phase }, { on := 14, ground := Ground.phase }, { on := 15, ground := Ground.phase }, { on := 16, ground := Ground.phase }, { on := 17, ground := Ground.phase }, { on := 18, ground := Ground.phase }, { on := 19, ground := Ground.phase }, { on := 20, ground := Ground.phase }, { on := 21, ground := Ground.phase }, { on := 22, ground := Ground.phase }, { on := 23, ground := Ground.phase }, { on := 24, ground := Ground.phase }, { on := 25, ground := Ground.phase }, { on := 26, ground := Ground.phase }, { on := 27, ground := Ground.phase }, { on := 28, ground := Ground.phase }, { on := 29, ground := Ground.phase }, { on := 30, ground := Ground.phase }, { on := 31, ground := Ground.phase }, { on := 32, ground := Ground.phase }, { on := 33, ground := Ground.phase }, { on := 34, ground := Ground.phase }, { on := 35, ground := Ground.phase }, { on := 36, ground := Ground.phase }, { on := 37, ground := Ground.phase }, { on := 38, ground := Ground.phase }, { on := 39, ground := Ground.phase }, { on := 40, ground := Ground.phase }, { on := 41, ground := Ground.phase }, { on := 42, ground := Ground.phase }, { on := 43, ground := Ground.phase }, { on := 44, ground := Ground.phase }, { on := 45, ground := Ground.phase }, { on := 46, ground := Ground.phase }, { on := 47, ground := Ground.phase }], guard := none }) rfl (fun K hK => ?_) AllReadyH.nil
  go_simp
  refine hK.out _ _ (S6.old U46 HX.out) (fun _ => ?_)
  clear hK K
  (try simp only [Act.put]); (try simp only [List.setIfInBounds_toArray]); (try simp only [List.set_cons_succ]); (try simp only [List.set_cons_zero])
  refine wpAnyH_done (by kernel_rfl) ?_ _
  refine NoPanic.normal ?_
  have UZ := hid U46
  go_wp2
  go_ret
  exact ⟨rfl, U10.out.trans UZ.out⟩
end Go.Proofs.Ytgpfmohaogppiaa
