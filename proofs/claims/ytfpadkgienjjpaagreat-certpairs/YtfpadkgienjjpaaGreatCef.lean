/- The law CertPairs, walked; conditions: its arguments lie in memory. -/
import Derived.Test.YtfpadkgienjjpaaGreatCvS
namespace Go.Proofs.YtfpadkgienjjpaaGreat
open Go.RowKit Go.Lib
set_option linter.unusedVariables false
set_option linter.unusedSimpArgs false
set_option maxRecDepth 20000
attribute [local go_sem] run_bits run_frombits run_store_float eqF
set_option maxHeartbeats 16000000 in
theorem pairsLaw (a1 a2 a3 b1 b2 b3 : Int) (ap1 ap2 ap3 bp1 bp2 bp3 : Option Addr) (an1 an2 an3 ac1 ac2 ac3 bn1 bn2 bn3 bc1 bc2 bc3 : Nat) (ax1 ax3 bx1 bx3 : Nat → Nat) (af2 bf2 : Nat → Sp) (w : World) (hA : (⟨a1, a2, 0, ap1, ap2, ap3, an1, an2, an3, ac1, ac2, ac3, ax1, ax3, af2⟩ : Sb).Ok w) (hB : (⟨b1, b2, 0, bp1, bp2, bp3, bn1, bn2, bn3, bc1, bc2, bc3, bx1, bx3, bf2⟩ : Sb).Ok w) :
    Calls Tryz.prog 3 #[.agg #[.int .i64 a1, .int .i64 a2, .int .i64 a3, .slice ap1 an1 ac1, .slice ap2 an2 ac2, .slice ap3 an3 ac3], .agg #[.int .i64 b1, .int .i64 b2, .int .i64 b3, .slice bp1 bn1 bc1, .slice bp2 bn2 bc2, .slice bp3 bn3 bc3]] w fun e w' => e = .returned (.bool true) ∧ Old w w' := by
 have HA := hid hA
 have HB := hid hB
 have HNw := hid (fun (W : World) => cnew_any 4 9 W)
 have HAl := hid (fun (W : World) => alive_any W)
 have HDa := hid (fun (base cb : Nat) (G : Cg) (W : World) (u : Old w W) (hb : w.heap.size ≤ base) (h : CtAt base cb G W) (ok : CpOk G.c) => decide_any (⟨a1, a2, 0, ap1, ap2, ap3, an1, an2, an3, ac1, ac2, ac3, ax1, ax3, af2⟩ : Sb) base cb G W (HA.out.old u) (Sb.arg_far HA.out (fun k q => Nat.le_trans hb (h.lt k q).1)) h ok)
 have HDb := hid (fun (base cb : Nat) (G : Cg) (W : World) (u : Old w W) (hb : w.heap.size ≤ base) (h : CtAt base cb G W) (ok : CpOk G.c) => decide_any (⟨b1, b2, 0, bp1, bp2, bp3, bn1, bn2, bn3, bc1, bc2, bc3, bx1, bx3, bf2⟩ : Sb) base cb G W (HB.out.old u) (Sb.arg_far HB.out (fun k q => Nat.le_trans hb (h.lt k q).1)) h ok)
 have HCa := hid (fun (W : World) (u : Old w W) => refChk_any a1 a2 0 ap1 ap2 ap3 an1 an2 an3 ac1 ac2 ac3 ax1 ax3 af2 W (HA.out.old u).h1 (HA.out.old u).h2 (HA.out.old u).h3)
 have HCb := hid (fun (W : World) (u : Old w W) => refChk_any b1 b2 0 bp1 bp2 bp3 bn1 bn2 bn3 bc1 bc2 bc3 bx1 bx3 bf2 W (HB.out.old u).h1 (HB.out.old u).h2 (HB.out.old u).h3)
 have HWr := hid (fun (k : Nat) (hk : Fl.W k) (W : World) (u : Old w W) => rwrites_any (⟨b1, b2, 0, bp1, bp2, bp3, bn1, bn2, bn3, bc1, bc2, bc3, bx1, bx3, bf2⟩ : Sb) k hk W (HB.out.old u))
 have HM1 := hid (fun (W : World) (u : Old w W) => rmeets_any (⟨a1, a2, 0, ap1, ap2, ap3, an1, an2, an3, ac1, ac2, ac3, ax1, ax3, af2⟩ : Sb) (⟨b1, b2, 0, bp1, bp2, bp3, bn1, bn2, bn3, bc1, bc2, bc3, bx1, bx3, bf2⟩ : Sb) W (HA.out.old u) (HB.out.old u))
 have HM2 := hid (fun (W : World) (u : Old w W) => rmeets_any (⟨b1, b2, 0, bp1, bp2, bp3, bn1, bn2, bn3, bc1, bc2, bc3, bx1, bx3, bf2⟩ : Sb) (⟨a1, a2, 0, ap1, ap2, ap3, an1, an2, an3, ac1, ac2, ac3, ax1, ax3, af2⟩ : Sb) W (HB.out.old u) (HA.out.old u))
 rw [meetU_pl] at HM1 HM2
 have hck1 : (⟨a1, a2, 0, ap1, ap2, ap3, an1, an2, an3, ac1, ac2, ac3, ax1, ax3, af2⟩ : Sb).chk = chkV a1 a2 0 an1 an2 an3 ax1 ax3 af2 := rfl
 have hck2 : (⟨b1, b2, 0, bp1, bp2, bp3, bn1, bn2, bn3, bc1, bc2, bc3, bx1, bx3, bf2⟩ : Sb).chk = chkV b1 b2 0 bn1 bn2 bn3 bx1 bx3 bf2 := rfl
 rw [← hck1] at HCa
 rw [← hck2] at HCb
 clear hck1 hck2
 have hF : ∀ W, Old w W → FRow W (.slice ap3 an3 ac3) an3 ax3 := fun W u => (HA.out.old u).h3
 have HFr := hid hF
 have HWU := hid (fun (k : Nat) => writeU_pl (⟨b1, b2, 0, bp1, bp2, bp3, bn1, bn2, bn3, bc1, bc2, bc3, bx1, bx3, bf2⟩ : Sb) k)
 have HBW := hid (show ∀ j, j < an3 → writeU (⟨b1, b2, 0, bp1, bp2, bp3, bn1, bn2, bn3, bc1, bc2, bc3, bx1, bx3, bf2⟩ : Sb).pl (ax3 j) = true → bwU (⟨a1, a2, 0, ap1, ap2, ap3, an1, an2, an3, ac1, ac2, ac3, ax1, ax3, af2⟩ : Sb).pl (⟨b1, b2, 0, bp1, bp2, bp3, bn1, bn2, bn3, bc1, bc2, bc3, bx1, bx3, bf2⟩ : Sb).pl = true from fun j hj e => by
  unfold bwU
  exact List.any_eq_true.2 ⟨ax3 j, by show ax3 j ∈ lsG ax3 an3; simp [lsG]; exact ⟨j, hj, rfl⟩, e⟩)
 have HBF := hid (show (∀ j, j < an3 → writeU (⟨b1, b2, 0, bp1, bp2, bp3, bn1, bn2, bn3, bc1, bc2, bc3, bx1, bx3, bf2⟩ : Sb).pl (ax3 j) = false) → bwU (⟨a1, a2, 0, ap1, ap2, ap3, an1, an2, an3, ac1, ac2, ac3, ax1, ax3, af2⟩ : Sb).pl (⟨b1, b2, 0, bp1, bp2, bp3, bn1, bn2, bn3, bc1, bc2, bc3, bx1, bx3, bf2⟩ : Sb).pl = false from fun h => by
  unfold bwU
  rw [List.any_eq_false]
  intro x hx
  obtain ⟨i, hi, rfl⟩ := lsG_mem (show x ∈ lsG ax3 an3 from hx)
  rw [h i hi]; decide)
 have H1 := hid (fun (ck : Int) => dec_new 4 9 (⟨a1, a2, 0, ap1, ap2, ap3, an1, an2, an3, ac1, ac2, ac3, ax1, ax3, af2⟩ : Sb).pl ck rfl)
 have H2 := hid (fun (ck : Int) => dec_second 4 9 (⟨a1, a2, 0, ap1, ap2, ap3, an1, an2, an3, ac1, ac2, ac3, ax1, ax3, af2⟩ : Sb).pl (⟨b1, b2, 0, bp1, bp2, bp3, bn1, bn2, bn3, bc1, bc2, bc3, bx1, bx3, bf2⟩ : Sb).pl ck rfl)
 have HPF := hid (Sb.plF hA)
 clear hA hB hF
 obtain ⟨ca, hca⟩ : ∃ ca, (⟨a1, a2, 0, ap1, ap2, ap3, an1, an2, an3, ac1, ac2, ac3, ax1, ax3, af2⟩ : Sb).chk = ca := ⟨_, rfl⟩
 obtain ⟨cbk, hcb⟩ : ∃ cbk, (⟨b1, b2, 0, bp1, bp2, bp3, bn1, bn2, bn3, bc1, bc2, bc3, bx1, bx3, bf2⟩ : Sb).chk = cbk := ⟨_, rfl⟩
 rw [hca] at HDa HCa
 rw [hcb] at HDb HCb
 clear hca hcb
 unfold DePost at HDa HDb
 dsimp only at HDa HDb HWr HM1 HM2
 generalize (⟨a1, a2, 0, ap1, ap2, ap3, an1, an2, an3, ac1, ac2, ac3, ax1, ax3, af2⟩ : Sb).pl = UA at *
 generalize (⟨b1, b2, 0, bp1, bp2, bp3, bn1, bn2, bn3, bc1, bc2, bc3, bx1, bx3, bf2⟩ : Sb).pl = UB at *
 go_enter Tryz.func3, Tryz.ntmps3
 go_upto_region 1 with fail
 have U0 := hid (((Old.refl w).alloc (.cells #[.int .i64 a1, .int .i64 a2, .int .i64 a3, .slice ap1 an1 ac1, .slice ap2 an2 ac2, .slice ap3 an3 ac3] 25)).alloc (.cells #[.int .i64 b1, .int .i64 b2, .int .i64 b3, .slice bp1 bn1 bc1, .slice bp2 bn2 bc2, .slice bp3 bn3 bc3] 25))
 have N0 := hid (two_newK w (.cells #[.int .i64 a1, .int .i64 a2, .int .i64 a3, .slice ap1 an1 ac1, .slice ap2 an2 ac2, .slice ap3 an3 ac3] 25) (.cells #[.int .i64 b1, .int .i64 b2, .int .i64 b3, .slice bp1 bn1 bc1, .slice bp2 bn2 bc2, .slice bp3 bn3 bc3] 25))
 generalize (w.alloc (.cells #[.int .i64 a1, .int .i64 a2, .int .i64 a3, .slice ap1 an1 ac1, .slice ap2 an2 ac2, .slice ap3 an3 ac3] 25)).alloc (.cells #[.int .i64 b1, .int .i64 b2, .int .i64 b3, .slice bp1 bn1 bc1, .slice bp2 bn2 bc2, .slice bp3 bn3 bc3] 25) = w0 at *
 obtain ⟨ab, hab⟩ : ∃ ab, w.heap.size = ab := ⟨_, rfl⟩
 have HAb := hid hab
 rw [hab] at N0 ⊢
 obtain ⟨bb, hbb⟩ : ∃ bb, ab + 1 = bb := ⟨_, rfl⟩
 have HBb := hid hbb
 rw [hbb] at N0 ⊢
 clear hab hbb
 have A0 := hid (show SubB' ab a1 a2 a3 (.slice ap1 an1 ac1) (.slice ap2 an2 ac2) (.slice ap3 an3 ac3) w0 from N0.out.1)
 have B0 := hid (show SubB' bb b1 b2 b3 (.slice bp1 bn1 bc1) (.slice bp2 bn2 bc2) (.slice bp3 bn3 bc3) w0 from N0.out.2)
 clear N0
 go_upto_region 4 with (first | (go_at_call 8; refine (HAl.out w1).mono ?_; rintro e w2 ⟨rfl, o2⟩; have O2 := hid o2; clear o2) | (go_at_call 7; refine (HNw.out w0).mono ?_; rintro e w1 ⟨cb, G, rfl, h1, o1, c1⟩; have HC := hid h1; have O1 := hid o1; have CG := hid c1; clear h1 o1 c1))
 have C2 := hid (HC.out.old O2.out)
 have U2 := hid (U0.out.trans (O1.out.trans O2.out))
 have A2 := hid (show SubB' ab a1 a2 a3 (.slice ap1 an1 ac1) (.slice ap2 an2 ac2) (.slice ap3 an3 ac3) w2 from (O1.out.trans O2.out).block A0.out)
 have B2 := hid (show SubB' bb b1 b2 b3 (.slice bp1 bn1 bc1) (.slice bp2 bn2 bc2) (.slice bp3 bn3 bc3) w2 from (O1.out.trans O2.out).block B0.out)
 have HLt := hid (show ab < w0.heap.size ∧ bb < w0.heap.size ∧ ab ≠ bb from ⟨heap_lt A0.out, heap_lt B0.out, by have := HBb.out; omega⟩)
 have KN := hid (show G.kn = [] from by have := HC.out.kp; rw [CG.out] at this; exact List.map_eq_nil_iff.1 this)
 have HBs := hid (show w.heap.size ≤ w0.heap.size from U0.out.size)
 clear HC O1 O2 A0 B0 HNw HAl
 obtain ⟨⟨x0, x1, x2, x3, x4, x5⟩, xf⟩ := box6F A2.out
 obtain ⟨⟨y0, y1, y2, y3, y4, y5⟩, yf⟩ := box6F B2.out
 have xf2 := xf 2
 have yf2 := yf 2
 clear xf yf
 go_upto_region 5 with fail
 clear x0 x1 x2 x3 x4 x5 y0 y1 y2 y3 y4 y5 xf2 yf2
 have A3 := hid (show SubB' ab a1 a2 0 (.slice ap1 an1 ac1) (.slice ap2 an2 ac2) (.slice ap3 an3 ac3) (w2.setCell ⟨ab, 2, none⟩ (.int .i64 0)) from Go.Joins.block_setCell A2.out (.int .i64 0) (i := 2))
 have CA := hid (Chg.set (S := [ab]) w2 ⟨ab, 2, none⟩ (.int .i64 0) (by simp))
 have B3 := hid (show SubB' bb b1 b2 b3 (.slice bp1 bn1 bc1) (.slice bp2 bn2 bc2) (.slice bp3 bn3 bc3) (w2.setCell ⟨ab, 2, none⟩ (.int .i64 0)) from CA.out.heapAt B2.out (by simp; exact fun e => HLt.out.2.2 e.symm))
 have C3 := hid (C2.out.chg CA.out (fun k q z => by simp at z; subst z; have := (C2.out.lt _ q).1; have := HLt.out.1; omega) (fun k q => by rw [KN.out] at q; cases q))
 have U3 := hid (U2.out.below (CA.out.below w.heap.size (fun k q => by simp at q; have := HAb.out; omega) U2.out.size))
 generalize w2.setCell ⟨ab, 2, none⟩ (.int .i64 0) = w3 at *
 obtain ⟨⟨y0, y1, y2, y3, y4, y5⟩, yf⟩ := box6F B3.out
 have yf2 := yf 2
 clear yf CA A2 B2 C2 U2
 go_upto_region 6 with fail
 clear y0 y1 y2 y3 y4 y5 yf2
 have B4 := hid (show SubB' bb b1 b2 0 (.slice bp1 bn1 bc1) (.slice bp2 bn2 bc2) (.slice bp3 bn3 bc3) (w3.setCell ⟨bb, 2, none⟩ (.int .i64 0)) from Go.Joins.block_setCell B3.out (.int .i64 0) (i := 2))
 have CA := hid (Chg.set (S := [bb]) w3 ⟨bb, 2, none⟩ (.int .i64 0) (by simp))
 have A4 := hid (show SubB' ab a1 a2 0 (.slice ap1 an1 ac1) (.slice ap2 an2 ac2) (.slice ap3 an3 ac3) (w3.setCell ⟨bb, 2, none⟩ (.int .i64 0)) from CA.out.heapAt A3.out (by simp; exact HLt.out.2.2))
 have C4 := hid (C3.out.chg CA.out (fun k q z => by simp at z; subst z; have := (C3.out.lt _ q).1; have := HLt.out.2.1; omega) (fun k q => by rw [KN.out] at q; cases q))
 have U4 := hid (U3.out.below (CA.out.below w.heap.size (fun k q => by simp at q; have := HAb.out; have := HBb.out; omega) U3.out.size))
 generalize w3.setCell ⟨bb, 2, none⟩ (.int .i64 0) = w4 at *
 clear CA A3 B3 C3 U3
 have D1 := hid (HDa.out w0.heap.size cb G w4 U4.out HBs.out C4.out (by rw [CG.out]; exact (new_ok 4 9).1))
 rw [CG.out, H1.out ca] at D1
 have HMb := hid (show ∀ k, k = ab ∨ k = bb → k ∉ mblC cb G from fun k e q => by have := (C4.out.lt k q).1; rcases e with rfl | rfl; have := HLt.out.1; omega; have := HLt.out.2.1; omega)
 obtain ⟨⟨x0, x1, x2, x3, x4, x5⟩, -⟩ := box6F A4.out
 by_cases hca : ca = 0
 ·subst hca
  simp only [ne_eq, not_true_eq_false, if_false] at D1
  try dsimp only at D1
  go_upto_region 7 with (go_at_call 9; refine D1.out.mono ?_; rintro e w5 ⟨G5, rfl, h5, m5, c5, -⟩; have C5 := hid h5; have U5 := hid (m5.keep' U4.out HBs.out C4.out); have A5 := hid (m5.1.heapAt A4.out (HMb.out _ (.inl rfl))); have B5 := hid (m5.1.heapAt B4.out (HMb.out _ (.inr rfl))); have G5c := hid c5; have HMb5 := hid (show ∀ k, k = ab ∨ k = bb → k ∉ mblC cb G5 from fun k e q => by rcases m5.2 k q with z | z; exact HMb.out k e z; have a := heap_lt A4.out; have b := heap_lt B4.out; rcases e with rfl | rfl <;> omega); clear h5 m5 c5)
  clear x0 x1 x2 x3 x4 x5 D1
  have U6 := hid ((Old.refl w5).alloc (.cells #[.int .i64 0, .int .i64 1] 33))
  have V6 := hid (alloc_at w5 (.cells #[.int .i64 0, .int .i64 1] 33))
  have NV := hid (show w5.heap.size ∉ mblC cb G5 from fun q => absurd (C5.out.lt w5.heap.size q).2 (Nat.lt_irrefl _))
  generalize w5.alloc (.cells #[.int .i64 0, .int .i64 1] 33) = w6 at *
  generalize w5.heap.size = vb at *
  obtain ⟨⟨x0, x1, x2, x3, x4, x5⟩, -⟩ := box6F (U6.out.block A5.out)
  go_upto_region 10 with (go_at_call 10; refine (HCa.out _ (U5.out.trans U6.out)).mono ?_; rintro e w7 ⟨rfl, o7⟩; have U7 := hid ((U5.out.trans U6.out).trans o7); have V7 := hid (o7.block V6.out); have C7 := hid (C5.out.old (U6.out.trans o7)); have A7 := hid ((U6.out.trans o7).block A5.out); have B7 := hid ((U6.out.trans o7).block B5.out); clear o7)
  clear x0 x1 x2 x3 x4 x5 V6 U6 A5 B5 C5 U5
  have D2 := hid (HDb.out w0.heap.size cb G5 w7 U7.out HBs.out C7.out (by rw [G5c.out]; exact (commit_okP UA HPF.out)))
  rw [G5c.out] at D2
  obtain ⟨q1, hq1⟩ : ∃ q, (decC (pushC (newC 4 9) UA false) UB cbk).1 = q := ⟨_, rfl⟩
  obtain ⟨q2, hq2⟩ : ∃ q, (decC (pushC (newC 4 9) UA false) UB cbk).2.1 = q := ⟨_, rfl⟩
  have HQ := hid (show q1 = _ ∧ q2 = _ from ⟨hq1.symm.trans (H2.out cbk).1, hq2.symm.trans (H2.out cbk).2⟩)
  rw [hq1, hq2] at D2
  clear hq1 hq2 H1 H2
  obtain ⟨⟨y0, y1, y2, y3, y4, y5⟩, -⟩ := box6F B7.out
  go_upto_region 11 with (go_at_call 9; refine D2.out.mono ?_; rintro e w8 ⟨G8, rfl, h8, m8, -, -⟩; have U8 := hid (m8.keep' U7.out HBs.out C7.out); have A8 := hid (m8.1.heapAt A7.out (HMb5.out _ (.inl rfl))); have B8 := hid (m8.1.heapAt B7.out (HMb5.out _ (.inr rfl))); have V8 := hid (m8.1.heapAt V7.out NV.out); clear h8 m8)
  clear y0 y1 y2 y3 y4 y5 D2 C7 V7 A7 B7 U7
  have U9 := hid (U8.out.trans ((Old.refl w8).alloc (.cells #[.int .i64 q1, .int .i64 q2] 33)))
  have A9 := hid (((Old.refl w8).alloc (.cells #[.int .i64 q1, .int .i64 q2] 33)).block A8.out)
  have B9 := hid (((Old.refl w8).alloc (.cells #[.int .i64 q1, .int .i64 q2] 33)).block B8.out)
  have V9 := hid (((Old.refl w8).alloc (.cells #[.int .i64 q1, .int .i64 q2] 33)).block V8.out)
  have X9 := hid (alloc_at w8 (.cells #[.int .i64 q1, .int .i64 q2] 33))
  generalize w8.alloc (.cells #[.int .i64 q1, .int .i64 q2] 33) = w9 at *
  generalize w8.heap.size = xb at *
  clear U8 A8 B8 V8
  obtain ⟨⟨v0, v1⟩, -⟩ := box2V V9.out
  obtain ⟨⟨y0, y1, y2, y3, y4, y5⟩, -⟩ := box6F B9.out
  by_cases hcb : cbk = 0
  ·subst hcb
   go_upto_region 16 with (go_at_call 10; refine (HCb.out _ U9.out).mono ?_; rintro e wa ⟨rfl, oa⟩; have Ua := hid (U9.out.trans oa); have Aa := hid (oa.block A9.out); have Ba := hid (oa.block B9.out); have Xa := hid (oa.block X9.out); clear oa)
   clear v0 v1 y0 y1 y2 y3 y4 y5 U9 A9 B9 V9 X9 HCa HCb HDa HDb
   have HQ2 := hid (show q1 = (if bwU UB UA = true then 111 else if (meetU UB UA && meetU UA UB) = true then 112 else 0) ∧ q2 = (if bwU UB UA = true then 0 else if (meetU UB UA && meetU UA UB) = true then 0 else 2) from by have := HQ.out; simpa using this)
   clear HQ
   obtain ⟨⟨x0, x1, x2, x3, x4, x5⟩, -⟩ := box6F Aa.out
   go_upto_region 17 with fail
   clear x0 x1 x2 x3 x4 x5
   go_wp2
   go_loopw [65] (fun i wx => ∃ k : Nat, k ≤ an3 ∧ i = .int .i64 (k : Nat) ∧ Hid ((∀ j, j < k → writeU UB (ax3 j) = false) ∧ Old wa wx)) (fun i _ => an3 - (intOf i).toNat)
   case atStart => exact ⟨0, Nat.zero_le _, rfl, hid ⟨fun j hj => by omega, Old.refl _⟩⟩
   case round =>
    obtain ⟨k, hk, rfl, HI⟩ := hrel
    have Ur := hid (Ua.out.trans HI.out.2)
    have Xr := hid (HI.out.2.block Xa.out)
    obtain ⟨⟨u0, u1⟩, -⟩ := box2V Xr.out
    obtain ⟨⟨y0, y1, y2, y3, y4, y5⟩, -⟩ := box6F (HI.out.2.block Ba.out)
    obtain ⟨hmx, pp, cc, ev, hc⟩ := HFr.out wr Ur.out
    simp only [Value.slice.injEq, true_and] at ev
    obtain ⟨rfl, rfl⟩ := ev
    by_cases hlt : k < an3
    ·obtain ⟨gb, off, rfl, hW, c0⟩ := hc k hlt
     have l1 : (0 : Int) ≤ (k : Int) := by omega
     have l2 : (k : Int) < (an3 : Int) := by omega
     have HWk := hid (fun (W : World) (u : Old w W) => HWr.out (ax3 k) hW W u)
     rw [HWU.out] at HWk
     have HBk := hid (HBW.out k hlt)
     have HSt := hid (show writeU UB (ax3 k) = false → ∀ j, j < k + 1 → writeU UB (ax3 j) = false from fun e j hj => by
      by_cases z : j = k
      ·subst z; exact e
      ·exact HI.out.1 j (by omega))
     clear hc HFr HWr hW
     generalize ax3 k = X at *
     obtain ⟨wu, hwu⟩ : ∃ wu, writeU UB X = wu := ⟨_, rfl⟩
     rw [hwu] at HWk HBk HSt
     clear hwu
     cases wu
     ·go_wp2_with (go_at_call 12; refine (HWk.out _ Ur.out).mono ?_; rintro e wb ⟨rfl, ob⟩; have Ob := hid (HI.out.2.trans ob); clear ob)
      go_roundw
      case rel => exact ⟨k + 1, hlt, by go_num, hid ⟨HSt.out (by first | rfl | trivial), Ob.out⟩⟩
      case measure => simp [intOf]; omega
     ·have hbw := HBk.out rfl
      rw [bwU_comm] at hbw
      have HQ3 := HQ2.out
      rw [hbw] at HQ3
      simp only [if_true] at HQ3
      obtain ⟨rfl, rfl⟩ := HQ3
      clear HQ2 hbw
      go_wp2_with (go_at_call 12; refine (HWk.out _ Ur.out).mono ?_; rintro e wb ⟨rfl, ob⟩; have Ob := hid (Ur.out.trans ob); obtain ⟨⟨u0', u1'⟩, -⟩ := box2V (ob.block Xr.out); clear ob)
      go_ret
      exact ⟨rfl, Ob.out⟩
    ·obtain rfl : k = an3 := by omega
     have HL := hid (pairs_last UA UB (HBF.out HI.out.1) q1 q2 HQ2.out.1 HQ2.out.2)
     obtain ⟨⟨x0, x1, x2, x3, x4, x5⟩, -⟩ := box6F (HI.out.2.block Aa.out)
     clear hc HQ2
     obtain ⟨m1, hm1⟩ : ∃ m, meetU UA UB = m := ⟨_, rfl⟩
     obtain ⟨m2, hm2⟩ : ∃ m, meetU UB UA = m := ⟨_, rfl⟩
     rw [hm1] at HM1
     rw [hm2] at HM2
     rw [hm1, hm2] at HL
     clear hm1 hm2
     have Aw := hid (HI.out.2.block Aa.out)
     have Bw := hid (HI.out.2.block Ba.out)
     cases m1
     ·obtain ⟨rfl, rfl⟩ := HL.out.2 rfl
      go_wp2_with (go_at_call 13; refine (HM1.out _ Ur.out).mono ?_; rintro e wb ⟨rfl, ob⟩; have Ob := hid (Ur.out.trans ob); obtain ⟨⟨u0', u1'⟩, -⟩ := box2V (ob.block Xr.out); clear ob)
      go_ret
      exact ⟨rfl, Ob.out⟩
     ·cases m2
      ·obtain ⟨rfl, rfl⟩ := HL.out.2 rfl
       go_wp2_with (first | (go_at_call 13; refine (HM2.out _ Ob.out).mono ?_; rintro e wc ⟨rfl, oc⟩; have Oc := hid (Ob.out.trans oc); obtain ⟨⟨u0'', u1''⟩, -⟩ := box2V (oc.block Xb.out); clear oc) | (go_at_call 13; refine (HM1.out _ Ur.out).mono ?_; rintro e wb ⟨rfl, ob⟩; have Ob := hid (Ur.out.trans ob); have Xb := hid (ob.block Xr.out); clear x0 x1 x2 x3 x4 x5 y0 y1 y2 y3 y4 y5; obtain ⟨⟨x0, x1, x2, x3, x4, x5⟩, -⟩ := box6F (ob.block Aw.out); obtain ⟨⟨y0, y1, y2, y3, y4, y5⟩, -⟩ := box6F (ob.block Bw.out); clear ob))
       go_ret
       exact ⟨rfl, Oc.out⟩
      ·obtain ⟨rfl, rfl⟩ := HL.out.1 rfl
       go_wp2_with (first | (go_at_call 13; refine (HM2.out _ Ob.out).mono ?_; rintro e wc ⟨rfl, oc⟩; have Oc := hid (Ob.out.trans oc); obtain ⟨⟨u0'', u1''⟩, -⟩ := box2V (oc.block Xb.out); clear oc) | (go_at_call 13; refine (HM1.out _ Ur.out).mono ?_; rintro e wb ⟨rfl, ob⟩; have Ob := hid (Ur.out.trans ob); have Xb := hid (ob.block Xr.out); clear x0 x1 x2 x3 x4 x5 y0 y1 y2 y3 y4 y5; obtain ⟨⟨x0, x1, x2, x3, x4, x5⟩, -⟩ := box6F (ob.block Aw.out); obtain ⟨⟨y0, y1, y2, y3, y4, y5⟩, -⟩ := box6F (ob.block Bw.out); clear ob))
       go_ret
       exact ⟨rfl, Oc.out⟩
  ·have HQ2 := hid (show q1 = cbk ∧ q2 = 0 from by have := HQ.out; rw [if_pos hcb, if_pos hcb] at this; exact this)
   obtain ⟨rfl, rfl⟩ := HQ2.out
   have dne : (q1 != 0) = true := by simp [hcb]
   go_upto_region 15 with (go_at_call 10; refine (HCb.out _ U9.out).mono ?_; rintro e wa ⟨rfl, oa⟩; have Ua := hid (U9.out.trans oa); have Xa := hid (oa.block X9.out); clear oa)
   clear v0 v1 y0 y1 y2 y3 y4 y5
   obtain ⟨⟨u0, u1⟩, -⟩ := box2V Xa.out
   go_wp2
   go_ret
   exact ⟨rfl, Ua.out⟩
 ·rw [if_pos hca] at D1
  dsimp only at D1
  go_upto_region 7 with (go_at_call 9; refine D1.out.mono ?_; rintro e w5 ⟨G5, rfl, h5, m5, c5, -⟩; have C5 := hid h5; have U5 := hid (m5.keep' U4.out HBs.out C4.out); have A5 := hid (m5.1.heapAt A4.out (HMb.out _ (.inl rfl))); have G5c := hid c5; clear h5 m5 c5)
  clear x0 x1 x2 x3 x4 x5
  have U6 := hid ((Old.refl w5).alloc (.cells #[.int .i64 ca, .int .i64 0] 33))
  have V6 := hid (alloc_at w5 (.cells #[.int .i64 ca, .int .i64 0] 33))
  generalize w5.alloc (.cells #[.int .i64 ca, .int .i64 0] 33) = w6 at *
  generalize w5.heap.size = vb at *
  obtain ⟨⟨x0, x1, x2, x3, x4, x5⟩, -⟩ := box6F (U6.out.block A5.out)
  have dne : (ca != 0) = true := by simp [hca]
  go_upto_region 9 with (go_at_call 10; refine (HCa.out _ (U5.out.trans U6.out)).mono ?_; rintro e w7 ⟨rfl, o7⟩; have U7 := hid ((U5.out.trans U6.out).trans o7); have V7 := hid (o7.block V6.out); have C7 := hid (C5.out.old (U6.out.trans o7)); clear o7)
  clear x0 x1 x2 x3 x4 x5
  obtain ⟨⟨v0, v1⟩, -⟩ := box2V V7.out
  have HCn := hid (count_any _ _ _ w7 C7.out)
  rw [show G5.c.cnt = 0 from by rw [G5c.out]; rfl] at HCn
  go_wp2_with (go_at_call 11; refine HCn.out.mono ?_; rintro e w_ ⟨rfl, hw_⟩; subst hw_)
  go_ret
  exact ⟨rfl, U7.out⟩
end Go.Proofs.YtfpadkgienjjpaaGreat
