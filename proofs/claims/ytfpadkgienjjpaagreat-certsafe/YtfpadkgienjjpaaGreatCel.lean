/- The laws' own snap, apart; conditions: what is handed in lies in memory. -/
import Derived.Test.YtfpadkgienjjpaaGreatCej
import Derived.Test.YtfpadkgienjjpaaGreatCvS
namespace Go.Proofs.YtfpadkgienjjpaaGreat
open Go.RowKit Go.Lib
set_option linter.unusedVariables false
set_option linter.unusedSimpArgs false
set_option maxRecDepth 20000
attribute [local go_sem] run_bits run_frombits run_store_float eqF
def snapV (s3 n : Int) : Int := if s3 < 0 ∧ -50 < s3 then max (n + 1 + s3) 0 else s3
theorem snap_keep {s3 n : Int} (h : ¬ (s3 < 0 ∧ -50 < s3)) : snapV s3 n = s3 := if_neg h
theorem snap_turn {s3 n : Int} (h : s3 < 0 ∧ -50 < s3) : snapV s3 n = max (n + 1 + s3) 0 := if_pos h
set_option maxHeartbeats 4000000 in
theorem snap_any (s1 s2 s3 : Int) (a1 a2 a3 : Option Addr) (n1 n2 n3 c1 c2 c3 : Nat) (n : Int) (h0 : 0 ≤ n) (h1 : n ≤ 1099511627776) (w : World) :
    Calls Tryz.prog 15 #[.agg #[.int .i64 s1, .int .i64 s2, .int .i64 s3, .slice a1 n1 c1, .slice a2 n2 c2, .slice a3 n3 c3], .int .i64 n] w fun e w' => e = .returned (.agg #[.int .i64 s1, .int .i64 s2, .int .i64 (snapV s3 n), .slice a1 n1 c1, .slice a2 n2 c2, .slice a3 n3 c3]) ∧ Old w w' := by
 have HV := hid (fun (h : ¬ (s3 < 0 ∧ -50 < s3)) => snap_keep (n := n) h)
 have HW := hid (fun (h : s3 < 0 ∧ -50 < s3) => snap_turn (n := n) h)
 generalize snapV s3 n = z at *
 go_enter Tryz.func15, Tryz.ntmps15
 go_upto_region 1 with fail
 have U0 := hid (((Old.refl w).alloc (.cells #[.int .i64 s1, .int .i64 s2, .int .i64 s3, .slice a1 n1 c1, .slice a2 n2 c2, .slice a3 n3 c3] 25)).alloc (.cells #[.int .i64 0, .int .i64 0, .int .i64 0, .slice none 0 0, .slice none 0 0, .slice none 0 0] 25))
 have N0 := hid (two_newK w (.cells #[.int .i64 s1, .int .i64 s2, .int .i64 s3, .slice a1 n1 c1, .slice a2 n2 c2, .slice a3 n3 c3] 25) (.cells #[.int .i64 0, .int .i64 0, .int .i64 0, .slice none 0 0, .slice none 0 0, .slice none 0 0] 25))
 generalize (w.alloc (.cells #[.int .i64 s1, .int .i64 s2, .int .i64 s3, .slice a1 n1 c1, .slice a2 n2 c2, .slice a3 n3 c3] 25)).alloc (.cells #[.int .i64 0, .int .i64 0, .int .i64 0, .slice none 0 0, .slice none 0 0, .slice none 0 0] 25) = w0 at *
 obtain ⟨sb, hsb⟩ : ∃ sb, w.heap.size = sb := ⟨_, rfl⟩
 have HSb := hid hsb
 rw [hsb] at N0 ⊢
 obtain ⟨rb, hrb⟩ : ∃ rb, sb + 1 = rb := ⟨_, rfl⟩
 have HRb := hid (show w.heap.size ≤ sb ∧ w.heap.size ≤ rb ∧ rb ≠ sb from by omega)
 rw [hrb] at N0 ⊢
 clear hsb hrb
 have B0 := hid (show SubB' sb s1 s2 s3 (.slice a1 n1 c1) (.slice a2 n2 c2) (.slice a3 n3 c3) w0 from N0.out.1)
 have R0 := hid (show SubB' rb 0 0 0 (.slice none 0 0) (.slice none 0 0) (.slice none 0 0) w0 from N0.out.2)
 clear N0
 obtain ⟨⟨z0, z1, z2, z3, z4, z5⟩, zf⟩ := box6F B0.out
 have zf2 := zf 2
 clear zf
 by_cases ha : s3 < 0
 ·have d1 : decide (s3 < 0) = true := by simp [ha]
  by_cases hb : -50 < s3
  ·have d2 : decide (-50 < s3) = true := by simp [hb]
   have d3 : decide (s3 > -50) = true := by simp; omega
   have hz := HW.out ⟨ha, hb⟩
   have q1 : max (n + 1 + s3) 0 = z := hz.symm
   clear HV HW hz
   go_upto_region 3 with fail
   have CA := hid (Chg.set (S := [sb]) w0 ⟨sb, 2, none⟩ (.int .i64 z) (by simp))
   have B1 := hid (show SubB' sb s1 s2 z (.slice a1 n1 c1) (.slice a2 n2 c2) (.slice a3 n3 c3) (w0.setCell ⟨sb, 2, none⟩ (.int .i64 z)) from Go.Joins.block_setCell B0.out (.int .i64 z) (i := 2))
   have R1 := hid (show SubB' rb 0 0 0 (.slice none 0 0) (.slice none 0 0) (.slice none 0 0) (w0.setCell ⟨sb, 2, none⟩ (.int .i64 z)) from CA.out.heapAt R0.out (by simp; exact HRb.out.2.2))
   have U1 := hid (U0.out.below (CA.out.below w.heap.size (fun k q => by simp at q; have := HRb.out; omega) U0.out.size))
   clear z0 z1 z2 z3 z4 z5 zf2 B0 R0 U0 CA
   generalize w0.setCell ⟨sb, 2, none⟩ (.int .i64 z) = w1 at *
   obtain ⟨⟨z0, z1, z2, z3, z4, z5⟩, -⟩ := box6F B1.out
   obtain ⟨⟨y0, y1, y2, y3, y4, y5⟩, yf⟩ := box6F R1.out
   have g0 := yf 0
   have g1 := yf 1
   have g2 := yf 2
   have g3 := yf 3
   have g4 := yf 4
   have g5 := yf 5
   clear yf
   go_wp2
   have RF := hid (Go.Joins.block_setCell (Go.Joins.block_setCell (Go.Joins.block_setCell (Go.Joins.block_setCell (Go.Joins.block_setCell (Go.Joins.block_setCell R1.out (.int .i64 s1) (i := 0)) (.int .i64 s2) (i := 1)) (.int .i64 z) (i := 2)) (.slice a1 n1 c1) (i := 3)) (.slice a2 n2 c2) (i := 4)) (.slice a3 n3 c3) (i := 5))
   have CF := hid (((((((Chg.refl [rb] w1).trans (Chg.set (S := [rb]) _ ⟨rb, 0, none⟩ (.int .i64 s1) (by simp))).trans (Chg.set (S := [rb]) _ ⟨rb, 1, none⟩ (.int .i64 s2) (by simp))).trans (Chg.set (S := [rb]) _ ⟨rb, 2, none⟩ (.int .i64 z) (by simp))).trans (Chg.set (S := [rb]) _ ⟨rb, 3, none⟩ (.slice a1 n1 c1) (by simp))).trans (Chg.set (S := [rb]) _ ⟨rb, 4, none⟩ (.slice a2 n2 c2) (by simp))).trans (Chg.set (S := [rb]) _ ⟨rb, 5, none⟩ (.slice a3 n3 c3) (by simp)))
   have UF := hid (U1.out.below (CF.out.below w.heap.size (fun k q => by simp at q; have := HRb.out; omega) U1.out.size))
   obtain ⟨⟨k0, k1, k2, k3, k4, k5⟩, -⟩ := box6F RF.out
   exact bodyPost_ret (v := .agg #[.int .i64 s1, .int .i64 s2, .int .i64 z, .slice a1 n1 c1, .slice a2 n2 c2, .slice a3 n3 c3]) (by simp [results, Tryz.results15, go_sem, k0, k1, k2, k3, k4, k5]) rfl ⟨rfl, UF.out⟩
  ·obtain rfl := HV.out (fun q => hb q.2)
   have d2 : decide (-50 < z) = false := by simp; omega
   have d3 : decide (z > -50) = false := by simp; omega
   clear HV HW
   go_upto_region 3 with fail
   clear z0 z1 z2 z3 z4 z5 zf2
   have B1 := B0
   have R1 := R0
   have U1 := U0
   clear B0 R0 U0
   generalize w0 = w1 at *
   obtain ⟨⟨z0, z1, z2, z3, z4, z5⟩, -⟩ := box6F B1.out
   obtain ⟨⟨y0, y1, y2, y3, y4, y5⟩, yf⟩ := box6F R1.out
   have g0 := yf 0
   have g1 := yf 1
   have g2 := yf 2
   have g3 := yf 3
   have g4 := yf 4
   have g5 := yf 5
   clear yf
   go_wp2
   have RF := hid (Go.Joins.block_setCell (Go.Joins.block_setCell (Go.Joins.block_setCell (Go.Joins.block_setCell (Go.Joins.block_setCell (Go.Joins.block_setCell R1.out (.int .i64 s1) (i := 0)) (.int .i64 s2) (i := 1)) (.int .i64 z) (i := 2)) (.slice a1 n1 c1) (i := 3)) (.slice a2 n2 c2) (i := 4)) (.slice a3 n3 c3) (i := 5))
   have CF := hid (((((((Chg.refl [rb] w1).trans (Chg.set (S := [rb]) _ ⟨rb, 0, none⟩ (.int .i64 s1) (by simp))).trans (Chg.set (S := [rb]) _ ⟨rb, 1, none⟩ (.int .i64 s2) (by simp))).trans (Chg.set (S := [rb]) _ ⟨rb, 2, none⟩ (.int .i64 z) (by simp))).trans (Chg.set (S := [rb]) _ ⟨rb, 3, none⟩ (.slice a1 n1 c1) (by simp))).trans (Chg.set (S := [rb]) _ ⟨rb, 4, none⟩ (.slice a2 n2 c2) (by simp))).trans (Chg.set (S := [rb]) _ ⟨rb, 5, none⟩ (.slice a3 n3 c3) (by simp)))
   have UF := hid (U1.out.below (CF.out.below w.heap.size (fun k q => by simp at q; have := HRb.out; omega) U1.out.size))
   obtain ⟨⟨k0, k1, k2, k3, k4, k5⟩, -⟩ := box6F RF.out
   exact bodyPost_ret (v := .agg #[.int .i64 s1, .int .i64 s2, .int .i64 z, .slice a1 n1 c1, .slice a2 n2 c2, .slice a3 n3 c3]) (by simp [results, Tryz.results15, go_sem, k0, k1, k2, k3, k4, k5]) rfl ⟨rfl, UF.out⟩
 ·obtain rfl := HV.out (fun q => ha q.1)
  have d1 : decide (z < 0) = false := by simp; omega
  clear HV HW
  go_upto_region 3 with fail
  clear z0 z1 z2 z3 z4 z5 zf2
  have B1 := B0
  have R1 := R0
  have U1 := U0
  clear B0 R0 U0
  generalize w0 = w1 at *
  obtain ⟨⟨z0, z1, z2, z3, z4, z5⟩, -⟩ := box6F B1.out
  obtain ⟨⟨y0, y1, y2, y3, y4, y5⟩, yf⟩ := box6F R1.out
  have g0 := yf 0
  have g1 := yf 1
  have g2 := yf 2
  have g3 := yf 3
  have g4 := yf 4
  have g5 := yf 5
  clear yf
  go_wp2
  have RF := hid (Go.Joins.block_setCell (Go.Joins.block_setCell (Go.Joins.block_setCell (Go.Joins.block_setCell (Go.Joins.block_setCell (Go.Joins.block_setCell R1.out (.int .i64 s1) (i := 0)) (.int .i64 s2) (i := 1)) (.int .i64 z) (i := 2)) (.slice a1 n1 c1) (i := 3)) (.slice a2 n2 c2) (i := 4)) (.slice a3 n3 c3) (i := 5))
  have CF := hid (((((((Chg.refl [rb] w1).trans (Chg.set (S := [rb]) _ ⟨rb, 0, none⟩ (.int .i64 s1) (by simp))).trans (Chg.set (S := [rb]) _ ⟨rb, 1, none⟩ (.int .i64 s2) (by simp))).trans (Chg.set (S := [rb]) _ ⟨rb, 2, none⟩ (.int .i64 z) (by simp))).trans (Chg.set (S := [rb]) _ ⟨rb, 3, none⟩ (.slice a1 n1 c1) (by simp))).trans (Chg.set (S := [rb]) _ ⟨rb, 4, none⟩ (.slice a2 n2 c2) (by simp))).trans (Chg.set (S := [rb]) _ ⟨rb, 5, none⟩ (.slice a3 n3 c3) (by simp)))
  have UF := hid (U1.out.below (CF.out.below w.heap.size (fun k q => by simp at q; have := HRb.out; omega) U1.out.size))
  obtain ⟨⟨k0, k1, k2, k3, k4, k5⟩, -⟩ := box6F RF.out
  exact bodyPost_ret (v := .agg #[.int .i64 s1, .int .i64 s2, .int .i64 z, .slice a1 n1 c1, .slice a2 n2 c2, .slice a3 n3 c3]) (by simp [results, Tryz.results15, go_sem, k0, k1, k2, k3, k4, k5]) rfl ⟨rfl, UF.out⟩
theorem apU_key {A B : Su} {k : Nat} (hk : k ∈ A.W) (h : (readU B k || writeU B k) = true) : apU A B = false := by
 unfold apU
 rw [List.any_eq_true.2 ⟨k, hk, h⟩]
 rfl
theorem apU_last {A B : Su} (h : ∀ k ∈ A.W, (readU B k || writeU B k) = false) : apU A B = !meetU A B := by
 unfold apU
 rw [List.any_eq_false.2 (fun x q => by rw [h x q]; decide)]
 rfl
set_option maxHeartbeats 8000000 in
theorem apart_any (a b : Sb) (w : World) (ha : a.Ok w) (hb : b.Ok w) : Calls Tryz.prog 16 #[.agg #[.int .i64 a.s1, .int .i64 a.s2, .int .i64 a.s3, .slice a.a1 a.n1 a.c1, .slice a.a2 a.n2 a.c2, .slice a.a3 a.n3 a.c3], .agg #[.int .i64 b.s1, .int .i64 b.s2, .int .i64 b.s3, .slice b.a1 b.n1 b.c1, .slice b.a2 b.n2 b.c2, .slice b.a3 b.n3 b.c3]] w fun e w' => e = .returned (.bool (apU a.pl b.pl)) ∧ Old w w' := by
 have HFr := hid (fun (W : World) (u : Old w W) => (ha.old u).h3)
 have HRd := hid (fun (k : Nat) (hk : Fl.W k) (W : World) (u : Old w W) => rreads_any b k hk W (hb.old u))
 have HWr := hid (fun (k : Nat) (hk : Fl.W k) (W : World) (u : Old w W) => rwrites_any b k hk W (hb.old u))
 have HMt := hid (fun (W : World) (u : Old w W) => rmeets_any a b W (ha.old u) (hb.old u))
 have HRU := hid (fun (k : Nat) => readU_pl b k)
 have HWU := hid (fun (k : Nat) => writeU_pl b k)
 rw [meetU_pl] at HMt
 have HKey := hid (fun (i : Nat) (hi : i < a.n3) (h : (readU b.pl (a.x3 i) || writeU b.pl (a.x3 i)) = true) => apU_key (A := a.pl) (B := b.pl) (show a.x3 i ∈ lsG a.x3 a.n3 from by simp [lsG]; exact ⟨i, hi, rfl⟩) h)
 have HLast := hid (fun (h : ∀ i, i < a.n3 → (readU b.pl (a.x3 i) || writeU b.pl (a.x3 i)) = false) => apU_last (A := a.pl) (B := b.pl) (fun k q => by obtain ⟨i, hi, rfl⟩ := lsG_mem (show k ∈ lsG a.x3 a.n3 from q); exact h i hi))
 clear ha hb
 obtain ⟨a1, a2, a3, ap1, ap2, ap3, an1, an2, an3, ac1, ac2, ac3, ax1, ax3, af2⟩ := a
 generalize (⟨a1, a2, a3, ap1, ap2, ap3, an1, an2, an3, ac1, ac2, ac3, ax1, ax3, af2⟩ : Sb).pl = UA at *
 generalize b.pl = UB at *
 have HRB := hid (fun (k : Nat) => HRU.out k)
 dsimp only at HFr HMt HKey HLast
 generalize apU UA UB = res at *
 generalize meetU UA UB = mt at *
 obtain ⟨b1, b2, b3, bp1, bp2, bp3, bn1, bn2, bn3, bc1, bc2, bc3, bx1, bx3, bf2⟩ := b
 dsimp only at HRd HWr HMt
 go_enter Tryz.func16, Tryz.ntmps16
 go_upto_region 1 with fail
 have U0 := hid (((Old.refl w).alloc (.cells #[.int .i64 a1, .int .i64 a2, .int .i64 a3, .slice ap1 an1 ac1, .slice ap2 an2 ac2, .slice ap3 an3 ac3] 25)).alloc (.cells #[.int .i64 b1, .int .i64 b2, .int .i64 b3, .slice bp1 bn1 bc1, .slice bp2 bn2 bc2, .slice bp3 bn3 bc3] 25))
 have N0 := hid (two_newK w (.cells #[.int .i64 a1, .int .i64 a2, .int .i64 a3, .slice ap1 an1 ac1, .slice ap2 an2 ac2, .slice ap3 an3 ac3] 25) (.cells #[.int .i64 b1, .int .i64 b2, .int .i64 b3, .slice bp1 bn1 bc1, .slice bp2 bn2 bc2, .slice bp3 bn3 bc3] 25))
 generalize (w.alloc (.cells #[.int .i64 a1, .int .i64 a2, .int .i64 a3, .slice ap1 an1 ac1, .slice ap2 an2 ac2, .slice ap3 an3 ac3] 25)).alloc (.cells #[.int .i64 b1, .int .i64 b2, .int .i64 b3, .slice bp1 bn1 bc1, .slice bp2 bn2 bc2, .slice bp3 bn3 bc3] 25) = w0 at *
 obtain ⟨ab, hab⟩ : ∃ ab, w.heap.size = ab := ⟨_, rfl⟩
 rw [hab] at N0 ⊢
 obtain ⟨bb, hbb⟩ : ∃ bb, ab + 1 = bb := ⟨_, rfl⟩
 rw [hbb] at N0 ⊢
 clear hab hbb
 have A0 := hid (show SubB' ab a1 a2 a3 (.slice ap1 an1 ac1) (.slice ap2 an2 ac2) (.slice ap3 an3 ac3) w0 from N0.out.1)
 have B0 := hid (show SubB' bb b1 b2 b3 (.slice bp1 bn1 bc1) (.slice bp2 bn2 bc2) (.slice bp3 bn3 bc3) w0 from N0.out.2)
 clear N0
 obtain ⟨⟨x0, x1, x2, x3, x4, x5⟩, -⟩ := box6F A0.out
 go_upto_region 2 with fail
 clear x0 x1 x2 x3 x4 x5
 go_wp2
 go_loopw [10] (fun i wx => ∃ k : Nat, k ≤ an3 ∧ i = .int .i64 (k : Nat) ∧ Hid ((∀ j, j < k → (readU UB (ax3 j) || writeU UB (ax3 j)) = false) ∧ Old w0 wx)) (fun i _ => an3 - (intOf i).toNat)
 case atStart => exact ⟨0, Nat.zero_le _, rfl, hid ⟨fun j hj => by omega, Old.refl _⟩⟩
 case round =>
  obtain ⟨k, hk, rfl, HI⟩ := hrel
  have Ur := hid (U0.out.trans HI.out.2)
  have Br := hid (show SubB' bb b1 b2 b3 (.slice bp1 bn1 bc1) (.slice bp2 bn2 bc2) (.slice bp3 bn3 bc3) wr from HI.out.2.block B0.out)
  obtain ⟨hmx, pp, cc, ev, hc⟩ := HFr.out wr Ur.out
  simp only [Value.slice.injEq, true_and] at ev
  obtain ⟨rfl, rfl⟩ := ev
  by_cases hlt : k < an3
  ·obtain ⟨gb, off, rfl, hW, c0⟩ := hc k hlt
   have l1 : (0 : Int) ≤ (k : Int) := by omega
   have l2 : (k : Int) < (an3 : Int) := by omega
   have HRk := hid (HRd.out (ax3 k) hW)
   have HWk := hid (HWr.out (ax3 k) hW)
   have HSt := hid (show (readU UB (ax3 k) || writeU UB (ax3 k)) = false → ∀ j, j < k + 1 → (readU UB (ax3 j) || writeU UB (ax3 j)) = false from fun e j hj => by
    by_cases z : j = k
    ·subst z; exact e
    ·exact HI.out.1 j (by omega))
   have HK := hid (HKey.out k hlt)
   rw [HRU.out] at HRk
   rw [HWU.out] at HWk
   clear hc HFr HKey HLast HRd HWr hW HRU HWU HRB
   generalize ax3 k = X at *
   obtain ⟨ru, hru⟩ : ∃ ru, readU UB X = ru := ⟨_, rfl⟩
   obtain ⟨wu, hwu⟩ : ∃ wu, writeU UB X = wu := ⟨_, rfl⟩
   rw [hru] at HRk HSt HK
   rw [hwu] at HWk HSt HK
   clear hru hwu
   obtain ⟨⟨y0, y1, y2, y3, y4, y5⟩, -⟩ := box6F Br.out
   cases ru
   ·cases wu
    ·go_wp2_with (first | (go_at_call 12; refine (HWk.out _ Ob.out).mono ?_; rintro e wc ⟨rfl, oc⟩; have Oc := hid (Ob2.out.trans oc); clear oc) | (go_at_call 34; refine (HRk.out _ Ur.out).mono ?_; rintro e wb ⟨rfl, ob⟩; have Ob := hid (Ur.out.trans ob); have Ob2 := hid (HI.out.2.trans ob); clear y0 y1 y2 y3 y4 y5; obtain ⟨⟨y0, y1, y2, y3, y4, y5⟩, -⟩ := box6F (ob.block Br.out); clear ob))
     go_roundw
     case rel => exact ⟨k + 1, hlt, by go_num, hid ⟨HSt.out rfl, Oc.out⟩⟩
     case measure => simp [intOf]; omega
    ·obtain rfl := HK.out rfl
     go_wp2_with (first | (go_at_call 12; refine (HWk.out _ Ob.out).mono ?_; rintro e wc ⟨rfl, oc⟩; have Oc := hid (Ob.out.trans oc); clear oc) | (go_at_call 34; refine (HRk.out _ Ur.out).mono ?_; rintro e wb ⟨rfl, ob⟩; have Ob := hid (Ur.out.trans ob); clear y0 y1 y2 y3 y4 y5; obtain ⟨⟨y0, y1, y2, y3, y4, y5⟩, -⟩ := box6F (ob.block Br.out); clear ob))
     go_ret
     exact ⟨rfl, Oc.out⟩
   ·obtain rfl := HK.out rfl
    go_wp2_with (go_at_call 34; refine (HRk.out _ Ur.out).mono ?_; rintro e wb ⟨rfl, ob⟩; have Ob := hid (Ur.out.trans ob); clear ob)
    go_ret
    exact ⟨rfl, Ob.out⟩
  ·obtain rfl : k = an3 := by omega
   obtain rfl := HLast.out HI.out.1
   have Ar := hid (HI.out.2.block A0.out)
   clear hc HFr HKey HLast HRd HWr HRU HWU HRB
   obtain ⟨⟨x0, x1, x2, x3, x4, x5⟩, -⟩ := box6F Ar.out
   obtain ⟨⟨y0, y1, y2, y3, y4, y5⟩, -⟩ := box6F Br.out
   go_wp2_with (go_at_call 13; refine (HMt.out _ Ur.out).mono ?_; rintro e wb ⟨rfl, ob⟩; have Ob := hid (Ur.out.trans ob); clear ob)
   go_ret
   exact ⟨rfl, Ob.out⟩
end Go.Proofs.YtfpadkgienjjpaaGreat
