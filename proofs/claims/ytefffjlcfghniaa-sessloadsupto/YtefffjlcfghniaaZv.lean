/- The example that the laws of layer 13 begin with; no condition. -/
import Derived.Test.YtefffjlcfghniaaZu
namespace Go.Proofs.Ytefffjlcfghniaa
open Go.RowKit Go.Lib
set_option linter.unusedVariables false
set_option linter.unusedSimpArgs false
set_option maxRecDepth 20000
theorem n64 {k : Int} (h : 0 ≤ k ∧ k ≤ 1099511627776) : N64 k := ⟨by omega, by omega⟩
def exA : It := ⟨3, 0, 5⟩
def exB : It := ⟨11, 110, 0⟩
def exL0 : Int → List It := fun _ => []
def exL1 : Int → List It := putL exL0 1 (nextS exA (exL0 1))
def exL2 : Int → List It := putL exL1 1 (nextS exB (exL1 1))
theorem ex_p1 : putC [] exL0 1 exA = 0 := by decide
theorem ex_k1 : putK [] 1 = [1] := by decide
theorem ex_p2 : putC [1] exL1 1 exB = 0 := by decide
theorem ex_k2 : putK [1] 1 = [1] := by decide
theorem ex_l1 : lookC [1] exL1 1 3 = 5 ∧ lookV exL1 1 3 = (0, 5) ∧ lookC [1] exL1 1 2 = 0 ∧ lookV exL1 1 2 = (0, 0) := by decide
theorem ex_l2 : lookC [1] exL2 1 3 = 130 ∧ lookV exL2 1 3 = (0, 0) ∧ lookC [1] exL2 1 4 = 0 ∧ lookV exL2 1 4 = (0, 0) ∧ hiL (exL2 1) = 11 ∧ (exL2 1).length = 1 := by decide
set_option maxHeartbeats 4000000 in
set_option maxRecDepth 20000 in
theorem alive_any (w : World) : Calls Try.prog 7 #[] w fun e w' => e = .returned (.bool true) ∧ Old w w' := by
  have HL1 := hid ex_l1
  have HL2 := hid ex_l2
  go_enter Try.func7, Try.ntmps7
  go_upto_region 3 with (first | (go_at_call 6; refine (newT_any _).mono ?_; rintro e w1 ⟨tb, mb, rfl, t1⟩; have T1 := hid t1; clear t1))
  generalize hw : w1.alloc (.cells #[.int .i64 0, .int .i64 5] 28) = w2 at *
  obtain ⟨hv, _, hu⟩ := verd_new w1 0 5 w2 hw _ rfl
  obtain ⟨vb, hbx⟩ : ∃ m, w1.heap.size = m := ⟨_, rfl⟩
  have A2 := hid (show Apart w2 vb _ from by have q := Apart.new T1.out (.cells #[.int .i64 0, .int .i64 5] 28); rw [hw, hbx] at q; exact q)
  rw [hbx] at hv ⊢
  have T2 := hid (T1.out.up hu)
  have U_w2 := hid hu
  have C_vb := hid hv
  clear hw hv hu hbx T1
  have HP1 := hid (putT_any w tb _ [] exL0 1 exA w2 T2.out (n64 (by decide)) (n64 (by decide)))
  rw [ex_p1, ex_k1] at HP1
  obtain ⟨x0, x1⟩ := C_vb.out
  go_upto_region 5 with (go_at_call 8; refine HP1.out.mono ?_; rintro e w3 ⟨rfl, h3⟩; obtain ⟨_, Bs3, t3, c3, a3⟩ := h3.resolve_left (fun q => q.1 rfl); have T3 := hid t3; have A3 := hid (a3 vb A2.out); have C3 := hid (show w3.cell? ⟨vb, 0, none⟩ = some (.int .i64 0) ∧ w3.cell? ⟨vb, 1, none⟩ = some (.int .i64 5) from ⟨c3.cell C_vb.out.1 A2.out.2, c3.cell C_vb.out.2 A2.out.2⟩); clear h3 t3 c3 a3)
  clear HP1 T2 A2 C_vb x0 x1 U_w2
  have HK := hid (look_any tb _ [1] exL1 1 3 w3 T3.out.tab T3.out.ok (n64 (by decide)) (n64 (by decide)))
  rw [HL1.out.1, HL1.out.2.1] at HK
  go_upto_region 6 with (go_at_call 11; refine HK.out.mono ?_; rintro e w4 ⟨rfl, uw4⟩; have T4 := hid (T3.out.up uw4); have V_w4 := hid uw4; clear uw4)
  clear HK
  have A4 := hid (A3.out.up V_w4.out)
  have C4 := hid (show w4.cell? ⟨vb, 0, none⟩ = some (.int .i64 0) ∧ w4.cell? ⟨vb, 1, none⟩ = some (.int .i64 5) from ⟨V_w4.out.keep C3.out.1, V_w4.out.keep C3.out.2⟩)
  clear T3 A3 C3 V_w4
  generalize hw : w4.alloc (.cells #[.int .i64 0, .int .i64 5] 28) = w5 at *
  obtain ⟨hv, _, hu⟩ := verd_new w4 0 5 w5 hw _ rfl
  obtain ⟨ab, hbx⟩ : ∃ m, w4.heap.size = m := ⟨_, rfl⟩
  have B5 := hid (show Apart w5 ab _ from by have q := Apart.new T4.out (.cells #[.int .i64 0, .int .i64 5] 28); rw [hw, hbx] at q; exact q)
  rw [hbx] at hv ⊢
  have T5 := hid (T4.out.up hu)
  have U_w5 := hid hu
  have C_ab := hid hv
  clear hw hv hu hbx T4
  have A5 := hid (A4.out.up U_w5.out)
  have C5 := hid (show w5.cell? ⟨vb, 0, none⟩ = some (.int .i64 0) ∧ w5.cell? ⟨vb, 1, none⟩ = some (.int .i64 5) from ⟨U_w5.out.keep C4.out.1, U_w5.out.keep C4.out.2⟩)
  clear A4 C4 U_w5
  have HK := hid (look_any tb _ [1] exL1 1 2 w5 T5.out.tab T5.out.ok (n64 (by decide)) (n64 (by decide)))
  rw [HL1.out.2.2.1, HL1.out.2.2.2] at HK
  go_upto_region 7 with (go_at_call 11; refine HK.out.mono ?_; rintro e w6 ⟨rfl, uw6⟩; have T6 := hid (T5.out.up uw6); have V_w6 := hid uw6; clear uw6)
  clear HK
  generalize hw : w6.alloc (.cells #[.int .i64 0, .int .i64 0] 28) = w7 at *
  obtain ⟨hv, _, hu⟩ := verd_new w6 0 0 w7 hw _ rfl
  obtain ⟨bb, hbx⟩ : ∃ m, w6.heap.size = m := ⟨_, rfl⟩
  have D7 := hid (show Apart w7 bb _ from by have q := Apart.new T6.out (.cells #[.int .i64 0, .int .i64 0] 28); rw [hw, hbx] at q; exact q)
  rw [hbx] at hv ⊢
  have T7 := hid (T6.out.up hu)
  have U_w7 := hid hu
  have C_bb := hid hv
  clear hw hv hu hbx T6
  have V7 := hid (V_w6.out.trans U_w7.out)
  have HP2 := hid (putT_any w tb _ [1] exL1 1 exB w7 T7.out (n64 (by decide)) (n64 (by decide)))
  rw [ex_p2, ex_k2] at HP2
  have A7 := hid (A5.out.up V7.out)
  have B7 := hid (B5.out.up V7.out)
  have C7 := hid (show (w7.cell? ⟨vb, 0, none⟩ = some (.int .i64 0) ∧ w7.cell? ⟨vb, 1, none⟩ = some (.int .i64 5)) ∧ (w7.cell? ⟨ab, 0, none⟩ = some (.int .i64 0) ∧ w7.cell? ⟨ab, 1, none⟩ = some (.int .i64 5)) from ⟨⟨V7.out.keep C5.out.1, V7.out.keep C5.out.2⟩, V7.out.keep C_ab.out.1, V7.out.keep C_ab.out.2⟩)
  clear A5 B5 C5 C_ab V7 V_w6 U_w7 D7 C_bb
  go_upto_region 9 with (go_at_call 8; refine HP2.out.mono ?_; rintro e w8 ⟨rfl, h8⟩; obtain ⟨_, Bs8, t8, c8, a8⟩ := h8.resolve_left (fun q => q.1 rfl); have T8 := hid t8; have C8 := hid (show (w8.cell? ⟨vb, 0, none⟩ = some (.int .i64 0) ∧ w8.cell? ⟨vb, 1, none⟩ = some (.int .i64 5)) ∧ (w8.cell? ⟨ab, 0, none⟩ = some (.int .i64 0) ∧ w8.cell? ⟨ab, 1, none⟩ = some (.int .i64 5)) from ⟨⟨c8.cell C7.out.1.1 A7.out.2, c8.cell C7.out.1.2 A7.out.2⟩, c8.cell C7.out.2.1 B7.out.2, c8.cell C7.out.2.2 B7.out.2⟩); clear h8 t8 c8 a8)
  clear HP2 T7 A7 B7 C7
  have HK := hid (look_any tb _ [1] exL2 1 3 w8 T8.out.tab T8.out.ok (n64 (by decide)) (n64 (by decide)))
  rw [HL2.out.1, HL2.out.2.1] at HK
  go_upto_region 10 with (go_at_call 11; refine HK.out.mono ?_; rintro e w9 ⟨rfl, uw9⟩; have T9 := hid (T8.out.up uw9); have V_w9 := hid uw9; clear uw9)
  clear HK
  generalize hw : w9.alloc (.cells #[.int .i64 0, .int .i64 0] 28) = wa at *
  obtain ⟨hv, _, hu⟩ := verd_new w9 0 0 wa hw _ rfl
  obtain ⟨gb, hbx⟩ : ∃ m, w9.heap.size = m := ⟨_, rfl⟩
  have Da := hid (show Apart wa gb _ from by have q := Apart.new T9.out (.cells #[.int .i64 0, .int .i64 0] 28); rw [hw, hbx] at q; exact q)
  rw [hbx] at hv ⊢
  have Ta := hid (T9.out.up hu)
  have U_wa := hid hu
  have C_gb := hid hv
  clear hw hv hu hbx T9
  have Va := hid (V_w9.out.trans U_wa.out)
  clear U_wa V_w9 Da C_gb T8
  have HK := hid (look_any tb _ [1] exL2 1 4 wa Ta.out.tab Ta.out.ok (n64 (by decide)) (n64 (by decide)))
  rw [HL2.out.2.2.1, HL2.out.2.2.2.1] at HK
  go_upto_region 11 with (go_at_call 11; refine HK.out.mono ?_; rintro e wb ⟨rfl, uwb⟩; have Tb := hid (Ta.out.up uwb); have V_wb := hid uwb; clear uwb)
  clear HK
  generalize hw : wb.alloc (.cells #[.int .i64 0, .int .i64 0] 28) = wc at *
  obtain ⟨hv, _, hu⟩ := verd_new wb 0 0 wc hw _ rfl
  obtain ⟨hb, hbx⟩ : ∃ m, wb.heap.size = m := ⟨_, rfl⟩
  have Dc := hid (show Apart wc hb _ from by have q := Apart.new Tb.out (.cells #[.int .i64 0, .int .i64 0] 28); rw [hw, hbx] at q; exact q)
  rw [hbx] at hv ⊢
  have Tc := hid (Tb.out.up hu)
  have U_wc := hid hu
  have C_hb := hid hv
  clear hw hv hu hbx Tb
  have Vc := hid (Va.out.trans (V_wb.out.trans U_wc.out))
  clear U_wc V_wb Dc C_hb Ta Va
  obtain ⟨x0, x1⟩ : wc.cell? ⟨vb, 0, none⟩ = some (.int .i64 0) ∧ wc.cell? ⟨vb, 1, none⟩ = some (.int .i64 5) := ⟨Vc.out.keep C8.out.1.1, Vc.out.keep C8.out.1.2⟩
  obtain ⟨y0, y1⟩ : wc.cell? ⟨ab, 0, none⟩ = some (.int .i64 0) ∧ wc.cell? ⟨ab, 1, none⟩ = some (.int .i64 5) := ⟨Vc.out.keep C8.out.2.1, Vc.out.keep C8.out.2.2⟩
  clear C8 Vc HL1
  have HHi := hid (high_any tb _ [1] exL2 1 wc Tc.out.tab Tc.out.ok (n64 (by decide)))
  rw [HL2.out.2.2.2.2.1] at HHi
  have HKe := hid (fun (W : World) (u : Old wc W) => kept_any tb _ [1] exL2 1 W (Tc.out.tab.old u) Tc.out.ok (n64 (by decide)))
  have HSe := hid (fun (W : World) (u : Old wc W) => sessions_any tb _ [1] exL2 W (Tc.out.tab.old u) Tc.out.ok)
  have HLen := hid HL2.out.2.2.2.2.2
  generalize exL2 1 = R at *
  clear HL2
  go_wp2_with (first | (go_at_call 17; refine HHi.out.mono ?_; rintro e wd ⟨rfl, ud⟩; have Ud := hid ud; clear ud) | (go_at_call 21; refine (HKe.out _ Ud.out).mono ?_; rintro e we ⟨ve, rfl, oe, ue⟩; obtain ⟨pe, ce, ee⟩ := oe.len; rw [HLen.out] at ee; subst ee; have Ue := hid (Ud.out.trans ue); clear oe ue) | (go_at_call 23; refine (HSe.out _ Ue.out).mono ?_; rintro e wf ⟨vf, S, rfl, pf, _, of, uf⟩; have eS := List.perm_singleton.1 pf; subst eS; have NF := hid (of.nrow (by simp)); have Uf := hid (Ue.out.trans uf); clear of uf pf) | (go_at_call 22; refine (sameNums_eq _ _ [1] _ (NF.out.old ((Old.refl _).alloc _)) (NRow.one wf 1 _ rfl _ rfl).1).mono ?_; rintro e wg ⟨rfl, ug⟩; have Ug := hid (((Uf.out).alloc _).trans ug); clear ug))
  go_ret
  exact ⟨rfl, Tc.out.old.trans Ug.out⟩
end Go.Proofs.Ytefffjlcfghniaa
