/- The document's Heard of layer 21; conditions: its client lies in memory. -/
import Derived.Test.YthjfkmjeppdcnaaGreatKl22
namespace Go.Proofs.YthjfkmjeppdcnaaGreat
open Go.RowKit Go.Lib
set_option linter.unusedVariables false
set_option linter.unusedSimpArgs false
set_option maxRecDepth 20000
attribute [local go_sem] run_bits run_frombits run_store_float eqF
def flD (q : Int) (D : List Dt) : List Dt := D.filter fun d => decide (d.q ≠ q)
theorem flD_yes (q : Int) (D : List Dt) (k : Nat) (h : k < D.length) (e : D[k].q = q) : flD q (D.take (k + 1)) = flD q (D.take k) := by
 unfold flD; rw [take_oneD D k h, List.filter_append]; simp [e]
theorem flD_no (q : Int) (D : List Dt) (k : Nat) (h : k < D.length) (e : D[k].q ≠ q) : flD q (D.take (k + 1)) = flD q (D.take k) ++ [D[k]] := by
 unfold flD; rw [take_oneD D k h, List.filter_append]; simp [e]
theorem flD_len (q : Int) (D : List Dt) : (flD q D).length ≤ D.length := List.length_filter_le _ _
theorem flD_all (q : Int) (D : List Dt) : (flD q D).length = D.length ↔ ∀ d ∈ D, d.q ≠ q := by
 unfold flD
 rw [List.length_filter_eq_length_iff]
 simp
theorem take_oneQ (L : List (Int × Int × Int)) (j : Nat) (h : j < L.length) : L.take (j + 1) = L.take j ++ [L[j]] := by
 rw [List.take_succ_eq_append_getElem h]
theorem ownQ_low {base b2 : Nat} {w : World} {v : Value} {L : List (Int × Int × Int)} (h : OwnQ base w v L) (hb : b2 ≤ base) : OwnQ b2 w v L := by
 refine ⟨h.1, ?_⟩
 rcases h.2 with e | ⟨g, cap, cur, e, hb', r⟩
 ·exact .inl e
 ·exact .inr ⟨g, cap, cur, e, Nat.le_trans hb hb', r⟩
def nxR (M : List Int) (t : Int) : Nat → Int
 | 0 => M.getD 0 0
 | i + 1 => if M.getD i 0 = t then M.getD (i + 1) 0 else nxR M t i
def hasR (M : List Int) (x : Int) : Bool := Ci.hasK (fun i => M.getD i 0) x M.length
def tgR (M : List Int) (t e lead : Int) : Int := if e = 181 then t else if e = 180 ∧ hasR M lead = true then lead else nxR M t (M.length - 1)
set_option maxHeartbeats 8000000 in
theorem rHeard_any (ss la tg q vc vn e lead : Int) (base : Nat) (ma oa ra : Option Addr) (mn on rn mc oc rc : Nat) (D : List Dt) (R : List (Int × Int × Int)) (M : List Int) (w : World) (hM : Ci.NRowL w (.slice ma mn mc) mn (fun i => M.getD i 0)) (hD : OwnD base w (.slice oa on oc) D) (hR : OwnQ base w (.slice ra rn rc) R) (hn : on = D.length) (hrn : rn = R.length) (hmn : mn = M.length) (h8 : on ≤ 8) (h7 : 0 < mn ∧ mn ≤ 7) (hr : rn ≤ 1099511627776) :
    Calls Tryz.prog 17 #[.agg #[.int .i64 ss, .int .i64 la, .slice ma mn mc, .int .i64 tg, .slice oa on oc, .slice ra rn rc], .int .i64 q, .int .i64 vc, .int .i64 vn, .int .i64 e, .int .i64 lead] w fun x w' => ∃ t' ov rv, x = .returned (.agg #[.int .i64 ss, .int .i64 la, .slice ma mn mc, .int .i64 t', ov, rv]) ∧ Old w w' ∧
     (((∀ d ∈ D, d.q ≠ q) ∧ t' = tg ∧ ov = .slice oa on oc ∧ rv = .slice ra rn rc) ∨
      ((¬ ∀ d ∈ D, d.q ≠ q) ∧ e = 0 ∧ t' = tg ∧ OwnD w.heap.size w' ov (flD q D) ∧ OwnQ w.heap.size w' rv (R ++ [(q, vc, vn)])) ∨
      ((¬ ∀ d ∈ D, d.q ≠ q) ∧ e ≠ 0 ∧ t' = tgR M tg e lead ∧ ov = .slice oa on oc ∧ rv = .slice ra rn rc)) := by
 have HM := hid hM
 have HD := hid hD
 have HR := hid hR
 have HN := hid (show on = D.length ∧ rn = R.length ∧ mn = M.length ∧ on ≤ 8 ∧ 0 < mn ∧ mn ≤ 7 ∧ rn ≤ 1099511627776 from ⟨hn, hrn, hmn, h8, h7.1, h7.2, hr⟩)
 clear hM hD hR hn hrn hmn
 go_enter Tryz.func17, Tryz.ntmps17
 go_upto_region 2 with fail
 have F0 := hid (three_new w (.cells #[.int .i64 ss, .int .i64 la, .slice ma mn mc, .int .i64 tg, .slice oa on oc, .slice ra rn rc] 56) (.cells #[.int .i64 0, .int .i64 0, .slice none 0 0, .int .i64 0, .slice none 0 0, .slice none 0 0] 56) (.cells #[] 63))
 have E0 := hid (show OwnD (w.heap.size + 1 + 1) (((w.alloc (.cells #[.int .i64 ss, .int .i64 la, .slice ma mn mc, .int .i64 tg, .slice oa on oc, .slice ra rn rc] 56)).alloc (.cells #[.int .i64 0, .int .i64 0, .slice none 0 0, .int .i64 0, .slice none 0 0, .slice none 0 0] 56)).alloc (.cells #[] 63)) (.slice (some ⟨w.heap.size + 1 + 1, 0, none⟩) 0 0) [] ∧ Old ((w.alloc (.cells #[.int .i64 ss, .int .i64 la, .slice ma mn mc, .int .i64 tg, .slice oa on oc, .slice ra rn rc] 56)).alloc (.cells #[.int .i64 0, .int .i64 0, .slice none 0 0, .int .i64 0, .slice none 0 0, .slice none 0 0] 56)) (((w.alloc (.cells #[.int .i64 ss, .int .i64 la, .slice ma mn mc, .int .i64 tg, .slice oa on oc, .slice ra rn rc] 56)).alloc (.cells #[.int .i64 0, .int .i64 0, .slice none 0 0, .int .i64 0, .slice none 0 0, .slice none 0 0] 56)).alloc (.cells #[] 63)) ∧ ((w.alloc (.cells #[.int .i64 ss, .int .i64 la, .slice ma mn mc, .int .i64 tg, .slice oa on oc, .slice ra rn rc] 56)).alloc (.cells #[.int .i64 0, .int .i64 0, .slice none 0 0, .int .i64 0, .slice none 0 0, .slice none 0 0] 56)).heap[w.heap.size]? = some (.cells #[.int .i64 ss, .int .i64 la, .slice ma mn mc, .int .i64 tg, .slice oa on oc, .slice ra rn rc] 56 (0, 0)) ∧ ((w.alloc (.cells #[.int .i64 ss, .int .i64 la, .slice ma mn mc, .int .i64 tg, .slice oa on oc, .slice ra rn rc] 56)).alloc (.cells #[.int .i64 0, .int .i64 0, .slice none 0 0, .int .i64 0, .slice none 0 0, .slice none 0 0] 56)).heap[w.heap.size + 1]? = some (.cells #[.int .i64 0, .int .i64 0, .slice none 0 0, .int .i64 0, .slice none 0 0, .slice none 0 0] 56 (0, 0)) ∧ ((w.alloc (.cells #[.int .i64 ss, .int .i64 la, .slice ma mn mc, .int .i64 tg, .slice oa on oc, .slice ra rn rc] 56)).alloc (.cells #[.int .i64 0, .int .i64 0, .slice none 0 0, .int .i64 0, .slice none 0 0, .slice none 0 0] 56)).heap.size = w.heap.size + 1 + 1 ∧ Old w ((w.alloc (.cells #[.int .i64 ss, .int .i64 la, .slice ma mn mc, .int .i64 tg, .slice oa on oc, .slice ra rn rc] 56)).alloc (.cells #[.int .i64 0, .int .i64 0, .slice none 0 0, .int .i64 0, .slice none 0 0, .slice none 0 0] 56)) from ⟨OwnD.empty (by simp) (by simp), (Old.refl _).alloc _, ((Old.refl _).alloc _).block (alloc_at w _), by have := alloc_at (w.alloc (.cells #[.int .i64 ss, .int .i64 la, .slice ma mn mc, .int .i64 tg, .slice oa on oc, .slice ra rn rc] 56)) (.cells #[.int .i64 0, .int .i64 0, .slice none 0 0, .int .i64 0, .slice none 0 0, .slice none 0 0] 56); simpa using this, by simp, ((Old.refl w).alloc _).alloc _⟩)
 clear F0
 generalize ((w.alloc (.cells #[.int .i64 ss, .int .i64 la, .slice ma mn mc, .int .i64 tg, .slice oa on oc, .slice ra rn rc] 56)).alloc (.cells #[.int .i64 0, .int .i64 0, .slice none 0 0, .int .i64 0, .slice none 0 0, .slice none 0 0] 56)).alloc (.cells #[] 63) = w3 at *
 generalize (w.alloc (.cells #[.int .i64 ss, .int .i64 la, .slice ma mn mc, .int .i64 tg, .slice oa on oc, .slice ra rn rc] 56)).alloc (.cells #[.int .i64 0, .int .i64 0, .slice none 0 0, .int .i64 0, .slice none 0 0, .slice none 0 0] 56) = w2 at *
 obtain ⟨rb, hrb⟩ : ∃ rb, w.heap.size + 1 = rb := ⟨_, rfl⟩
 rw [hrb] at E0 ⊢
 obtain ⟨r8, hr8⟩ : ∃ r8, rb + 1 = r8 := ⟨_, rfl⟩
 rw [hr8] at E0 ⊢
 obtain ⟨cb, hcb⟩ : ∃ cb, w.heap.size = cb := ⟨_, rfl⟩
 rw [hcb] at E0 ⊢
 have HSz := hid (show w.heap.size = cb ∧ cb + 1 = rb ∧ rb + 1 = r8 ∧ w2.heap.size = r8 from ⟨hcb, by omega, hr8, by have := E0.out.2.2.2.2.1; omega⟩)
 have G2 := hid (show w2.heap[cb]? = some (.cells #[.int .i64 ss, .int .i64 la, .slice ma mn mc, .int .i64 tg, .slice oa on oc, .slice ra rn rc] 56 (0, 0)) ∧ w2.heap[rb]? = some (.cells #[.int .i64 0, .int .i64 0, .slice none 0 0, .int .i64 0, .slice none 0 0, .slice none 0 0] 56 (0, 0)) ∧ Old w w2 from ⟨E0.out.2.2.1, E0.out.2.2.2.1, E0.out.2.2.2.2.2⟩)
 have HE8 := hid (show OwnD r8 w3 (.slice (some ⟨r8, 0, none⟩) 0 0) (flD q (D.take 0)) ∧ Old w2 w3 from ⟨E0.out.1, E0.out.2.1⟩)
 clear hrb hr8 hcb E0
 go_wp2
 go_loopw [13, 14] (fun ov iv wx => ∃ k : Nat, k ≤ on ∧ iv = .int .i64 (k : Nat) ∧ Hid (OwnD r8 wx ov (flD q (D.take k)) ∧ Old w2 wx)) (fun _ i _ => on - (intOf i).toNat)
 case atStart => exact ⟨0, Nat.zero_le _, rfl, HE8⟩
 case round =>
  clear HE8
  obtain ⟨k, hk, rfl, HI⟩ := hrel
  obtain ⟨va, vc', hvv⟩ := HI.out.1.len
  obtain ⟨ln, hln⟩ : ∃ ln, (flD q (D.take k)).length = ln := ⟨_, rfl⟩
  rw [hln] at hvv
  subst hvv
  have HOD := hid HI.out.1
  have U8 := hid HI.out.2
  have HLn := hid (show (flD q (D.take k)).length = ln ∧ ln ≤ k from ⟨hln, by have := flD_len q (D.take k); rw [List.length_take] at this; omega⟩)
  clear HI hln
  by_cases hlt : k < on
  ·have hkD : k < D.length := by rw [← HN.out.1]; exact hlt
   obtain ⟨g9, cap9, e9, i0, i1⟩ := HD.out.at k hkD
   simp only [Value.slice.injEq] at e9
   have HTy := hid (flD_yes q D k hkD)
   have HTn := hid (flD_no q D k hkD)
   generalize D[k] = d at *
   obtain ⟨dq, da, dn, dc, dB⟩ := d
   dsimp only at i0 i1 HTy HTn
   have j0 := (G2.out.2.2.trans U8.out).keep i0
   have j1 := (G2.out.2.2.trans U8.out).keep i1
   have he9 : oa = some ⟨g9, 0, none⟩ := e9.1
   obtain ⟨⟨y0, y1, y2, y3, y4, y5⟩, -⟩ := box6 (U8.out.block G2.out.1)
   rw [he9] at y4
   have l1' : (0 : Int) ≤ (k : Int) := by omega
   have l2' : (k : Int) < (on : Int) := by omega
   clear i0 i1 e9 he9 hkD
   by_cases hq : dq = q
   ·have t : (dq == q) = true := by rw [beq_iff_eq]; exact hq
    have t2 : (dq != q) = false := by simp [bne, t]
    have HT := hid (HTy.out hq)
    clear HTy HTn hq
    go_wp2
    go_roundw
    (case rel => exact ⟨k + 1, by omega, by go_num, hid ⟨by rw [HT.out]; exact HOD.out, U8.out⟩⟩)
    (case measure => simp [intOf]; omega)
   ·have t : (dq == q) = false := by rw [beq_eq_false_iff_ne]; exact hq
    have t2 : (dq != q) = true := by simp [bne, t]
    have HT := hid (HTn.out hq)
    clear HTy HTn hq
    have O9 := hid (show OwnD r8 (wr.alloc (.cells #[.int .i64 dq, .slice da dn dc] 63)) (.slice va ln vc') (flD q (D.take k)) from own_old HOD.out ((Old.refl wr).alloc _))
    have U9 := hid (U8.out.trans ((Old.refl wr).alloc (.cells #[.int .i64 dq, .slice da dn dc] 63)))
    have hal := alloc_at wr (.cells #[.int .i64 dq, .slice da dn dc] 63)
    go_wp2_with (at_builtin; refine wp_appD rfl _ _ rfl r8 (.slice va ln vc') (flD q (D.take k)) wr.heap.size ⟨dq, da, dn, dc, dB⟩ rfl rfl O9.out hal (by rw [HLn.out.1]; have := HLn.out.2; have := HN.out; omega) (by have := HSz.out; have := U9.out.size; omega) ?_; intro v' wA h1 h2 h3; have OA := hid h1; have UA := hid (Old.below U9.out (Below.grown (Below.refl _ _) h2 U9.out.size (fun g e => by have := (World.ownsRow.lt O9.out g e).1; have := HSz.out; omega))); clear h1 h2 h3)
    go_roundw
    (case rel => exact ⟨k + 1, by omega, by go_num, hid ⟨by rw [HT.out]; exact OA.out, UA.out⟩⟩)
    (case measure => simp [intOf]; omega)
  ·have hko : on = k := by omega
   subst hko
   have R9 := hid (show OwnD r8 wr (.slice va ln vc') (flD q D) ∧ (flD q D).length = ln from by have := HOD.out; have h2 := HLn.out.1; rw [List.take_of_length_le (by rw [← HN.out.1]; exact Nat.le_refl _)] at this h2; exact ⟨this, h2⟩)
   have HA := hid (flD_all q D)
   rw [R9.out.2, ← HN.out.1] at HA
   have Gb := hid (U8.out.block G2.out.1)
   have Rb := hid (U8.out.block G2.out.2.1)
   have Uw := hid (G2.out.2.2.trans U8.out)
   clear hlt hk HOD
   by_cases hall : on = ln
   ·subst hall
    have HNo := hid (HA.out.1 rfl)
    clear HA
    obtain ⟨⟨y0, y1, y2, y3, y4, y5⟩, -⟩ := box6 Gb.out
    go_upto_region 8 with fail
    clear y0 y1 y2 y3 y4 y5
    obtain ⟨⟨y0, y1, y2, y3, y4, y5⟩, -⟩ := box6 Gb.out
    obtain ⟨⟨z0, z1, z2, z3, z4, z5⟩, zf⟩ := box6 Rb.out
    have f0 := zf 0; have f1 := zf 1; have f2 := zf 2; have f3 := zf 3; have f4 := zf 4; have f5 := zf 5
    go_wp2
    have C8 := hid (show Chg [rb] wr ((((((wr.setCell ⟨rb, 0, none⟩ (.int .i64 ss)).setCell ⟨rb, 1, none⟩ (.int .i64 la)).setCell ⟨rb, 2, none⟩ (.slice ma mn mc)).setCell ⟨rb, 3, none⟩ (.int .i64 tg)).setCell ⟨rb, 4, none⟩ (.slice oa on oc)).setCell ⟨rb, 5, none⟩ (.slice ra rn rc)) from ((((((Chg.set wr ⟨rb, 0, none⟩ _ (by simp)).trans (Chg.set _ ⟨rb, 1, none⟩ _ (by simp))).trans (Chg.set _ ⟨rb, 2, none⟩ _ (by simp))).trans (Chg.set _ ⟨rb, 3, none⟩ _ (by simp))).trans (Chg.set _ ⟨rb, 4, none⟩ _ (by simp))).trans (Chg.set _ ⟨rb, 5, none⟩ _ (by simp))))
    have R8 := hid (show ((((((wr.setCell ⟨rb, 0, none⟩ (.int .i64 ss)).setCell ⟨rb, 1, none⟩ (.int .i64 la)).setCell ⟨rb, 2, none⟩ (.slice ma mn mc)).setCell ⟨rb, 3, none⟩ (.int .i64 tg)).setCell ⟨rb, 4, none⟩ (.slice oa on oc)).setCell ⟨rb, 5, none⟩ (.slice ra rn rc)).heap[rb]? = some (.cells #[.int .i64 ss, .int .i64 la, .slice ma mn mc, .int .i64 tg, .slice oa on oc, .slice ra rn rc] 56 (0, 0)) from (Go.Joins.block_setCell (Go.Joins.block_setCell (Go.Joins.block_setCell (Go.Joins.block_setCell (Go.Joins.block_setCell (Go.Joins.block_setCell Rb.out (.int .i64 ss) (i := 0)) (.int .i64 la) (i := 1)) (.slice ma mn mc) (i := 2)) (.int .i64 tg) (i := 3)) (.slice oa on oc) (i := 4)) (.slice ra rn rc) (i := 5)))
    have O8 := hid (Uw.out.below (C8.out.below w.heap.size (fun k q => by simp at q; have := HSz.out; omega) Uw.out.size))
    clear y0 y1 y2 y3 y4 y5 z0 z1 z2 z3 z4 z5 zf f0 f1 f2 f3 f4 f5
    generalize ((((((wr.setCell ⟨rb, 0, none⟩ (.int .i64 ss)).setCell ⟨rb, 1, none⟩ (.int .i64 la)).setCell ⟨rb, 2, none⟩ (.slice ma mn mc)).setCell ⟨rb, 3, none⟩ (.int .i64 tg)).setCell ⟨rb, 4, none⟩ (.slice oa on oc)).setCell ⟨rb, 5, none⟩ (.slice ra rn rc)) = w8 at *
    obtain ⟨⟨y0, y1, y2, y3, y4, y5⟩, -⟩ := box6 R8.out
    refine bodyPost_ret (v := .agg #[.int .i64 ss, .int .i64 la, .slice ma mn mc, .int .i64 tg, .slice oa on oc, .slice ra rn rc]) (by simp [results, Tryz.results17, go_sem, y0, y1, y2, y3, y4, y5]) rfl ?_
    exact ⟨tg, _, _, rfl, O8.out, .inl ⟨HNo.out, rfl, rfl, rfl⟩⟩
   ·have HNo := hid (show ¬ ∀ d ∈ D, d.q ≠ q from fun h => hall (HA.out.2 h).symm)
    clear HA
    have hall2 : ¬ ((ln : Int) = (on : Int)) := by omega
    have hall3 : ((ln : Int) == (on : Int)) = false := by rw [beq_eq_false_iff_ne]; omega
    obtain ⟨⟨y0, y1, y2, y3, y4, y5⟩, yf⟩ := box6 Gb.out
    by_cases h0 : e = 0
    ·have HZ := hid h0
     have b0 : (e == 0) = true := by rw [h0]; rfl
     clear h0
     have f4 := yf 4
     go_upto_region 11 with fail
     have C10 := hid (show Chg [cb] wr (wr.setCell ⟨cb, 4, none⟩ (.slice va ln vc')) from Chg.set wr ⟨cb, 4, none⟩ _ (by simp))
     have G10 := hid (show (wr.setCell ⟨cb, 4, none⟩ (.slice va ln vc')).heap[cb]? = some (.cells #[.int .i64 ss, .int .i64 la, .slice ma mn mc, .int .i64 tg, .slice va ln vc', .slice ra rn rc] 56 (0, 0)) from Go.Joins.block_setCell Gb.out (.slice va ln vc') (i := 4))
     have R10 := hid (C10.out.heapAt Rb.out (by simp; have := HSz.out; omega))
     have V10 := hid (own_chg R9.out.1 C10.out (fun z e q => by simp at q; have := (World.ownsRow.lt R9.out.1 z e).1; have := HSz.out; omega))
     have O10 := hid (Uw.out.below (C10.out.below w.heap.size (fun z q => by simp at q; have := HSz.out; omega) Uw.out.size))
     have HRn := hid (show r8 ≤ wr.heap.size from by have := HSz.out.2.2.2; have := U8.out.size; omega)
     have S10 := hid (show wr.heap.size ≤ (wr.setCell ⟨cb, 4, none⟩ (.slice va ln vc')).heap.size from C10.out.size)
     clear y0 y1 y2 y3 y4 y5 yf f4 C10 Gb Rb Uw R9 U8 HD hall hall2 hall3 HLn
     generalize wr.setCell ⟨cb, 4, none⟩ (.slice va ln vc') = w10 at *
     go_upto_region 12 with fail
     have HE11 := hid (show OwnQ w10.heap.size (w10.alloc (.cells #[] 65)) (.slice (some ⟨w10.heap.size, 0, none⟩) 0 0) (R.take 0) ∧ Old w10 (w10.alloc (.cells #[] 65)) from ⟨OwnQ.empty (Nat.le_refl _) rfl, (Old.refl w10).alloc _⟩)
     generalize w10.alloc (.cells #[] 65) = w11 at *
     obtain ⟨qb, hqb⟩ : ∃ qb, w10.heap.size = qb := ⟨_, rfl⟩
     have HQb := hid hqb
     rw [hqb] at HE11 ⊢
     clear hqb
     go_wp2
     go_loopw [15, 16] (fun ov iv wx => ∃ k : Nat, k ≤ rn ∧ iv = .int .i64 (k : Nat) ∧ Hid (OwnQ qb wx ov (R.take k) ∧ Old w10 wx)) (fun _ i _ => rn - (intOf i).toNat)
     case atStart => exact ⟨0, Nat.zero_le _, rfl, HE11⟩
     case round =>
      clear HE11
      obtain ⟨k, hk, rfl, HI⟩ := hrel
      obtain ⟨pa, pc, hvv⟩ := HI.out.1.len
      have hlk : (R.take k).length = k := by rw [List.length_take]; have := HN.out; omega
      rw [hlk] at hvv
      subst hvv
      have HOQ := hid HI.out.1
      have UQ := hid HI.out.2
      clear HI hlk
      rename World => wq
      by_cases hlt : k < rn
      ·have hkR : k < R.length := by rw [← HN.out.2.1]; exact hlt
       obtain ⟨g9, cap9, e9, i0, i1, i2⟩ := HR.out.at k hkR
       simp only [Value.slice.injEq] at e9
       have HTk := hid (take_oneQ R k hkR)
       generalize R[k] = d at *
       obtain ⟨d1, d2, d3⟩ := d
       dsimp only at i0 i1 i2
       have j0 := (O10.out.trans UQ.out).keep i0
       have j1 := (O10.out.trans UQ.out).keep i1
       have j2 := (O10.out.trans UQ.out).keep i2
       have he9 : ra = some ⟨g9, 0, none⟩ := e9.1
       obtain ⟨⟨y0, y1, y2, y3, y4, y5⟩, -⟩ := box6 (UQ.out.block G10.out)
       rw [he9] at y5
       have l1' : (0 : Int) ≤ (k : Int) := by omega
       have l2' : (k : Int) < (rn : Int) := by omega
       have O9 := hid (show OwnQ qb (wq.alloc (.cells #[.int .i64 d1, .int .i64 d3, .int .i64 d2] 65)) (.slice pa k pc) (R.take k) from own_old HOQ.out ((Old.refl wq).alloc _))
       have U9 := hid (UQ.out.trans ((Old.refl wq).alloc (.cells #[.int .i64 d1, .int .i64 d3, .int .i64 d2] 65)))
       have hal := alloc_at wq (.cells #[.int .i64 d1, .int .i64 d3, .int .i64 d2] 65)
       clear i0 i1 i2 e9 he9 hkR
       go_wp2_with (at_builtin; refine wp_appQ rfl _ _ rfl qb (.slice pa k pc) (R.take k) wq.heap.size (d1, d2, d3) rfl rfl O9.out hal (by rw [List.length_take]; omega) (by rw [← HQb.out]; exact U9.out.size) ?_; intro v' wA h1 h2 h3; have OA := hid h1; have UA := hid (Old.below U9.out (Below.grown (Below.refl _ _) h2 U9.out.size (fun g e => by rw [HQb.out]; exact (World.ownsRow.lt O9.out g e).1))); clear h1 h2 h3)
       go_roundw
       (case rel => exact ⟨k + 1, by omega, by go_num, hid ⟨by rw [HTk.out]; exact OA.out, UA.out⟩⟩)
       (case measure => simp [intOf]; omega)
      ·have hko : rn = k := by omega
       subst hko
       have RQ := hid (show OwnQ qb wq (.slice pa rn pc) R from by have := HOQ.out; rw [List.take_of_length_le (by rw [← HN.out.2.1]; exact Nat.le_refl _)] at this; exact this)
       clear hlt hk HOQ
       have O9 := hid (show OwnQ qb (wq.alloc (.cells #[.int .i64 q, .int .i64 vn, .int .i64 vc] 65)) (.slice pa rn pc) R from own_old RQ.out ((Old.refl wq).alloc _))
       have U9 := hid (UQ.out.trans ((Old.refl wq).alloc (.cells #[.int .i64 q, .int .i64 vn, .int .i64 vc] 65)))
       have hal := alloc_at wq (.cells #[.int .i64 q, .int .i64 vn, .int .i64 vc] 65)
       obtain ⟨⟨y0, y1, y2, y3, y4, y5⟩, yf⟩ := box6 (UQ.out.block G10.out)
       go_upto_region 17 with (at_builtin; refine wp_appQ rfl _ _ rfl qb (.slice pa rn pc) R wq.heap.size (q, vc, vn) rfl rfl O9.out hal (by have := HN.out; omega) (by rw [← HQb.out]; exact U9.out.size) ?_; intro v' wA h1 h2 h3; obtain ⟨ta, tc, hv⟩ := OwnQ.len h1; obtain ⟨tn, htn⟩ : ∃ tn, (R ++ [(q, vc, vn)]).length = tn := ⟨_, rfl⟩; rw [htn] at hv; subst hv; have OA := hid h1; have UA := hid (Old.below U9.out (Below.grown (Below.refl _ _) h2 U9.out.size (fun g e => by rw [HQb.out]; exact (World.ownsRow.lt O9.out g e).1))); clear h1 h2 h3 htn y0 y1 y2 y3 y4 y5 yf; obtain ⟨⟨y0, y1, y2, y3, y4, y5⟩, yf⟩ := box6 (UA.out.block G10.out); have f5 := yf 5)
       have C16 := hid (show Chg [cb] wA (wA.setCell ⟨cb, 5, none⟩ (.slice ta tn tc)) from Chg.set wA ⟨cb, 5, none⟩ _ (by simp))
       have G16 := hid (show (wA.setCell ⟨cb, 5, none⟩ (.slice ta tn tc)).heap[cb]? = some (.cells #[.int .i64 ss, .int .i64 la, .slice ma mn mc, .int .i64 tg, .slice va ln vc', .slice ta tn tc] 56 (0, 0)) from Go.Joins.block_setCell (UA.out.block G10.out) (.slice ta tn tc) (i := 5))
       have R16 := hid (C16.out.heapAt (UA.out.block R10.out) (by simp; have := HSz.out; omega))
       have V16 := hid (own_chg (own_old V10.out UA.out) C16.out (fun z e q => by simp at q; have := (World.ownsRow.lt V10.out z e).1; have := HSz.out; omega))
       have Q16 := hid (own_chg OA.out C16.out (fun z e q => by simp at q; have := (World.ownsRow.lt OA.out z e).1; have := HSz.out; have := HRn.out; have := S10.out; have := HQb.out; omega))
       have O16 := hid ((O10.out.trans UA.out).below (C16.out.below w.heap.size (fun z q => by simp at q; have := HSz.out; omega) (O10.out.trans UA.out).size))
       clear y0 y1 y2 y3 y4 y5 yf f5 C16 hal
       generalize wA.setCell ⟨cb, 5, none⟩ (.slice ta tn tc) = w16 at *
       obtain ⟨⟨y0, y1, y2, y3, y4, y5⟩, -⟩ := box6 G16.out
       obtain ⟨⟨z0, z1, z2, z3, z4, z5⟩, zf⟩ := box6 R16.out
       have f0 := zf 0; have f1 := zf 1; have f2 := zf 2; have f3 := zf 3; have f4 := zf 4; have f5 := zf 5
       go_wp2
       have C8 := hid (show Chg [rb] w16 ((((((w16.setCell ⟨rb, 0, none⟩ (.int .i64 ss)).setCell ⟨rb, 1, none⟩ (.int .i64 la)).setCell ⟨rb, 2, none⟩ (.slice ma mn mc)).setCell ⟨rb, 3, none⟩ (.int .i64 tg)).setCell ⟨rb, 4, none⟩ (.slice va ln vc')).setCell ⟨rb, 5, none⟩ (.slice ta tn tc)) from ((((((Chg.set w16 ⟨rb, 0, none⟩ _ (by simp)).trans (Chg.set _ ⟨rb, 1, none⟩ _ (by simp))).trans (Chg.set _ ⟨rb, 2, none⟩ _ (by simp))).trans (Chg.set _ ⟨rb, 3, none⟩ _ (by simp))).trans (Chg.set _ ⟨rb, 4, none⟩ _ (by simp))).trans (Chg.set _ ⟨rb, 5, none⟩ _ (by simp))))
       have R8 := hid (show ((((((w16.setCell ⟨rb, 0, none⟩ (.int .i64 ss)).setCell ⟨rb, 1, none⟩ (.int .i64 la)).setCell ⟨rb, 2, none⟩ (.slice ma mn mc)).setCell ⟨rb, 3, none⟩ (.int .i64 tg)).setCell ⟨rb, 4, none⟩ (.slice va ln vc')).setCell ⟨rb, 5, none⟩ (.slice ta tn tc)).heap[rb]? = some (.cells #[.int .i64 ss, .int .i64 la, .slice ma mn mc, .int .i64 tg, .slice va ln vc', .slice ta tn tc] 56 (0, 0)) from (Go.Joins.block_setCell (Go.Joins.block_setCell (Go.Joins.block_setCell (Go.Joins.block_setCell (Go.Joins.block_setCell (Go.Joins.block_setCell R16.out (.int .i64 ss) (i := 0)) (.int .i64 la) (i := 1)) (.slice ma mn mc) (i := 2)) (.int .i64 tg) (i := 3)) (.slice va ln vc') (i := 4)) (.slice ta tn tc) (i := 5)))
       have O8 := hid (O16.out.below (C8.out.below w.heap.size (fun k q => by simp at q; have := HSz.out; omega) O16.out.size))
       clear y0 y1 y2 y3 y4 y5 z0 z1 z2 z3 z4 z5 zf f0 f1 f2 f3 f4 f5
       generalize ((((((w16.setCell ⟨rb, 0, none⟩ (.int .i64 ss)).setCell ⟨rb, 1, none⟩ (.int .i64 la)).setCell ⟨rb, 2, none⟩ (.slice ma mn mc)).setCell ⟨rb, 3, none⟩ (.int .i64 tg)).setCell ⟨rb, 4, none⟩ (.slice va ln vc')).setCell ⟨rb, 5, none⟩ (.slice ta tn tc)) = w8 at *
       obtain ⟨⟨y0, y1, y2, y3, y4, y5⟩, -⟩ := box6 R8.out
       refine bodyPost_ret (v := .agg #[.int .i64 ss, .int .i64 la, .slice ma mn mc, .int .i64 tg, .slice va ln vc', .slice ta tn tc]) (by simp [results, Tryz.results17, go_sem, y0, y1, y2, y3, y4, y5]) rfl ?_
       refine ⟨tg, _, _, rfl, O8.out, .inr (.inl ⟨HNo.out, HZ.out, rfl, ?_, ?_⟩)⟩
       ·exact own_low (own_chg V16.out C8.out (fun z e q => by simp at q; have := (World.ownsRow.lt V10.out z e).1; have := HSz.out; omega)) (by have := HSz.out; omega)
       ·exact ownQ_low (own_chg Q16.out C8.out (fun z e q => by simp at q; have := (World.ownsRow.lt OA.out z e).1; have := HSz.out; have := HRn.out; have := S10.out; have := HQb.out; omega)) (by have := HSz.out; have := HRn.out; have := S10.out; have := HQb.out; omega)
    ·have b0 : (e == 0) = false := by rw [beq_eq_false_iff_ne]; exact h0
     by_cases h81 : e = 181
     ·have HTg := hid (show tg = tgR M tg e lead from by simp [tgR, h81])
      have HZ := hid h0
      clear h0 b0
      subst h81
      go_upto_region 19 with fail
      clear y0 y1 y2 y3 y4 y5 yf
      obtain ⟨⟨y0, y1, y2, y3, y4, y5⟩, -⟩ := box6 Gb.out
      obtain ⟨⟨z0, z1, z2, z3, z4, z5⟩, zf⟩ := box6 Rb.out
      have f0 := zf 0; have f1 := zf 1; have f2 := zf 2; have f3 := zf 3; have f4 := zf 4; have f5 := zf 5
      go_wp2
      have C8 := hid (show Chg [rb] wr ((((((wr.setCell ⟨rb, 0, none⟩ (.int .i64 ss)).setCell ⟨rb, 1, none⟩ (.int .i64 la)).setCell ⟨rb, 2, none⟩ (.slice ma mn mc)).setCell ⟨rb, 3, none⟩ (.int .i64 tg)).setCell ⟨rb, 4, none⟩ (.slice oa on oc)).setCell ⟨rb, 5, none⟩ (.slice ra rn rc)) from ((((((Chg.set wr ⟨rb, 0, none⟩ _ (by simp)).trans (Chg.set _ ⟨rb, 1, none⟩ _ (by simp))).trans (Chg.set _ ⟨rb, 2, none⟩ _ (by simp))).trans (Chg.set _ ⟨rb, 3, none⟩ _ (by simp))).trans (Chg.set _ ⟨rb, 4, none⟩ _ (by simp))).trans (Chg.set _ ⟨rb, 5, none⟩ _ (by simp))))
      have R8 := hid (show ((((((wr.setCell ⟨rb, 0, none⟩ (.int .i64 ss)).setCell ⟨rb, 1, none⟩ (.int .i64 la)).setCell ⟨rb, 2, none⟩ (.slice ma mn mc)).setCell ⟨rb, 3, none⟩ (.int .i64 tg)).setCell ⟨rb, 4, none⟩ (.slice oa on oc)).setCell ⟨rb, 5, none⟩ (.slice ra rn rc)).heap[rb]? = some (.cells #[.int .i64 ss, .int .i64 la, .slice ma mn mc, .int .i64 tg, .slice oa on oc, .slice ra rn rc] 56 (0, 0)) from (Go.Joins.block_setCell (Go.Joins.block_setCell (Go.Joins.block_setCell (Go.Joins.block_setCell (Go.Joins.block_setCell (Go.Joins.block_setCell Rb.out (.int .i64 ss) (i := 0)) (.int .i64 la) (i := 1)) (.slice ma mn mc) (i := 2)) (.int .i64 tg) (i := 3)) (.slice oa on oc) (i := 4)) (.slice ra rn rc) (i := 5)))
      have O8 := hid (Uw.out.below (C8.out.below w.heap.size (fun k q => by simp at q; have := HSz.out; omega) Uw.out.size))
      clear y0 y1 y2 y3 y4 y5 z0 z1 z2 z3 z4 z5 zf f0 f1 f2 f3 f4 f5
      generalize ((((((wr.setCell ⟨rb, 0, none⟩ (.int .i64 ss)).setCell ⟨rb, 1, none⟩ (.int .i64 la)).setCell ⟨rb, 2, none⟩ (.slice ma mn mc)).setCell ⟨rb, 3, none⟩ (.int .i64 tg)).setCell ⟨rb, 4, none⟩ (.slice oa on oc)).setCell ⟨rb, 5, none⟩ (.slice ra rn rc)) = w8 at *
      obtain ⟨⟨y0, y1, y2, y3, y4, y5⟩, -⟩ := box6 R8.out
      refine bodyPost_ret (v := .agg #[.int .i64 ss, .int .i64 la, .slice ma mn mc, .int .i64 tg, .slice oa on oc, .slice ra rn rc]) (by simp [results, Tryz.results17, go_sem, y0, y1, y2, y3, y4, y5]) rfl ?_
      exact ⟨tg, _, _, rfl, O8.out, .inr (.inr ⟨HNo.out, HZ.out, HTg.out, rfl, rfl⟩)⟩
     ·have b1 : (e == 181) = false := by rw [beq_eq_false_iff_ne]; exact h81
      by_cases h18 : e = 180
      ·have HZ := hid h0
       have HH := hid (fun (W : World) (u : Old w W) => rHas_any (.slice ma mn mc) mn (fun i => M.getD i 0) lead W (HM.out.old u))
       have b2 : (e == 180) = true := by rw [beq_iff_eq]; exact h18
       subst h18
       cases hh : Ci.hasK (fun i => M.getD i 0) lead mn
       ·have HTg := hid (show nxR M tg (mn - 1) = tgR M tg 180 lead from by unfold tgR hasR; rw [← HN.out.2.2.1, hh]; simp)
        rw [hh] at HH
        clear hh
        go_upto_region 23 with (go_at_call 28; refine (HH.out _ Uw.out).mono ?_; rintro x w20 ⟨rfl, u20⟩; have U20 := hid u20; clear u20)
        have Gc := hid (U20.out.block Gb.out)
        have Rc := hid (U20.out.block Rb.out)
        have Uc := hid (Uw.out.trans U20.out)
        clear y0 y1 y2 y3 y4 y5 yf Gb Rb Uw U20 HH
        obtain ⟨hmm, mp, mcc, me, mh1, mh2, mhc⟩ := HM.out
        simp only [Value.slice.injEq] at me
        obtain ⟨me1, -, me2⟩ := me
        rw [← me1] at mhc
        have HC := hid mhc
        clear hmm mhc mh1 mh2 me1 me2
        obtain ⟨mg, mo, hma, c0⟩ := HC.out 0 HN.out.2.2.2.2.1
        have HMa := hid hma
        have c0w := Uc.out.keep c0
        obtain ⟨⟨y0, y1, y2, y3, y4, y5⟩, yf⟩ := box6 Gc.out
        rw [hma] at y2
        have c0v : w20.cell? ⟨mg, mo, none⟩ = some (.int .i64 (M.getD 0 0)) := by simpa using c0w
        have lm : (0 : Int) < (mn : Int) := by have := HN.out.2.2.2.2.1; omega
        have lm2 : 0 < mn := HN.out.2.2.2.2.1
        clear c0 hma
        go_upto_region 24 with fail
        clear y0 y1 y2 y3 y4 y5 yf c0w c0v
        go_wp2
        go_loopw [17, 18] (fun nv iv wx => ∃ k : Nat, k ≤ mn - 1 ∧ iv = .int .i64 (k : Nat) ∧ nv = .int .i64 (nxR M tg k) ∧ Hid (Old w20 wx)) (fun _ i _ => mn - (intOf i).toNat)
        case atStart => exact ⟨0, Nat.zero_le _, rfl, rfl, hid (Old.refl _)⟩
        case round =>
         obtain ⟨k, hk, rfl, rfl, UQ⟩ := hrel
         rename World => wq
         have hk7 : k ≤ 6 := by have := HN.out; omega
         have w1 : IntKind.i64.wrap ((k : Int) + 1) = (k : Int) + 1 := IntWalk.i64_in _ (by omega)
         obtain ⟨⟨y0, y1, y2, y3, y4, y5⟩, yf⟩ := box6 (UQ.out.block Gc.out)
         by_cases hlt : k + 1 < mn
         ·obtain ⟨mg2, mo2, hm2, x0⟩ := HC.out k (by omega)
          obtain ⟨mg3, mo3, hm3, x1⟩ := HC.out (k + 1) hlt
          have hxx := hm2.symm.trans hm3
          simp only [Option.some.injEq, Addr.mk.injEq, and_true] at hxx
          obtain ⟨rfl, rfl⟩ := hxx
          rw [hm2] at y2
          have z0 := (Uc.out.trans UQ.out).keep x0
          have z1 := (Uc.out.trans UQ.out).keep x1
          have l0 : (0 : Int) ≤ (k : Int) := by omega
          have l1 : (k : Int) < (mn : Int) := by omega
          have l2 : (k : Int) + 1 < (mn : Int) := by omega
          have l3 : (0 : Int) ≤ (k : Int) + 1 := by omega
          have HSx := hid (show nxR M tg (k + 1) = if M.getD k 0 = tg then M.getD (k + 1) 0 else nxR M tg k from rfl)
          generalize M.getD k 0 = m0 at *
          generalize M.getD (k + 1) 0 = m1 at *
          clear x0 x1 hm2 hm3
          go_upto_region 27 with fail
          by_cases ht : m0 = tg
          ·have t : (m0 == tg) = true := by rw [beq_iff_eq]; exact ht
           rw [if_pos ht] at HSx
           clear ht
           go_quiet (fail)
           go_wp2
           go_roundw
           (case rel => exact ⟨k + 1, by omega, by go_num, by rw [HSx.out], hid (UQ.out.drewN _)⟩)
           (case measure => simp [intOf]; omega)
          ·have t : (m0 == tg) = false := by rw [beq_eq_false_iff_ne]; exact ht
           rw [if_neg ht] at HSx
           clear ht
           go_quiet (fail)
           go_wp2
           go_roundw
           (case rel => exact ⟨k + 1, by omega, by go_num, by rw [HSx.out], hid (UQ.out.drewN _)⟩)
           (case measure => simp [intOf]; omega)
         ·have hke : k = mn - 1 := by omega
          have HTk := hid HTg.out
          rw [← hke] at HTk
          have n2 : ¬ ((k : Int) + 1 < (mn : Int)) := by omega
          have n3 : decide ((k : Int) + 1 < (mn : Int)) = false := decide_eq_false (by omega)
          have f3 := yf 3
          have Go9 := hid (UQ.out.block Gc.out)
          have Ro9 := hid (UQ.out.block Rc.out)
          have Uo9 := hid (Uc.out.trans UQ.out)
          generalize nxR M tg k = nx at *
          clear hlt hke hk Gc Rc Uc HTg
          go_upto_region 30 with fail
          have C29 := hid (show Chg [cb] wq (wq.setCell ⟨cb, 3, none⟩ (.int .i64 nx)) from Chg.set wq ⟨cb, 3, none⟩ _ (by simp))
          have G29 := hid (show (wq.setCell ⟨cb, 3, none⟩ (.int .i64 nx)).heap[cb]? = some (.cells #[.int .i64 ss, .int .i64 la, .slice ma mn mc, .int .i64 nx, .slice oa on oc, .slice ra rn rc] 56 (0, 0)) from Go.Joins.block_setCell Go9.out (.int .i64 nx) (i := 3))
          have R29 := hid (C29.out.heapAt Ro9.out (by simp; have := HSz.out; omega))
          have O29 := hid (Uo9.out.below (C29.out.below w.heap.size (fun z q => by simp at q; have := HSz.out; omega) Uo9.out.size))
          clear y0 y1 y2 y3 y4 y5 yf f3 C29 Go9 Ro9 Uo9
          generalize wq.setCell ⟨cb, 3, none⟩ (.int .i64 nx) = w29 at *
          obtain ⟨⟨y0, y1, y2, y3, y4, y5⟩, -⟩ := box6 G29.out
          obtain ⟨⟨z0, z1, z2, z3, z4, z5⟩, zf⟩ := box6 R29.out
          have f0 := zf 0; have f1 := zf 1; have f2 := zf 2; have f3 := zf 3; have f4 := zf 4; have f5 := zf 5
          go_wp2
          have C8 := hid (show Chg [rb] w29 ((((((w29.setCell ⟨rb, 0, none⟩ (.int .i64 ss)).setCell ⟨rb, 1, none⟩ (.int .i64 la)).setCell ⟨rb, 2, none⟩ (.slice ma mn mc)).setCell ⟨rb, 3, none⟩ (.int .i64 nx)).setCell ⟨rb, 4, none⟩ (.slice oa on oc)).setCell ⟨rb, 5, none⟩ (.slice ra rn rc)) from ((((((Chg.set w29 ⟨rb, 0, none⟩ _ (by simp)).trans (Chg.set _ ⟨rb, 1, none⟩ _ (by simp))).trans (Chg.set _ ⟨rb, 2, none⟩ _ (by simp))).trans (Chg.set _ ⟨rb, 3, none⟩ _ (by simp))).trans (Chg.set _ ⟨rb, 4, none⟩ _ (by simp))).trans (Chg.set _ ⟨rb, 5, none⟩ _ (by simp))))
          have R8 := hid (show ((((((w29.setCell ⟨rb, 0, none⟩ (.int .i64 ss)).setCell ⟨rb, 1, none⟩ (.int .i64 la)).setCell ⟨rb, 2, none⟩ (.slice ma mn mc)).setCell ⟨rb, 3, none⟩ (.int .i64 nx)).setCell ⟨rb, 4, none⟩ (.slice oa on oc)).setCell ⟨rb, 5, none⟩ (.slice ra rn rc)).heap[rb]? = some (.cells #[.int .i64 ss, .int .i64 la, .slice ma mn mc, .int .i64 nx, .slice oa on oc, .slice ra rn rc] 56 (0, 0)) from (Go.Joins.block_setCell (Go.Joins.block_setCell (Go.Joins.block_setCell (Go.Joins.block_setCell (Go.Joins.block_setCell (Go.Joins.block_setCell R29.out (.int .i64 ss) (i := 0)) (.int .i64 la) (i := 1)) (.slice ma mn mc) (i := 2)) (.int .i64 nx) (i := 3)) (.slice oa on oc) (i := 4)) (.slice ra rn rc) (i := 5)))
          have O8 := hid (O29.out.below (C8.out.below w.heap.size (fun k q => by simp at q; have := HSz.out; omega) O29.out.size))
          clear y0 y1 y2 y3 y4 y5 z0 z1 z2 z3 z4 z5 zf f0 f1 f2 f3 f4 f5
          generalize ((((((w29.setCell ⟨rb, 0, none⟩ (.int .i64 ss)).setCell ⟨rb, 1, none⟩ (.int .i64 la)).setCell ⟨rb, 2, none⟩ (.slice ma mn mc)).setCell ⟨rb, 3, none⟩ (.int .i64 nx)).setCell ⟨rb, 4, none⟩ (.slice oa on oc)).setCell ⟨rb, 5, none⟩ (.slice ra rn rc)) = w8 at *
          obtain ⟨⟨y0, y1, y2, y3, y4, y5⟩, -⟩ := box6 R8.out
          refine bodyPost_ret (v := .agg #[.int .i64 ss, .int .i64 la, .slice ma mn mc, .int .i64 nx, .slice oa on oc, .slice ra rn rc]) (by simp [results, Tryz.results17, go_sem, y0, y1, y2, y3, y4, y5]) rfl ?_
          first | exact ⟨nx, _, _, rfl, O8.out, .inr (.inr ⟨HNo.out, HZ.out, HTk.out, rfl, rfl⟩)⟩ | exact ⟨nx, _, _, rfl, O8.out, .inr ⟨by simpa using HNo.out, HTk.out, rfl, rfl⟩⟩
       ·have HTg := hid (show lead = tgR M tg 180 lead from by unfold tgR hasR; rw [← HN.out.2.2.1, hh]; simp)
        rw [hh] at HH
        clear hh
        go_upto_region 21 with (go_at_call 28; refine (HH.out _ Uw.out).mono ?_; rintro x w20 ⟨rfl, u20⟩; have U20 := hid u20; clear u20)
        have Gc := hid (U20.out.block Gb.out)
        have Rc := hid (U20.out.block Rb.out)
        have Uc := hid (Uw.out.trans U20.out)
        clear y0 y1 y2 y3 y4 y5 yf Gb Rb Uw U20 HH
        obtain ⟨⟨y0, y1, y2, y3, y4, y5⟩, yf⟩ := box6 Gc.out
        have f3 := yf 3
        go_upto_region 22 with fail
        have C21 := hid (show Chg [cb] w20 (w20.setCell ⟨cb, 3, none⟩ (.int .i64 lead)) from Chg.set w20 ⟨cb, 3, none⟩ _ (by simp))
        have G21 := hid (show (w20.setCell ⟨cb, 3, none⟩ (.int .i64 lead)).heap[cb]? = some (.cells #[.int .i64 ss, .int .i64 la, .slice ma mn mc, .int .i64 lead, .slice oa on oc, .slice ra rn rc] 56 (0, 0)) from Go.Joins.block_setCell Gc.out (.int .i64 lead) (i := 3))
        have R21 := hid (C21.out.heapAt Rc.out (by simp; have := HSz.out; omega))
        have O21 := hid (Uc.out.below (C21.out.below w.heap.size (fun z q => by simp at q; have := HSz.out; omega) Uc.out.size))
        clear y0 y1 y2 y3 y4 y5 yf f3 C21 Gc Rc Uc
        generalize w20.setCell ⟨cb, 3, none⟩ (.int .i64 lead) = w21 at *
        obtain ⟨⟨y0, y1, y2, y3, y4, y5⟩, -⟩ := box6 G21.out
        obtain ⟨⟨z0, z1, z2, z3, z4, z5⟩, zf⟩ := box6 R21.out
        have f0 := zf 0; have f1 := zf 1; have f2 := zf 2; have f3 := zf 3; have f4 := zf 4; have f5 := zf 5
        go_wp2
        have C8 := hid (show Chg [rb] w21 ((((((w21.setCell ⟨rb, 0, none⟩ (.int .i64 ss)).setCell ⟨rb, 1, none⟩ (.int .i64 la)).setCell ⟨rb, 2, none⟩ (.slice ma mn mc)).setCell ⟨rb, 3, none⟩ (.int .i64 lead)).setCell ⟨rb, 4, none⟩ (.slice oa on oc)).setCell ⟨rb, 5, none⟩ (.slice ra rn rc)) from ((((((Chg.set w21 ⟨rb, 0, none⟩ _ (by simp)).trans (Chg.set _ ⟨rb, 1, none⟩ _ (by simp))).trans (Chg.set _ ⟨rb, 2, none⟩ _ (by simp))).trans (Chg.set _ ⟨rb, 3, none⟩ _ (by simp))).trans (Chg.set _ ⟨rb, 4, none⟩ _ (by simp))).trans (Chg.set _ ⟨rb, 5, none⟩ _ (by simp))))
        have R8 := hid (show ((((((w21.setCell ⟨rb, 0, none⟩ (.int .i64 ss)).setCell ⟨rb, 1, none⟩ (.int .i64 la)).setCell ⟨rb, 2, none⟩ (.slice ma mn mc)).setCell ⟨rb, 3, none⟩ (.int .i64 lead)).setCell ⟨rb, 4, none⟩ (.slice oa on oc)).setCell ⟨rb, 5, none⟩ (.slice ra rn rc)).heap[rb]? = some (.cells #[.int .i64 ss, .int .i64 la, .slice ma mn mc, .int .i64 lead, .slice oa on oc, .slice ra rn rc] 56 (0, 0)) from (Go.Joins.block_setCell (Go.Joins.block_setCell (Go.Joins.block_setCell (Go.Joins.block_setCell (Go.Joins.block_setCell (Go.Joins.block_setCell R21.out (.int .i64 ss) (i := 0)) (.int .i64 la) (i := 1)) (.slice ma mn mc) (i := 2)) (.int .i64 lead) (i := 3)) (.slice oa on oc) (i := 4)) (.slice ra rn rc) (i := 5)))
        have O8 := hid (O21.out.below (C8.out.below w.heap.size (fun k q => by simp at q; have := HSz.out; omega) O21.out.size))
        clear y0 y1 y2 y3 y4 y5 z0 z1 z2 z3 z4 z5 zf f0 f1 f2 f3 f4 f5
        generalize ((((((w21.setCell ⟨rb, 0, none⟩ (.int .i64 ss)).setCell ⟨rb, 1, none⟩ (.int .i64 la)).setCell ⟨rb, 2, none⟩ (.slice ma mn mc)).setCell ⟨rb, 3, none⟩ (.int .i64 lead)).setCell ⟨rb, 4, none⟩ (.slice oa on oc)).setCell ⟨rb, 5, none⟩ (.slice ra rn rc)) = w8 at *
        obtain ⟨⟨y0, y1, y2, y3, y4, y5⟩, -⟩ := box6 R8.out
        refine bodyPost_ret (v := .agg #[.int .i64 ss, .int .i64 la, .slice ma mn mc, .int .i64 lead, .slice oa on oc, .slice ra rn rc]) (by simp [results, Tryz.results17, go_sem, y0, y1, y2, y3, y4, y5]) rfl ?_
        exact ⟨lead, _, _, rfl, O8.out, .inr (.inr ⟨HNo.out, HZ.out, HTg.out, rfl, rfl⟩)⟩
      ·have HZ := hid h0
       have b2 : (e == 180) = false := by rw [beq_eq_false_iff_ne]; exact h18
       have HTg := hid (show nxR M tg (mn - 1) = tgR M tg e lead from by unfold tgR; rw [if_neg h81, if_neg (fun x => h18 x.1), ← HN.out.2.2.1])
       go_upto_region 23 with fail
       have Gc := hid Gb.out
       have Rc := hid Rb.out
       have Uc := hid Uw.out
       clear y0 y1 y2 y3 y4 y5 yf Gb Rb Uw
       obtain ⟨hmm, mp, mcc, me, mh1, mh2, mhc⟩ := HM.out
       simp only [Value.slice.injEq] at me
       obtain ⟨me1, -, me2⟩ := me
       rw [← me1] at mhc
       have HC := hid mhc
       clear hmm mhc mh1 mh2 me1 me2
       obtain ⟨mg, mo, hma, c0⟩ := HC.out 0 HN.out.2.2.2.2.1
       have HMa := hid hma
       have c0w := Uc.out.keep c0
       obtain ⟨⟨y0, y1, y2, y3, y4, y5⟩, yf⟩ := box6 Gc.out
       rw [hma] at y2
       have c0v : wr.cell? ⟨mg, mo, none⟩ = some (.int .i64 (M.getD 0 0)) := by simpa using c0w
       have lm : (0 : Int) < (mn : Int) := by have := HN.out.2.2.2.2.1; omega
       have lm2 : 0 < mn := HN.out.2.2.2.2.1
       clear c0 hma
       go_upto_region 24 with fail
       clear y0 y1 y2 y3 y4 y5 yf c0w c0v
       go_wp2
       go_loopw [17, 18] (fun nv iv wx => ∃ k : Nat, k ≤ mn - 1 ∧ iv = .int .i64 (k : Nat) ∧ nv = .int .i64 (nxR M tg k) ∧ Hid (Old wr wx)) (fun _ i _ => mn - (intOf i).toNat)
       case atStart => exact ⟨0, Nat.zero_le _, rfl, rfl, hid (Old.refl _)⟩
       case round =>
        obtain ⟨k, hk, rfl, rfl, UQ⟩ := hrel
        rename World => wq
        have hk7 : k ≤ 6 := by have := HN.out; omega
        have w1 : IntKind.i64.wrap ((k : Int) + 1) = (k : Int) + 1 := IntWalk.i64_in _ (by omega)
        obtain ⟨⟨y0, y1, y2, y3, y4, y5⟩, yf⟩ := box6 (UQ.out.block Gc.out)
        by_cases hlt : k + 1 < mn
        ·obtain ⟨mg2, mo2, hm2, x0⟩ := HC.out k (by omega)
         obtain ⟨mg3, mo3, hm3, x1⟩ := HC.out (k + 1) hlt
         have hxx := hm2.symm.trans hm3
         simp only [Option.some.injEq, Addr.mk.injEq, and_true] at hxx
         obtain ⟨rfl, rfl⟩ := hxx
         rw [hm2] at y2
         have z0 := (Uc.out.trans UQ.out).keep x0
         have z1 := (Uc.out.trans UQ.out).keep x1
         have l0 : (0 : Int) ≤ (k : Int) := by omega
         have l1 : (k : Int) < (mn : Int) := by omega
         have l2 : (k : Int) + 1 < (mn : Int) := by omega
         have l3 : (0 : Int) ≤ (k : Int) + 1 := by omega
         have HSx := hid (show nxR M tg (k + 1) = if M.getD k 0 = tg then M.getD (k + 1) 0 else nxR M tg k from rfl)
         generalize M.getD k 0 = m0 at *
         generalize M.getD (k + 1) 0 = m1 at *
         clear x0 x1 hm2 hm3
         go_upto_region 27 with fail
         by_cases ht : m0 = tg
         ·have t : (m0 == tg) = true := by rw [beq_iff_eq]; exact ht
          rw [if_pos ht] at HSx
          clear ht
          go_quiet (fail)
          go_wp2
          go_roundw
          (case rel => exact ⟨k + 1, by omega, by go_num, by rw [HSx.out], hid (UQ.out.drewN _)⟩)
          (case measure => simp [intOf]; omega)
         ·have t : (m0 == tg) = false := by rw [beq_eq_false_iff_ne]; exact ht
          rw [if_neg ht] at HSx
          clear ht
          go_quiet (fail)
          go_wp2
          go_roundw
          (case rel => exact ⟨k + 1, by omega, by go_num, by rw [HSx.out], hid (UQ.out.drewN _)⟩)
          (case measure => simp [intOf]; omega)
        ·have hke : k = mn - 1 := by omega
         have HTk := hid HTg.out
         rw [← hke] at HTk
         have n2 : ¬ ((k : Int) + 1 < (mn : Int)) := by omega
         have n3 : decide ((k : Int) + 1 < (mn : Int)) = false := decide_eq_false (by omega)
         have f3 := yf 3
         have Go9 := hid (UQ.out.block Gc.out)
         have Ro9 := hid (UQ.out.block Rc.out)
         have Uo9 := hid (Uc.out.trans UQ.out)
         generalize nxR M tg k = nx at *
         clear hlt hke hk Gc Rc Uc HTg
         go_upto_region 30 with fail
         have C29 := hid (show Chg [cb] wq (wq.setCell ⟨cb, 3, none⟩ (.int .i64 nx)) from Chg.set wq ⟨cb, 3, none⟩ _ (by simp))
         have G29 := hid (show (wq.setCell ⟨cb, 3, none⟩ (.int .i64 nx)).heap[cb]? = some (.cells #[.int .i64 ss, .int .i64 la, .slice ma mn mc, .int .i64 nx, .slice oa on oc, .slice ra rn rc] 56 (0, 0)) from Go.Joins.block_setCell Go9.out (.int .i64 nx) (i := 3))
         have R29 := hid (C29.out.heapAt Ro9.out (by simp; have := HSz.out; omega))
         have O29 := hid (Uo9.out.below (C29.out.below w.heap.size (fun z q => by simp at q; have := HSz.out; omega) Uo9.out.size))
         clear y0 y1 y2 y3 y4 y5 yf f3 C29 Go9 Ro9 Uo9
         generalize wq.setCell ⟨cb, 3, none⟩ (.int .i64 nx) = w29 at *
         obtain ⟨⟨y0, y1, y2, y3, y4, y5⟩, -⟩ := box6 G29.out
         obtain ⟨⟨z0, z1, z2, z3, z4, z5⟩, zf⟩ := box6 R29.out
         have f0 := zf 0; have f1 := zf 1; have f2 := zf 2; have f3 := zf 3; have f4 := zf 4; have f5 := zf 5
         go_wp2
         have C8 := hid (show Chg [rb] w29 ((((((w29.setCell ⟨rb, 0, none⟩ (.int .i64 ss)).setCell ⟨rb, 1, none⟩ (.int .i64 la)).setCell ⟨rb, 2, none⟩ (.slice ma mn mc)).setCell ⟨rb, 3, none⟩ (.int .i64 nx)).setCell ⟨rb, 4, none⟩ (.slice oa on oc)).setCell ⟨rb, 5, none⟩ (.slice ra rn rc)) from ((((((Chg.set w29 ⟨rb, 0, none⟩ _ (by simp)).trans (Chg.set _ ⟨rb, 1, none⟩ _ (by simp))).trans (Chg.set _ ⟨rb, 2, none⟩ _ (by simp))).trans (Chg.set _ ⟨rb, 3, none⟩ _ (by simp))).trans (Chg.set _ ⟨rb, 4, none⟩ _ (by simp))).trans (Chg.set _ ⟨rb, 5, none⟩ _ (by simp))))
         have R8 := hid (show ((((((w29.setCell ⟨rb, 0, none⟩ (.int .i64 ss)).setCell ⟨rb, 1, none⟩ (.int .i64 la)).setCell ⟨rb, 2, none⟩ (.slice ma mn mc)).setCell ⟨rb, 3, none⟩ (.int .i64 nx)).setCell ⟨rb, 4, none⟩ (.slice oa on oc)).setCell ⟨rb, 5, none⟩ (.slice ra rn rc)).heap[rb]? = some (.cells #[.int .i64 ss, .int .i64 la, .slice ma mn mc, .int .i64 nx, .slice oa on oc, .slice ra rn rc] 56 (0, 0)) from (Go.Joins.block_setCell (Go.Joins.block_setCell (Go.Joins.block_setCell (Go.Joins.block_setCell (Go.Joins.block_setCell (Go.Joins.block_setCell R29.out (.int .i64 ss) (i := 0)) (.int .i64 la) (i := 1)) (.slice ma mn mc) (i := 2)) (.int .i64 nx) (i := 3)) (.slice oa on oc) (i := 4)) (.slice ra rn rc) (i := 5)))
         have O8 := hid (O29.out.below (C8.out.below w.heap.size (fun k q => by simp at q; have := HSz.out; omega) O29.out.size))
         clear y0 y1 y2 y3 y4 y5 z0 z1 z2 z3 z4 z5 zf f0 f1 f2 f3 f4 f5
         generalize ((((((w29.setCell ⟨rb, 0, none⟩ (.int .i64 ss)).setCell ⟨rb, 1, none⟩ (.int .i64 la)).setCell ⟨rb, 2, none⟩ (.slice ma mn mc)).setCell ⟨rb, 3, none⟩ (.int .i64 nx)).setCell ⟨rb, 4, none⟩ (.slice oa on oc)).setCell ⟨rb, 5, none⟩ (.slice ra rn rc)) = w8 at *
         obtain ⟨⟨y0, y1, y2, y3, y4, y5⟩, -⟩ := box6 R8.out
         refine bodyPost_ret (v := .agg #[.int .i64 ss, .int .i64 la, .slice ma mn mc, .int .i64 nx, .slice oa on oc, .slice ra rn rc]) (by simp [results, Tryz.results17, go_sem, y0, y1, y2, y3, y4, y5]) rfl ?_
         first | exact ⟨nx, _, _, rfl, O8.out, .inr (.inr ⟨HNo.out, HZ.out, HTk.out, rfl, rfl⟩)⟩ | exact ⟨nx, _, _, rfl, O8.out, .inr ⟨by simpa using HNo.out, HTk.out, rfl, rfl⟩⟩
end Go.Proofs.YthjfkmjeppdcnaaGreat
