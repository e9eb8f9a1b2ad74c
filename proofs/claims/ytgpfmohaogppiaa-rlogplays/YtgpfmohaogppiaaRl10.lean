/- rlog's DropTo at every log; conditions: it lies in memory. -/
import Derived.Test.YtgpfmohaogppiaaRl9
namespace Go.Proofs.Ytgpfmohaogppiaa
open Go.RowKit Go.Lib
set_option linter.unusedVariables false
set_option linter.unusedSimpArgs false
set_option maxRecDepth 20000
theorem tm_take (ix tm : Int) (es : List En) (index : Int) (h : tmB ix es.length index = true) : tmV ix tm es.length (entA (es.map En.e)) index = lstT tm (es.take (index - ix).toNat) := by
  unfold tmV
  rw [if_pos h]
  unfold tmB at h
  simp at h
  by_cases e : index = ix
  · rw [if_pos e, e, Int.sub_self]
    rfl
  · rw [if_neg e]
    obtain ⟨j, hj⟩ : ∃ j, (index - ix).toNat = j + 1 := ⟨(index - ix - 1).toNat, by omega⟩
    have hj2 : (index - ix - 1).toNat = j := by omega
    have hlt : j < es.length := by omega
    rw [hj, hj2, take_at hlt, lstT_app, entA_map es j hlt]
    rfl
theorem Is.drop {G : Lg} {P : PL} {index : Int} (h : Is G P) (hi : drpB P index = true) (G' : Lg) (y : Pc) (r : List Pc) (e1 : G'.ix = index) (e2 : G'.tm = lstT P.tm (P.es.take (drpN P index))) (e3 : G'.es = G.es.drop (drpN P index)) (e5 : G.cs.drop (cfs (P.es.take (drpN P index))).length = y :: r) (e4 : G'.cs = { y with x := index } :: r) : Is G' (drpP P index) := by
  unfold drpP
  rw [if_pos hi]
  have hmem : ∀ z ∈ y :: r, z ∈ G.cs := fun z hz => by rw [← e5] at hz; exact List.mem_of_mem_drop hz
  have hc : (y :: r).map Pc.pl = lastCf (P.ix, P.a, P.b) (cfs (P.es.take (drpN P index))) :: cfs (P.es.drop (drpN P index)) := by
    rw [← e5, List.map_drop, h.cs]
    have e : cfs P.es = cfs (P.es.take (drpN P index)) ++ cfs (P.es.drop (drpN P index)) := by rw [← cfs_app, List.take_append_drop]
    rw [e]
    exact lastCf_drop _ _ _
  rw [List.map_cons] at hc
  obtain ⟨hc1, hc2⟩ := List.cons.inj hc
  refine ⟨e1, e2, by rw [e3, pls_drop, h.es], ?_, fun z hz => ?_⟩
  · rw [e4, List.map_cons, hc2, ← hc1]
    rfl
  · rw [e4] at hz
    rcases List.mem_cons.1 hz with rfl | q
    · exact h.sm y (hmem y (by simp))
    · exact h.sm z (hmem z (by simp [q]))
def drpV (P : PL) (index : Int) : Int := if drpB P index = true then 0 else 1
set_option maxHeartbeats 8000000 in
set_option maxRecDepth 20000 in
theorem drop_any (base lb : Nat) (G : Lg) (P : PL) (index : Int) (w : World) (h : LogP base lb G P w) :
    Calls Try.prog 13 #[.pointer (some ⟨lb, 0, none⟩), .int .i64 index] w fun e w' => e = .returned (.int .i64 (drpV P index)) ∧ ∃ G', LogP base lb G' (drpP P index) w' ∧ Mov lb w G w' G' := by
  obtain ⟨ix, tm, es, cs, ve, vc⟩ := G
  have HP := hid h
  have hix := h.is.ix
  have htm := h.is.tm
  dsimp only at hix htm
  have hlen := h.is.len.1
  dsimp only at hlen
  have hclen := h.is.len.2
  dsimp only at hclen
  have HT := hid (term_any lb ix tm es.length (entA (es.map En.e)) index w (h.m.s h.lg))
  have hB : tmB ix es.length index = drpB P index := by unfold tmB drpB; rw [hix, hlen]
  rw [hB] at HT
  cases hi : drpB P index with
  | false =>
    have e1 : drpV P index = 1 := by unfold drpV; rw [if_neg (by rw [hi]; decide)]
    have e2 : drpP P index = P := by unfold drpP; rw [if_neg (by rw [hi]; decide)]
    rw [e1, e2]
    rw [hi] at HT
    generalize tmV ix tm es.length (entA (es.map En.e)) index = tv at *
    clear h hix e1 e2 hB htm hlen hclen hi
    go_enter Try.func13, Try.ntmps13
    go_wp2_with (go_at_call 18; refine HT.out.mono ?_; rintro e w1 ⟨rfl, o1⟩; have O1 := hid o1; clear o1)
    go_ret
    exact ⟨rfl, _, HP.out.old O1.out, Mov.old O1.out⟩
  | true =>
    rw [hi] at hB
    have htk := tm_take ix tm es index hB
    rw [hi, htk] at HT
    have e1 : drpV P index = 0 := by unfold drpV; rw [if_pos hi]
    rw [e1]
    have hbd := hi
    unfold drpB at hbd
    simp only [Bool.and_eq_true, decide_eq_true_eq] at hbd
    obtain ⟨hb1, hb2⟩ := hbd
    have hix40 := h.ok.i1
    have hi40 := h.ok.i0
    have hbound := h.ok.bound
    obtain ⟨gone, hl⟩ : ∃ gone : Nat, drpN P index = gone := ⟨_, rfl⟩
    have hgi : (index - ix).toNat = gone := by rw [← hl]; unfold drpN; rw [hix]
    have hl2 : gone ≤ es.length := by omega
    have hl1 : ahN ix es.length (index + 1) = (gone : Int) := by unfold ahN; omega
    have HA := hid (fun (W : World) (u : Old w W) => ahead_any lb ix tm es.length (entA (es.map En.e)) (index + 1) W ((h.m.s h.lg).old u))
    (try dsimp only at HA)
    rw [hl1] at HA
    rw [hgi] at HT
    have HL := hid hl
    have hsp := h.ok.split gone (by rw [← hlen]; exact hl2)
    have hgx : P.ix + gone = index := by omega
    rw [hgx] at hsp
    have hmapc := h.is.cs
    dsimp only at hmapc
    rw [← List.take_append_drop gone P.es, cfs_app, ← List.cons_append] at hmapc
    obtain ⟨hc1, hc2, hc3⟩ := cnt_split hmapc hsp.1 hsp.2
    obtain ⟨past, hh⟩ : ∃ past, (cfs (P.es.take gone)).length = past := ⟨_, rfl⟩
    rw [List.length_cons, hh] at hc1 hc2 hc3
    have hcfew := h.lg.few.2
    have hefew := h.lg.few.1
    dsimp only at hcfew hefew
    have HUp := hid (fun (W : World) (G1 : Lg) (m : LogM base lb G1 W) (ecs : G1.cs = cs) => upTo_any base lb G1 index (past + 1) W m (by rw [ecs]; omega) (by rw [ecs]; exact hcfew) (by rw [ecs]; exact hc1) (by rw [ecs]; exact hc2) (by rw [ecs]; exact hc3))
    have hmx : max 1 (past + 1) = past + 1 := by omega
    rw [hmx] at HUp
    obtain ⟨y, r, hyr⟩ : ∃ y r, cs.drop past = y :: r := by
      cases hd : cs.drop past with
      | nil => have := congrArg List.length hd; simp at this; omega
      | cons y r => exact ⟨y, r, rfl⟩
    have HIs := hid (fun G' e1 e2 e3 e4 => h.is.drop hi G' y r e1 e2 e3 (by rw [hl, hh]; exact hyr) e4)
    have HOk := hid (drpP_ok h.ok index)
    rw [hl] at HIs
    dsimp only at HIs
    have hlt : lstT tm (es.take gone) = lstT P.tm (P.es.take gone) := by rw [htm, ← lstT_pls P.tm (es.take gone), pls_take]; congr 2; exact h.is.es
    rw [← hlt] at HIs
    generalize lstT tm (es.take gone) = tv at *
    obtain ⟨x0, x1, x2, x3, f0, f1, f2, f3⟩ := h.m.cells
    dsimp only at x0 x1 x2 x3
    have i1 : 0 ≤ index := by omega
    have i2 : index ≤ 1099511627776 := by omega
    have HH := hid hh
    have HYR := hid hyr
    have HYL := hid (show r.length + 1 = cs.length - past from by have := congrArg List.length hyr; simp at this; omega)
    clear hh hsp hmapc hc2 hc3 hmx hclen hl hix htm hl1 hi hix40 hi40 hbound e1 hB htk hb1 hb2 hgi hgx hyr hlt
    have l1 : (0 : Int) ≤ (gone : Int) := by omega
    have l2 : (gone : Int) ≤ (es.length : Int) := by omega
    rcases h.m.oe.2 with ⟨e1, hz⟩ | ⟨g, off, cap, cur, e1, hb, hg, hnc, hcm, hcs, htk⟩
    · dsimp only at e1 hz
      subst e1
      have hl0 : gone = 0 := by omega
      have HE := hid (List.length_eq_zero_iff.1 hz)
      subst hl0
      clear h hz hlen hl2 l1 l2 hefew
      have hclr := fun (W : World) => run_clear_nilE W
      go_enter Try.func13, Try.ntmps13
      go_upto_region 5 with (first | (go_at_call 18; refine HT.out.mono ?_; rintro e w0 ⟨rfl, o0⟩; have O0 := hid o0; clear o0) | (go_at_call 33; refine (HA.out _ O0.out).mono ?_; rintro e w1 ⟨rfl, o1⟩; have O1 := hid (O0.out.trans o1); clear o1))
      have y2 := O1.out.keep x2
      clear x0 x1 x2 x3 f0 f1 f2 f3 HA HT O0
      have M1 := hid (HP.out.m.old O1.out)
      have yf := M1.out.cells.2.2.2.2.2.2.1
      have T5 := hid (LogM.setE (es' := es) (v' := .slice none 0 0) M1.out (Chg.refl _ _) M1.out.oe (fun x hx => hx) rfl)
      go_upto_region 7 with (fail)
      generalize w1.setCell ⟨lb, 2, none⟩ (.slice none 0 0) = w5 at *
      obtain ⟨-, l5, m5⟩ := T5.out
      have L5 := hid l5
      have M5 := hid ((Mov.old O1.out).trans m5)
      clear l5 m5 T5 M1 y2 yf hclr O1
      have HEs := hid (show es = es.drop 0 from rfl)
      have HU := hid (HUp.out w5 _ L5.out rfl)
      have pn : ((past + 1 : Nat) : Int) - 1 = (past : Int) := by omega
      have pb : (past : Int) ≤ 1099511627777 := by omega
      push_cast at HU pn
      go_upto_region 8 with (go_at_call 34; refine HU.out.mono ?_; rintro e w6 ⟨rfl, o6⟩; have O6 := hid o6; clear o6)
      have L6 := hid (L5.out.old O6.out)
      have M6 := hid (M5.out.trans (Mov.old O6.out))
      clear L5 M5 O6 HU HUp pn
      obtain ⟨gc, oc, cc, evc, hcc1, hcc2, -⟩ := L6.out.conf (by dsimp only; omega)
      dsimp only at evc hcc1
      subst evc
      obtain ⟨-, -, -, z3, -, -, -, zf3⟩ := L6.out.cells
      dsimp only at z3
      obtain ⟨N, hN⟩ : ∃ N, cs.length = N := ⟨_, rfl⟩
      have HNc := hid hN
      have HHe := hid (show past ≤ N ∧ past < N from by rw [← hN]; omega)
      have hne : ¬ (cc = past) := by omega
      have HO3 := hid (show (cc = past ∧ oc + past * 3 = oc) ∨ oc + past * 3 = oc + past * 3 from .inr rfl)
      have L6n := hid (show LogM base lb ⟨ix, tm, es, cs, .slice none 0 0, .slice (some ⟨gc, oc, none⟩) N cc⟩ w6 from by rw [← hN]; exact L6.out)
      rw [hN] at z3 hcc1 hc1 hcfew HYL
      clear hN
      have k1 : (0 : Int) ≤ (past : Int) := by omega
      have k2 : (past : Int) ≤ (N : Int) := by omega
      have k3 : (N : Int) ≤ (cc : Int) := by omega
      have k4 : (cc : Int) ≤ 9223372036854775807 := by omega
      have k5 : (past : Int) ≤ (cc : Int) := by omega
      obtain ⟨i0, hi0, hz0, hz1, hz2⟩ := info_parts infoPlc
      obtain ⟨w7, hclr, oo, ch⟩ := clear_head (P := Try.prog) w6 base 66 65 i0 _ 3 Try.underlying66 hi0 hz0 rfl (by decide) oneP gc oc N cc (pcs cs) (by have := L6n.out.oc; dsimp only at this; rw [HNc.out] at this; exact this) past HHe.out.1 (oc + past * 3) HO3.out
      have OO := hid (show OwnOff base 65 3 w7 (.slice (some ⟨gc, oc + past * 3, none⟩) (N - past) (cc - past)) (y :: r).length (pcs (y :: r)) from by rw [← HYR.out, List.length_drop, HNc.out, ← pcs_drop]; exact oo)
      have CC := hid ch
      clear oo ch hi0 hz0 hz1 hz2
      have T8 := hid (LogM.setC (cs' := y :: r) (v' := .slice (some ⟨gc, oc + past * 3, none⟩) (N - past) (cc - past)) L6n.out CC.out OO.out (fun x hx => by rw [← HYR.out] at hx; exact List.mem_of_mem_drop hx) rfl)
      have z3' := (box4 T8.out.1).2.2.2.1
      have zf' := (box4 T8.out.1).2.2.2.2.2.2.2
      go_upto_region 10 with (fail)
      generalize w7.setCell ⟨lb, 3, none⟩ (.slice (some ⟨gc, oc + past * 3, none⟩) (N - past) (cc - past)) = w8 at *
      obtain ⟨-, l8, m8⟩ := T8.out
      have HNp := hid HYL.out
      have L8 := hid l8
      have M8 := hid m8
      clear l8 m8 T8 z3 z3' zf' zf3 hclr hne OO CC HO3
      obtain ⟨rl, hrl⟩ : ∃ rl, N - past = rl := ⟨_, rfl⟩
      obtain ⟨cl, hcl⟩ : ∃ cl, cc - past = cl := ⟨_, rfl⟩
      have hrl1 : 0 < rl := by have := HHe.out.2; omega
      have hrl3 : (rl : Int) ≤ 1099511627777 := by omega
      rw [hrl] at HNp
      rw [hrl, hcl] at L8 M8
      simp only [hrl, hcl]
      clear hrl hcl k1 k2 k3 k4 k5 pb hcc1 hcc2 hc1 hcfew
      have L8r := hid (show LogM base lb ⟨ix, tm, es, y :: r, .slice none 0 0, .slice (some ⟨gc, oc + past * 3, none⟩) (r.length + 1) cl⟩ w8 from by rw [HNp.out]; exact L8.out)
      have T9 := hid (L8r.out.setA index)
      obtain ⟨-, -, -, z3, -, -, -, -⟩ := L8.out.cells
      dsimp only at z3
      have zx : w8.cell? ⟨gc, oc + past * 3, none⟩ = some (.int .i64 y.x) := by obtain ⟨gc', o3', c', e', -, -, q⟩ := L8r.out.conf (by simp); dsimp only at e' q; cases e'; have := (q 0 (by simp)).1; simpa [atP] using this
      have zxf : w8.frozen? ⟨gc, oc + past * 3, none⟩ = false := by obtain ⟨cur, e⟩ := L8r.out.oc.ty gc rfl; exact Go.Joins.unfrozen_of_block e (oc + past * 3)
      go_upto_region 11 with (fail)
      generalize w8.setCell ⟨gc, oc + past * 3, none⟩ (.int .i64 index) = w9 at *
      obtain ⟨l9, m9⟩ := T9.out
      have L9 := hid l9
      have M9 := hid m9
      clear l9 m9 T9 z3 zx zxf
      have T10 := hid (L9.out.setB index tv)
      obtain ⟨z0, z1, -, -, zf0, zf1, -, -⟩ := L9.out.cells
      dsimp only at z0 z1
      go_upto_region 12 with (fail)
      generalize (w9.setCell ⟨lb, 0, none⟩ (.int .i64 index)).setCell ⟨lb, 1, none⟩ (.int .i64 tv) = w10 at *
      obtain ⟨l10, m10⟩ := T10.out
      have L10 := hid l10
      have M10 := hid m10
      clear l10 m10 T10 z0 z1 zf0 zf1
      go_wp2
      go_ret
      refine ⟨rfl, _, ⟨L10.out, HIs.out _ rfl rfl HEs.out rfl, HOk.out⟩, ?_⟩
      have q := M6.out
      rw [HNc.out] at q
      have m8 := M8.out
      rw [← HNp.out] at m8
      have q2 := ((q.trans m8).trans M9.out).trans M10.out
      rw [HNc.out]; exact q2
    · dsimp only at e1 hnc
      subst e1
      have l3 : (es.length : Int) ≤ (cap : Int) := by omega
      have l4 : (cap : Int) ≤ 9223372036854775807 := by unfold maxLen at hcm; omega
      have l5 : (gone : Int) ≤ (cap : Int) := by omega
      clear h hb hg hnc hcm hcs htk hlen
      obtain ⟨o2, hoe, ho⟩ := offs g off cap gone 4
      have HO := hid ho
      have HLn := hid hl2
      clear ho hl2
      obtain ⟨n, hn⟩ : ∃ n, es.length = n := ⟨_, rfl⟩
      have HN := hid hn
      have HPn := hid (show LogP base lb ⟨ix, tm, es, cs, .slice (some ⟨g, off, none⟩) n cap, vc⟩ P w from by rw [← hn]; exact HP.out)
      rw [hn] at x2 l2 l3 hefew HLn
      clear hn
      go_enter Try.func13, Try.ntmps13
      go_upto_region 5 with (first | (go_at_call 18; refine HT.out.mono ?_; rintro e w0 ⟨rfl, o0⟩; have O0 := hid o0; clear o0) | (go_at_call 33; refine (HA.out _ O0.out).mono ?_; rintro e w1 ⟨rfl, o1⟩; have O1 := hid (O0.out.trans o1); clear o1))
      have y2 := O1.out.keep x2
      clear x0 x1 x2 x3 f0 f1 f2 f3 HA HT O0
      have M1 := hid (HPn.out.m.old O1.out)
      obtain ⟨i0, hi0, hz0, hz1, hz2⟩ := info_parts infoEnt
      obtain ⟨w2, hclr, oo, cc⟩ := clear_head (P := Try.prog) w1 base 29 41 i0 _ 4 Try.underlying29 hi0 hz0 rfl (by decide) oneE g off n cap (ecs (es.map En.e)) (by have := M1.out.oe; dsimp only at this; rw [HN.out] at this; exact this) gone HLn.out o2 HO.out
      have OO := hid (show OwnOff base 41 4 w2 (.slice (some ⟨g, o2, none⟩) (n - gone) (cap - gone)) (es.drop gone).length (ecs ((es.drop gone).map En.e)) from by rw [List.length_drop, HN.out, List.map_drop, ← ecs_drop]; exact oo)
      have CC := hid cc
      clear oo cc hi0 hz0 hz1 hz2
      have T5 := hid (LogM.setE (es' := es.drop gone) (v' := .slice (some ⟨g, o2, none⟩) (n - gone) (cap - gone)) M1.out CC.out OO.out (fun x hx => List.mem_of_mem_drop hx) rfl)
      have z2 := (box4 T5.out.1).2.2.1
      have zf := (box4 T5.out.1).2.2.2.2.2.2.1
      go_upto_region 7 with (fail)
      generalize w2.setCell ⟨lb, 2, none⟩ (.slice (some ⟨g, o2, none⟩) (n - gone) (cap - gone)) = w5 at *
      obtain ⟨-, l5, m5⟩ := T5.out
      have L5 := hid l5
      have M5 := hid ((show Mov lb w ⟨ix, tm, es, cs, .slice (some ⟨g, off, none⟩) n cap, vc⟩ w1 ⟨ix, tm, es, cs, .slice (some ⟨g, off, none⟩) n cap, vc⟩ from Mov.old O1.out).trans m5)
      clear l5 m5 T5 M1 y2 z2 zf hclr O1 OO CC HO hoe
      have HU := hid (HUp.out w5 _ L5.out rfl)
      have pn : ((past + 1 : Nat) : Int) - 1 = (past : Int) := by omega
      have pb : (past : Int) ≤ 1099511627777 := by omega
      push_cast at HU pn
      go_upto_region 8 with (go_at_call 34; refine HU.out.mono ?_; rintro e w6 ⟨rfl, o6⟩; have O6 := hid o6; clear o6)
      have L6 := hid (L5.out.old O6.out)
      have M6 := hid (M5.out.trans (Mov.old O6.out))
      clear L5 M5 O6 HU HUp pn
      obtain ⟨gc, oc, cc, evc, hcc1, hcc2, -⟩ := L6.out.conf (by dsimp only; omega)
      dsimp only at evc hcc1
      subst evc
      obtain ⟨-, -, -, z3, -, -, -, zf3⟩ := L6.out.cells
      dsimp only at z3
      obtain ⟨N, hN⟩ : ∃ N, cs.length = N := ⟨_, rfl⟩
      have HNc := hid hN
      have HHe := hid (show past ≤ N ∧ past < N from by rw [← hN]; omega)
      have hne : ¬ (cc = past) := by omega
      have HO3 := hid (show (cc = past ∧ oc + past * 3 = oc) ∨ oc + past * 3 = oc + past * 3 from .inr rfl)
      have L6n := hid (show LogM base lb ⟨ix, tm, (es.drop gone), cs, .slice (some ⟨g, o2, none⟩) (n - gone) (cap - gone), .slice (some ⟨gc, oc, none⟩) N cc⟩ w6 from by rw [← hN]; exact L6.out)
      rw [hN] at z3 hcc1 hc1 hcfew HYL
      clear hN
      have k1 : (0 : Int) ≤ (past : Int) := by omega
      have k2 : (past : Int) ≤ (N : Int) := by omega
      have k3 : (N : Int) ≤ (cc : Int) := by omega
      have k4 : (cc : Int) ≤ 9223372036854775807 := by omega
      have k5 : (past : Int) ≤ (cc : Int) := by omega
      obtain ⟨i0, hi0, hz0, hz1, hz2⟩ := info_parts infoPlc
      obtain ⟨w7, hclr, oo, ch⟩ := clear_head (P := Try.prog) w6 base 66 65 i0 _ 3 Try.underlying66 hi0 hz0 rfl (by decide) oneP gc oc N cc (pcs cs) (by have := L6n.out.oc; dsimp only at this; rw [HNc.out] at this; exact this) past HHe.out.1 (oc + past * 3) HO3.out
      have OO := hid (show OwnOff base 65 3 w7 (.slice (some ⟨gc, oc + past * 3, none⟩) (N - past) (cc - past)) (y :: r).length (pcs (y :: r)) from by rw [← HYR.out, List.length_drop, HNc.out, ← pcs_drop]; exact oo)
      have CC := hid ch
      clear oo ch hi0 hz0 hz1 hz2
      have T8 := hid (LogM.setC (cs' := y :: r) (v' := .slice (some ⟨gc, oc + past * 3, none⟩) (N - past) (cc - past)) L6n.out CC.out OO.out (fun x hx => by rw [← HYR.out] at hx; exact List.mem_of_mem_drop hx) rfl)
      have z3' := (box4 T8.out.1).2.2.2.1
      have zf' := (box4 T8.out.1).2.2.2.2.2.2.2
      go_upto_region 10 with (fail)
      generalize w7.setCell ⟨lb, 3, none⟩ (.slice (some ⟨gc, oc + past * 3, none⟩) (N - past) (cc - past)) = w8 at *
      obtain ⟨-, l8, m8⟩ := T8.out
      have HNp := hid HYL.out
      have L8 := hid l8
      have M8 := hid m8
      clear l8 m8 T8 z3 z3' zf' zf3 hclr hne OO CC HO3
      obtain ⟨rl, hrl⟩ : ∃ rl, N - past = rl := ⟨_, rfl⟩
      obtain ⟨cl, hcl⟩ : ∃ cl, cc - past = cl := ⟨_, rfl⟩
      have hrl1 : 0 < rl := by have := HHe.out.2; omega
      have hrl3 : (rl : Int) ≤ 1099511627777 := by omega
      rw [hrl] at HNp
      rw [hrl, hcl] at L8 M8
      simp only [hrl, hcl]
      clear hrl hcl k1 k2 k3 k4 k5 pb hcc1 hcc2 hc1 hcfew
      have L8r := hid (show LogM base lb ⟨ix, tm, (es.drop gone), y :: r, .slice (some ⟨g, o2, none⟩) (n - gone) (cap - gone), .slice (some ⟨gc, oc + past * 3, none⟩) (r.length + 1) cl⟩ w8 from by rw [HNp.out]; exact L8.out)
      have T9 := hid (L8r.out.setA index)
      obtain ⟨-, -, -, z3, -, -, -, -⟩ := L8.out.cells
      dsimp only at z3
      have zx : w8.cell? ⟨gc, oc + past * 3, none⟩ = some (.int .i64 y.x) := by obtain ⟨gc', o3', c', e', -, -, q⟩ := L8r.out.conf (by simp); dsimp only at e' q; cases e'; have := (q 0 (by simp)).1; simpa [atP] using this
      have zxf : w8.frozen? ⟨gc, oc + past * 3, none⟩ = false := by obtain ⟨cur, e⟩ := L8r.out.oc.ty gc rfl; exact Go.Joins.unfrozen_of_block e (oc + past * 3)
      go_upto_region 11 with (fail)
      generalize w8.setCell ⟨gc, oc + past * 3, none⟩ (.int .i64 index) = w9 at *
      obtain ⟨l9, m9⟩ := T9.out
      have L9 := hid l9
      have M9 := hid m9
      clear l9 m9 T9 z3 zx zxf
      have T10 := hid (L9.out.setB index tv)
      obtain ⟨z0, z1, -, -, zf0, zf1, -, -⟩ := L9.out.cells
      dsimp only at z0 z1
      go_upto_region 12 with (fail)
      generalize (w9.setCell ⟨lb, 0, none⟩ (.int .i64 index)).setCell ⟨lb, 1, none⟩ (.int .i64 tv) = w10 at *
      obtain ⟨l10, m10⟩ := T10.out
      have L10 := hid l10
      have M10 := hid m10
      clear l10 m10 T10 z0 z1 zf0 zf1
      go_wp2
      go_ret
      refine ⟨rfl, _, ⟨L10.out, HIs.out _ rfl rfl rfl rfl, HOk.out⟩, ?_⟩
      have q := M6.out
      rw [HNc.out] at q
      have m8 := M8.out
      rw [← HNp.out] at m8
      have q2 := ((q.trans m8).trans M9.out).trans M10.out
      rw [HN.out, HNc.out]; exact q2
end Go.Proofs.Ytgpfmohaogppiaa
