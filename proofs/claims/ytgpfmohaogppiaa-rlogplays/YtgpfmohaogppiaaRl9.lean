/- rlog's CutFrom at every log; conditions: it lies in memory. -/
import Derived.Test.YtgpfmohaogppiaaRl8
namespace Go.Proofs.Ytgpfmohaogppiaa
open Go.RowKit Go.Lib
set_option linter.unusedVariables false
set_option linter.unusedSimpArgs false
set_option maxRecDepth 20000
theorem offs (g off c k s : Nat) : ∃ o2, (if c = k then some (⟨g, off, none⟩ : Addr) else some ⟨g, off + k * s, none⟩) = some ⟨g, o2, none⟩ ∧ ((c = k ∧ o2 = off) ∨ o2 = off + k * s) := by
  by_cases h : c = k
  · exact ⟨off, by rw [if_pos h], .inl ⟨h, rfl⟩⟩
  · exact ⟨off + k * s, by rw [if_neg h], .inr rfl⟩
theorem oneE : ∀ u ∈ (Value.agg #[.int .i64 0, .int .i64 0, .int .i64 0, .slice none 0 0]).cells.toList, u.oneCell' = true := by simp [Value.cells, Value.oneCell']
theorem oneP : ∀ u ∈ (Value.agg #[.int .i64 0, .slice none 0 0, .slice none 0 0]).cells.toList, u.oneCell' = true := by simp [Value.cells, Value.oneCell']
theorem run_clear_nilE (w : World) : (Builtin.clear_ #[29] 0 #[.slice none 0 0]).run Try.prog w = .ok (.tuple #[]) w := by
  simp [Builtin.clear_, run_underlying Try.underlying29]
theorem Is.cut {G : Lg} {P : PL} {index : Int} (h : Is G P) (hi : ¬ index ≤ P.ix) (G' : Lg) (e1 : G'.ix = G.ix) (e2 : G'.tm = G.tm) (e3 : G'.es = G.es.take (cutN P index)) (e4 : G'.cs = G.cs.take ((cfs (P.es.take (cutN P index))).length + 1)) : Is G' (cutP P index) := by
  unfold cutP
  rw [if_neg hi]
  refine ⟨e1.trans h.ix, e2.trans h.tm, by rw [e3, pls_take, h.es], ?_, fun y hy => h.sm y (by rw [e4] at hy; exact List.mem_of_mem_take hy)⟩
  rw [e4, List.map_take, h.cs, List.take_succ_cons]
  congr 1
  have e : cfs P.es = cfs (P.es.take (cutN P index)) ++ cfs (P.es.drop (cutN P index)) := by rw [← cfs_app, List.take_append_drop]
  rw [e]
  exact List.take_left
set_option maxHeartbeats 8000000 in
set_option maxRecDepth 20000 in
theorem cut_any (base lb : Nat) (G : Lg) (P : PL) (index : Int) (hI63 : index ≤ 9223372036854775807) (w : World) (h : LogP base lb G P w) :
    Calls Try.prog 12 #[.pointer (some ⟨lb, 0, none⟩), .int .i64 index] w fun e w' => e = .returned (.int .i64 (cutV P index)) ∧ ∃ G', LogP base lb G' (cutP P index) w' ∧ Mov lb w G w' G' := by
  obtain ⟨ix, tm, es, cs, ve, vc⟩ := G
  have HP := hid h
  have hix := h.is.ix
  dsimp only at hix
  by_cases hi : index ≤ ix
  · have d1 : decide (index ≤ ix) = true := decide_eq_true hi
    have e1 : cutV P index = 1 := by unfold cutV; rw [← hix, if_pos hi]
    have e2 : cutP P index = P := by unfold cutP; rw [← hix, if_pos hi]
    obtain ⟨x0, -⟩ := h.m.cells
    dsimp only at x0
    rw [e1, e2]
    clear h hix e1 e2
    go_enter Try.func12, Try.ntmps12
    go_wp2
    go_ret
    exact ⟨rfl, _, HP.out, Mov.refl _ _ _⟩
  · have d1 : decide (index ≤ ix) = false := decide_eq_false hi
    have HI := hid (show ¬ index ≤ P.ix from by rw [← hix]; exact hi)
    have e1 : cutV P index = 0 := by unfold cutV; rw [if_neg HI.out]
    rw [e1]
    have hlen := h.is.len.1
    dsimp only at hlen
    have hclen := h.is.len.2
    dsimp only at hclen
    have HA := hid (ahead_any lb ix tm es.length (entA (es.map En.e)) index w (h.m.s h.lg))
    obtain ⟨left, hl⟩ : ∃ left : Nat, cutN P index = left := ⟨_, rfl⟩
    have hl2 : left ≤ es.length := by rw [← hl, hlen]; unfold cutN; omega
    have hl1 : ahN ix es.length index = (left : Int) := by rw [← hl]; unfold ahN cutN; rw [hlen, hix]; rw [hix] at hi; omega
    rw [hl1] at HA
    have HL := hid hl
    have hsp := h.ok.split left (by rw [← hlen]; exact hl2)
    have hmapc := h.is.cs
    dsimp only at hmapc
    rw [← List.take_append_drop left P.es, cfs_app, ← List.cons_append] at hmapc
    have hidx : (∀ y ∈ (P.ix, P.a, P.b) :: cfs (P.es.take left), y.1 ≤ index - 1) ∧ ∀ y ∈ cfs (P.es.drop left), index - 1 < y.1 := by
      have hb : left = cutN P index := hl.symm
      refine ⟨fun y hy => ?_, fun y hy => ?_⟩
      · have := hsp.1 y hy
        have := HI.out
        unfold cutN at hb
        omega
      · have q := hsp.2 y hy
        have hne : left < P.es.length := by
          have h0 : P.es.drop left ≠ [] := fun e => by rw [e] at hy; cases hy
          have := List.length_pos_iff.2 h0
          rw [List.length_drop] at this
          omega
        have := HI.out
        unfold cutN at hb
        omega
    obtain ⟨hc1, hc2, hc3⟩ := cnt_split hmapc hidx.1 hidx.2
    obtain ⟨held, hh⟩ : ∃ held, (cfs (P.es.take left)).length + 1 = held := ⟨_, rfl⟩
    rw [List.length_cons, hh] at hc1 hc2 hc3
    have hcfew := h.lg.few.2
    have hefew := h.lg.few.1
    dsimp only at hcfew hefew
    have HUp := hid (fun (W : World) (G1 : Lg) (m : LogM base lb G1 W) (ecs : G1.cs = cs) => upTo_any base lb G1 (index - 1) held W m (by rw [ecs]; omega) (by rw [ecs]; exact hcfew) (by rw [ecs]; exact hc1) (by rw [ecs]; exact hc2) (by rw [ecs]; exact hc3))
    have hmx : max 1 held = held := by omega
    rw [hmx] at HUp
    have HIs := hid (fun G' e1 e2 e3 e4 => h.is.cut HI.out G' e1 e2 e3 e4)
    have HOk := hid (cutP_ok h.ok index)
    rw [hl] at HIs
    dsimp only at HIs
    rw [hh] at HIs
    have hix40 := h.ok.i1
    have hi40 := h.ok.i0
    have hbd : (index - 1 : Int) ≤ 9223372036854775807 ∧ -9223372036854775808 ≤ index - 1 ∨ True := .inr trivial
    obtain ⟨x0, x1, x2, x3, f0, f1, f2, f3⟩ := h.m.cells
    dsimp only at x0 x1 x2 x3
    have HIdx := hid (show 0 ≤ index - 1 from by omega)
    have i1 : 0 < index := by omega
    have HH := hid hh
    clear hh hsp hmapc hidx hc2 hc3 hmx hclen hl hix hl1 hi hix40 hi40 hbd e1
    have l1 : (0 : Int) ≤ (left : Int) := by omega
    have l2 : (left : Int) ≤ (es.length : Int) := by omega
    rcases h.m.oe.2 with ⟨e1, hz⟩ | ⟨g, off, cap, cur, e1, hb, hg, hnc, hcm, hcs, htk⟩
    · dsimp only at e1 hz
      subst e1
      have hl0 : left = 0 := by omega
      have HZ := hid hl0
      have HE := hid (List.length_eq_zero_iff.1 hz)
      subst hl0
      clear h hz hlen hl2 l1 l2 hefew
      have hclr := fun (W : World) => run_clear_nilE W
      go_enter Try.func12, Try.ntmps12
      go_upto_region 4 with (go_at_call 33; refine HA.out.mono ?_; rintro e w1 ⟨rfl, o1⟩; have y0 := o1.keep x0; have y2 := o1.keep x2; have O1 := hid o1; clear o1)
      clear x0 x1 x2 x3 f0 f1 f2 f3 HA
      have M1 := hid (HP.out.m.old O1.out)
      have yf := M1.out.cells.2.2.2.2.2.2.1
      have T5 := hid (LogM.setE (es' := es) (v' := .slice none 0 0) M1.out (Chg.refl _ _) M1.out.oe (fun x hx => hx) rfl)
      go_upto_region 6 with (fail)
      generalize w1.setCell ⟨lb, 2, none⟩ (.slice none 0 0) = w5 at *
      obtain ⟨-, l5, m5⟩ := T5.out
      have L5 := hid l5
      have M5 := hid ((Mov.old O1.out).trans m5)
      clear l5 m5 T5 M1 y0 y2 yf hclr O1
      have HEs := hid (show es = es.take 0 from by rw [HE.out]; rfl)
      have HU := hid (HUp.out w5 _ L5.out rfl)
      go_upto_region 7 with (go_at_call 34; refine HU.out.mono ?_; rintro e w6 ⟨rfl, o6⟩; have O6 := hid o6; clear o6)
      have L6 := hid (L5.out.old O6.out)
      have M6 := hid (M5.out.trans (Mov.old O6.out))
      clear L5 M5 O6 HU HUp
      obtain ⟨gc, oc, cc, evc, hcc1, hcc2, -⟩ := L6.out.conf (by have := HH.out; dsimp only; omega)
      dsimp only at evc hcc1
      subst evc
      obtain ⟨-, -, -, z3, -, -, -, zf3⟩ := L6.out.cells
      dsimp only at z3
      obtain ⟨o3, hoe3, ho3⟩ := offs gc oc cc held 3
      have HO3 := hid ho3
      clear ho3
      obtain ⟨N, hN⟩ : ∃ N, cs.length = N := ⟨_, rfl⟩
      have HNc := hid hN
      have HHe := hid (show held ≤ N from by rw [← hN]; exact hc1)
      have L6n := hid (show LogM base lb ⟨ix, tm, es, cs, .slice none 0 0, .slice (some ⟨gc, oc, none⟩) N cc⟩ w6 from by rw [← hN]; exact L6.out)
      rw [hN] at z3 hcc1 hc1 hcfew
      clear hN
      have k1 : (0 : Int) ≤ (held : Int) := by omega
      have k2 : (held : Int) ≤ (N : Int) := by omega
      have k3 : (N : Int) ≤ (cc : Int) := by omega
      have k4 : (cc : Int) ≤ 9223372036854775807 := by omega
      obtain ⟨i0, hi0, hz0, hz1, hz2⟩ := info_parts infoPlc
      obtain ⟨w7, hclr, oo, ch⟩ := clear_tail (P := Try.prog) w6 base 66 65 i0 _ 3 Try.underlying66 hi0 hz0 rfl (by decide) oneP gc oc N cc (pcs cs) (by have := L6n.out.oc; dsimp only at this; rw [HNc.out] at this; exact this) held HHe.out o3 HO3.out
      have OO := hid (show OwnOff base 65 3 w7 (.slice (some ⟨gc, oc, none⟩) held cc) (cs.take held).length (pcs (cs.take held)) from by rw [List.length_take, HNc.out, Nat.min_eq_left HHe.out, ← pcs_take]; exact oo)
      have CC := hid ch
      clear oo ch hi0 hz0 hz1 hz2
      have T8 := hid (LogM.setC (cs' := cs.take held) (v' := .slice (some ⟨gc, oc, none⟩) held cc) L6n.out CC.out OO.out (fun x hx => List.mem_of_mem_take hx) rfl)
      have z3' := (box4 T8.out.1).2.2.2.1
      have zf' := (box4 T8.out.1).2.2.2.2.2.2.2
      go_upto_region 9 with (fail)
      generalize w7.setCell ⟨lb, 3, none⟩ (.slice (some ⟨gc, oc, none⟩) held cc) = w8 at *
      obtain ⟨-, l8, m8⟩ := T8.out
      have L8 := hid l8
      have M8 := hid m8
      clear l8 m8 T8 z3 z3' zf' zf3 hclr hoe3 OO CC
      go_wp2
      go_ret
      refine ⟨rfl, _, ⟨L8.out, HIs.out _ rfl rfl HEs.out rfl, HOk.out⟩, ?_⟩
      have q := M6.out
      rw [HNc.out] at q
      have q2 := q.trans M8.out
      rw [HNc.out]; exact q2
    · dsimp only at e1 hnc
      subst e1
      have l3 : (es.length : Int) ≤ (cap : Int) := by omega
      have l4 : (cap : Int) ≤ 9223372036854775807 := by unfold maxLen at hcm; omega
      clear h hb hg hnc hcm hcs htk hlen
      obtain ⟨o2, hoe, ho⟩ := offs g off cap left 4
      have HO := hid ho
      have HLn := hid hl2
      clear ho hl2
      obtain ⟨n, hn⟩ : ∃ n, es.length = n := ⟨_, rfl⟩
      have HN := hid hn
      have HPn := hid (show LogP base lb ⟨ix, tm, es, cs, .slice (some ⟨g, off, none⟩) n cap, vc⟩ P w from by rw [← hn]; exact HP.out)
      rw [hn] at x2 l2 l3 hefew HLn
      clear hn
      go_enter Try.func12, Try.ntmps12
      go_upto_region 4 with (go_at_call 33; refine HA.out.mono ?_; rintro e w1 ⟨rfl, o1⟩; have y0 := o1.keep x0; have y2 := o1.keep x2; have O1 := hid o1; clear o1)
      clear x0 x1 x2 x3 f0 f1 f2 f3 HA
      have M1 := hid (HPn.out.m.old O1.out)
      obtain ⟨i0, hi0, hz0, hz1, hz2⟩ := info_parts infoEnt
      obtain ⟨w2, hclr, oo, cc⟩ := clear_tail (P := Try.prog) w1 base 29 41 i0 _ 4 Try.underlying29 hi0 hz0 rfl (by decide) oneE g off n cap (ecs (es.map En.e)) (by have := M1.out.oe; dsimp only at this; rw [HN.out] at this; exact this) left HLn.out o2 HO.out
      have OO := hid (show OwnOff base 41 4 w2 (.slice (some ⟨g, off, none⟩) left cap) (es.take left).length (ecs ((es.take left).map En.e)) from by rw [List.length_take, HN.out, Nat.min_eq_left HLn.out, List.map_take, ← ecs_take]; exact oo)
      have CC := hid cc
      clear oo cc hi0 hz0 hz1 hz2
      have T5 := hid (LogM.setE (es' := es.take left) (v' := .slice (some ⟨g, off, none⟩) left cap) M1.out CC.out OO.out (fun x hx => List.mem_of_mem_take hx) rfl)
      have z2 := (box4 T5.out.1).2.2.1
      have zf := (box4 T5.out.1).2.2.2.2.2.2.1
      go_upto_region 6 with (fail)
      generalize w2.setCell ⟨lb, 2, none⟩ (.slice (some ⟨g, off, none⟩) left cap) = w5 at *
      obtain ⟨-, l5, m5⟩ := T5.out
      have L5 := hid l5
      have M5 := hid ((show Mov lb w ⟨ix, tm, es, cs, .slice (some ⟨g, off, none⟩) n cap, vc⟩ w1 ⟨ix, tm, es, cs, .slice (some ⟨g, off, none⟩) n cap, vc⟩ from Mov.old O1.out).trans m5)
      clear l5 m5 T5 M1 y0 y2 z2 zf hclr O1 OO CC HO hoe
      have HEs := hid (show es.take left = es.take left from rfl)
      have HU := hid (HUp.out w5 _ L5.out rfl)
      go_upto_region 7 with (go_at_call 34; refine HU.out.mono ?_; rintro e w6 ⟨rfl, o6⟩; have O6 := hid o6; clear o6)
      have L6 := hid (L5.out.old O6.out)
      have M6 := hid (M5.out.trans (Mov.old O6.out))
      clear L5 M5 O6 HU HUp
      obtain ⟨gc, oc, cc, evc, hcc1, hcc2, -⟩ := L6.out.conf (by have := HH.out; dsimp only; omega)
      dsimp only at evc hcc1
      subst evc
      obtain ⟨-, -, -, z3, -, -, -, zf3⟩ := L6.out.cells
      dsimp only at z3
      obtain ⟨o3, hoe3, ho3⟩ := offs gc oc cc held 3
      have HO3 := hid ho3
      clear ho3
      obtain ⟨N, hN⟩ : ∃ N, cs.length = N := ⟨_, rfl⟩
      have HNc := hid hN
      have HHe := hid (show held ≤ N from by rw [← hN]; exact hc1)
      have L6n := hid (show LogM base lb ⟨ix, tm, (es.take left), cs, .slice (some ⟨g, off, none⟩) left cap, .slice (some ⟨gc, oc, none⟩) N cc⟩ w6 from by rw [← hN]; exact L6.out)
      rw [hN] at z3 hcc1 hc1 hcfew
      clear hN
      have k1 : (0 : Int) ≤ (held : Int) := by omega
      have k2 : (held : Int) ≤ (N : Int) := by omega
      have k3 : (N : Int) ≤ (cc : Int) := by omega
      have k4 : (cc : Int) ≤ 9223372036854775807 := by omega
      obtain ⟨i0, hi0, hz0, hz1, hz2⟩ := info_parts infoPlc
      obtain ⟨w7, hclr, oo, ch⟩ := clear_tail (P := Try.prog) w6 base 66 65 i0 _ 3 Try.underlying66 hi0 hz0 rfl (by decide) oneP gc oc N cc (pcs cs) (by have := L6n.out.oc; dsimp only at this; rw [HNc.out] at this; exact this) held HHe.out o3 HO3.out
      have OO := hid (show OwnOff base 65 3 w7 (.slice (some ⟨gc, oc, none⟩) held cc) (cs.take held).length (pcs (cs.take held)) from by rw [List.length_take, HNc.out, Nat.min_eq_left HHe.out, ← pcs_take]; exact oo)
      have CC := hid ch
      clear oo ch hi0 hz0 hz1 hz2
      have T8 := hid (LogM.setC (cs' := cs.take held) (v' := .slice (some ⟨gc, oc, none⟩) held cc) L6n.out CC.out OO.out (fun x hx => List.mem_of_mem_take hx) rfl)
      have z3' := (box4 T8.out.1).2.2.2.1
      have zf' := (box4 T8.out.1).2.2.2.2.2.2.2
      go_upto_region 9 with (fail)
      generalize w7.setCell ⟨lb, 3, none⟩ (.slice (some ⟨gc, oc, none⟩) held cc) = w8 at *
      obtain ⟨-, l8, m8⟩ := T8.out
      have L8 := hid l8
      have M8 := hid m8
      clear l8 m8 T8 z3 z3' zf' zf3 hclr hoe3 OO CC
      go_wp2
      go_ret
      refine ⟨rfl, _, ⟨L8.out, HIs.out _ rfl rfl rfl rfl, HOk.out⟩, ?_⟩
      have q := M6.out
      rw [HNc.out] at q
      have q2 := q.trans M8.out
      rw [HN.out, HNc.out]; exact q2
end Go.Proofs.Ytgpfmohaogppiaa
