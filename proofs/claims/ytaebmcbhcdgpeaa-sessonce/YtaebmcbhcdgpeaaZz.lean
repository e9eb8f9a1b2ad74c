/- The law SessOnce at every row of Puts; conditions: the row lies in memory. -/
import Derived.Test.YtaebmcbhcdgpeaaZy
namespace Go.Proofs.Ytaebmcbhcdgpeaa
open Go.RowKit Go.Lib
set_option linter.unusedVariables false
set_option linter.unusedSimpArgs false
set_option maxRecDepth 20000
/-- A Put in a box. -/
abbrev OpB (m : Nat) (p : Opv) (w : World) : Prop := w.cell? ⟨m, 0, none⟩ = some (.int .i64 p.s) ∧ w.cell? ⟨m, 1, none⟩ = some (.int .i64 p.x.n) ∧ w.cell? ⟨m, 2, none⟩ = some (.int .i64 p.x.c) ∧ w.cell? ⟨m, 3, none⟩ = some (.int .i64 p.x.m)
theorem OpB.old {m : Nat} {p : Opv} {w w' : World} (u : Old w w') (h : OpB m p w) : OpB m p w' := ⟨u.keep h.1, u.keep h.2.1, u.keep h.2.2.1, u.keep h.2.2.2⟩
theorem op_new (w : World) (p : Opv) (w1 : World) (e : w.alloc (.cells #[.int .i64 p.s, .int .i64 p.x.n, .int .i64 p.x.c, .int .i64 p.x.m] 40) = w1) (m : Nat) (hm : w.heap.size = m) : OpB m p w1 ∧ Old w w1 ∧ m < w1.heap.size := by
  subst e hm
  exact ⟨⟨by simp, by simp, by simp, by simp⟩, (Old.refl w).alloc _, by simp⟩
set_option maxHeartbeats 8000000 in
set_option maxRecDepth 20000 in
theorem onceLaw (v : Value) (n : Nat) (f : Nat → Opv) (p : Opv) (hp : OpN p) (w : World) (hv : ORow w v n f) : Calls Try.prog 5 #[v, .agg #[.int .i64 p.s, .int .i64 p.x.n, .int .i64 p.x.c, .int .i64 p.x.m]] w fun e w' => e = .returned (.bool true) ∧ Old w w' := by
  obtain ⟨hm, a, c, rfl, hnc, hc⟩ := hv
  have HC := hid hc
  have l0 : (n : Int) ≤ 9223372036854775807 := by omega
  have HNp := hid hp
  clear hc hm hnc hp
  go_enter Try.func5, Try.ntmps5
  go_upto_region 1 with fail
  generalize hw1 : w.alloc (.cells #[.int .i64 p.s, .int .i64 p.x.n, .int .i64 p.x.c, .int .i64 p.x.m] 40) = w1 at *
  obtain ⟨hb1, hu1, hl1⟩ := op_new w p w1 hw1 _ rfl
  generalize w.heap.size = fb at *
  have B1 := hid hb1
  have U1 := hid hu1
  clear hw1 hb1 hu1 hl1
  go_upto_region 4 with (first | (go_at_call 9; refine (newT_any _).mono ?_; rintro e w2 ⟨tb, mb, rfl, t2⟩; have T2 := hid t2; clear t2) | (go_at_call 10; refine (alive_any _).mono ?_; rintro e w3 ⟨rfl, u3⟩; have T3 := hid (T2.out.up u3); clear u3))
  clear T2
  obtain ⟨x0, x1, x2, x3⟩ := OpB.old T3.out.old B1.out
  have HP := hid (putT_any w1 tb _ [] (fun _ => []) p.s p.x w3 T3.out HNp.out.1 HNp.out.2)
  have HF := hid (fun (h : putC [] (fun _ => []) p.s p.x = 0) => Once.first h)
  generalize hpc : putC [] (fun _ => []) p.s p.x = pc at *
  clear hpc
  by_cases h0 : pc = 0
  · subst h0
    obtain ⟨hO, hg, hs, hq⟩ := HF.out rfl
    clear HF
    go_upto_region 6 with (go_at_call 11; refine HP.out.mono ?_; rintro e w4 ⟨rfl, h4⟩; obtain ⟨_, Bs4, t4, _, _⟩ := h4.resolve_left (fun q => q.1 rfl); have T4 := hid t4; clear h4 t4)
    clear HP T3 x0 x1 x2 x3
    have HO := hid hO
    have HG := hid hg
    have HS := hid hs
    have HQ := hid hq
    clear hO hg hs hq
    generalize putK [] p.s = ks0 at *
    generalize putL (fun _ => []) p.s (nextS p.x []) = L0 at *
    go_wp2
    go_loopw [6, 33] (fun g i wr => ∃ (k : Nat) (Bs : List Nat) (ks : List Int) (L : Int → List It), k ≤ n ∧ g = .bool (goneB L p.s p.x) ∧ i = .int .i64 (k : Nat) ∧ Tab w1 wr tb Bs ks L ∧ Once ks L p.s p.x) (fun _ i _ => n - (intOf i).toNat)
    case atStart => exact ⟨0, Bs4, ks0, L0, Nat.zero_le _, by rw [HG.out], rfl, T4.out, HO.out⟩
    case round =>
      obtain ⟨k, Bs, ks, L, hk, rfl, rfl, hT, hO⟩ := hrel
      clear HO HG T4
      have T := hid hT
      have HO := hid hO
      clear hT hO
      by_cases hlt : k < n
      · obtain ⟨b, off, ea, hN, hI⟩ := HC.out k hlt
        subst ea
        obtain ⟨z0, z1, z2, z3⟩ := hI.old (U1.out.trans T.out.old)
        have HNo := hid hN
        have l1 : (0 : Int) ≤ (k : Int) := by omega
        have l2 : (k : Int) < (n : Int) := by omega
        clear hI hN HC
        generalize f k = op at *
        go_upto_region 10 with fail
        generalize hw5 : wr.alloc (.cells #[.int .i64 op.s, .int .i64 op.x.n, .int .i64 op.x.c, .int .i64 op.x.m] 40) = w5 at *
        obtain ⟨hb5, hu5, hl5⟩ := op_new wr op w5 hw5 _ rfl
        have A5 := hid (show Apart w5 wr.heap.size Bs from by have q := Apart.new T.out (.cells #[.int .i64 op.s, .int .i64 op.x.n, .int .i64 op.x.c, .int .i64 op.x.m] 40); rw [hw5] at q; exact q)
        generalize wr.heap.size = ob at *
        have B5 := hid hb5
        have T5 := hid (T.out.up hu5)
        clear hw5 hb5 hu5 hl5 T z0 z1 z2 z3
        have HPo := hid (putT_any w1 tb Bs ks L op.s op.x w5 T5.out HNo.out.1 HNo.out.2)
        obtain ⟨y0, y1, y2, y3⟩ := OpB.old (Old.refl w5) B5.out
        have HAll := hid (show ∀ (w6 : World), ((putC ks L op.s op.x ≠ 0 ∧ Old w5 w6) ∨ (putC ks L op.s op.x = 0 ∧ ∃ Bs', Tab w1 w6 tb Bs' (putK ks op.s) (putL L op.s (nextS op.x (L op.s))) ∧ Chg Bs w5 w6 ∧ ∀ m, Apart w5 m Bs → Apart w6 m Bs')) → ∃ Bs' ks' L', Tab w1 w6 tb Bs' ks' L' ∧ Once ks' L' p.s p.x ∧ (goneB L p.s p.x = true → goneB L' p.s p.x = true) ∧ OpB ob op w6 from fun w6 h => by
          rcases h with ⟨_, u⟩ | ⟨q, Bs', t, cg, _⟩
          · exact ⟨Bs, ks, L, T5.out.up u, HO.out, id, OpB.old u B5.out⟩
          · obtain ⟨o1, o2⟩ := HO.out.put T5.out.ok q
            exact ⟨Bs', _, _, t, o1, o2, cg.cell B5.out.1 A5.out.2, cg.cell B5.out.2.1 A5.out.2, cg.cell B5.out.2.2.1 A5.out.2, cg.cell B5.out.2.2.2 A5.out.2⟩)
        go_upto_region 11 with (go_at_call 11; refine HPo.out.mono ?_; rintro e w6 ⟨rfl, h6⟩; obtain ⟨Bs6, ks6, L6, t6, o6, m6, b6⟩ := HAll.out w6 h6; have T6 := hid t6; have O6 := hid o6; have M6 := hid m6; have B6 := hid b6; clear h6 t6 o6 m6 b6)
        clear HPo HAll A5 B5 T5 HO y0 y1 y2 y3
        generalize putC ks L op.s op.x = pco at *
        generalize goneB L p.s p.x = gone at *
        obtain ⟨hg1, hg2⟩ := O6.out.look T6.out.ok HS.out HQ.out
        have HLk := hid (look_any tb Bs6 ks6 L6 p.s p.x.n w6 T6.out.tab T6.out.ok HNp.out.1 HNp.out.2)
        have HPf := hid (fun (W : World) (u : Old w6 W) => putT_any w1 tb Bs6 ks6 L6 p.s ⟨p.x.n, op.x.c, op.x.m⟩ W (T6.out.up u) HNp.out.1 HNp.out.2)
        have HPc : Hid (putC ks6 L6 p.s ⟨p.x.n, op.x.c, op.x.m⟩ = if lookC ks6 L6 p.s p.x.n = 0 then (if (outB op.x.c 0 999 || outB op.x.m 0 1099511627776) = true then 1 else 0) else lookC ks6 L6 p.s p.x.n) := hid rfl
        have HHi := hid (fun (W : World) (u : Old w6 W) => high_any tb Bs6 ks6 L6 p.s W (T6.out.tab.old u) T6.out.ok HNp.out.1)
        have hhi := T6.out.ok.hi p.s
        have HGe : Hid (goneB L6 p.s p.x = decide (p.x.n ≤ hiL (L6 p.s) - 8)) := hid rfl
        obtain ⟨x0, x1, x2, x3⟩ := OpB.old T6.out.old B1.out
        generalize hgb : goneB L6 p.s p.x = g6 at *
        have HGb := hid hgb
        clear hgb
        cases g6
        · skip
          obtain ⟨hc, hlv⟩ := hg1 rfl
          rw [hc, hlv] at HLk
          rw [hc] at HPc
          have hgo : gone = false := by cases e : gone; rfl; (have := M6.out e; cases this)
          subst hgo
          simp only [show ¬ ((5 : Int) = 0) from by decide, if_false] at HPc
          rw [HPc.out] at HPf
          clear hg1 hg2 hc M6 HPc
          go_upto_region 12 with (go_at_call 14; refine HLk.out.mono ?_; rintro e w7 ⟨rfl, u7⟩; have U7 := hid u7; clear u7)
          generalize hw8 : w7.alloc (.cells #[.int .i64 p.x.c, .int .i64 p.x.m] 28) = w8 at *
          obtain ⟨hv8, _, hu8⟩ := verd_new w7 p.x.c p.x.m w8 hw8 _ rfl
          generalize w7.heap.size = vb at *
          have V8 := hid hv8
          have U8 := hid (U7.out.trans hu8)
          clear hw8 hv8 hu8 U7 HLk x0 x1 x2 x3
          obtain ⟨x0, x1, x2, x3⟩ := OpB.old (T6.out.old.trans U8.out) B1.out
          obtain ⟨y0, y1, y2, y3⟩ := OpB.old U8.out B6.out
          go_upto_region 14 with (go_at_call 11; refine (HPf.out _ U8.out).mono ?_; rintro e w9 ⟨rfl, h9⟩; have hu9 : Old w8 w9 := (h9.resolve_right (fun q => absurd q.1 (by decide))).2; have U9 := hid (U8.out.trans hu9); have V9 := hid (show w9.cell? ⟨vb, 0, none⟩ = some (.int .i64 p.x.c) ∧ w9.cell? ⟨vb, 1, none⟩ = some (.int .i64 p.x.m) from ⟨hu9.keep V8.out.1, hu9.keep V8.out.2⟩); clear h9 hu9)
          clear x0 x1 x2 x3 y0 y1 y2 y3 HPf V8 U8 B6
          have HB9 := hid (OpB.old (T6.out.old.trans U9.out) B1.out)
          obtain ⟨x0, x1, x2, x3⟩ := OpB.old (Old.refl w9) HB9.out
          obtain ⟨v8, v9⟩ := V9.out
          have HH9 := hid (fun (W : World) (u : Old w9 W) => HHi.out W (U9.out.trans u))
          clear HHi
          generalize hiL (L6 p.s) = hi at *
          have lw : IntKind.i64.wrap (hi - 8) = hi - 8 := IntWalk.i64_in _ (by omega)
          have gq : ¬ p.x.n ≤ hi - 8 := by have := HGe.out; simpa using this.symm
          clear HGe
          go_upto_region 18 with fail
          clear x0 x1 x2 x3 v8 v9
          go_region_held3 (OpB fb p) (first | assumption | exact HB9.out | (refine OpB.old ?_ HB9.out; assumption)) (first | (go_at_call 12; refine (HH9.out _ ((Old.refl _).drew)).mono ?_; rintro e wa ⟨rfl, va⟩; have UA : Old w9 wa := ((Old.refl _).drew).trans va))
          have TA := hid (T6.out.up (U9.out.trans UA))
          clear UA
          go_wp2
          go_roundw
          case rel => exact ⟨k + 1, Bs6, ks6, L6, hlt, by rw [HGb.out], by go_num, TA.out, O6.out⟩
          case measure => simp [intOf]; omega
        · skip
          have hc := hg2 rfl
          generalize hlv : lookV L6 p.s p.x.n = lv at *
          obtain ⟨v1, v2⟩ := lv
          simp only at HLk
          clear hlv
          rw [hc] at HLk HPc
          simp only [show ¬ ((130 : Int) = 0) from by decide, if_false] at HPc
          rw [HPc.out] at HPf
          clear hg1 hg2 hc M6 HPc
          go_upto_region 12 with (go_at_call 14; refine HLk.out.mono ?_; rintro e w7 ⟨rfl, u7⟩; have U7 := hid u7; clear u7)
          generalize hw8 : w7.alloc (.cells #[.int .i64 v1, .int .i64 v2] 28) = w8 at *
          obtain ⟨hv8, _, hu8⟩ := verd_new w7 v1 v2 w8 hw8 _ rfl
          generalize w7.heap.size = vb at *
          have V8 := hid hv8
          have U8 := hid (U7.out.trans hu8)
          clear hw8 hv8 hu8 U7 HLk x0 x1 x2 x3
          obtain ⟨x0, x1, x2, x3⟩ := OpB.old (T6.out.old.trans U8.out) B1.out
          obtain ⟨y0, y1, y2, y3⟩ := OpB.old U8.out B6.out
          go_upto_region 14 with (go_at_call 11; refine (HPf.out _ U8.out).mono ?_; rintro e w9 ⟨rfl, h9⟩; have hu9 : Old w8 w9 := (h9.resolve_right (fun q => absurd q.1 (by decide))).2; have U9 := hid (U8.out.trans hu9); have V9 := hid (show w9.cell? ⟨vb, 0, none⟩ = some (.int .i64 v1) ∧ w9.cell? ⟨vb, 1, none⟩ = some (.int .i64 v2) from ⟨hu9.keep V8.out.1, hu9.keep V8.out.2⟩); clear h9 hu9)
          clear x0 x1 x2 x3 y0 y1 y2 y3 HPf V8 U8 B6
          have HB9 := hid (OpB.old (T6.out.old.trans U9.out) B1.out)
          obtain ⟨x0, x1, x2, x3⟩ := OpB.old (Old.refl w9) HB9.out
          obtain ⟨v8, v9⟩ := V9.out
          have HH9 := hid (fun (W : World) (u : Old w9 W) => HHi.out W (U9.out.trans u))
          clear HHi
          generalize hiL (L6 p.s) = hi at *
          have lw : IntKind.i64.wrap (hi - 8) = hi - 8 := IntWalk.i64_in _ (by omega)
          have gq :  p.x.n ≤ hi - 8 := by have := HGe.out; simpa using this.symm
          clear HGe
          go_upto_region 18 with fail
          clear x0 x1 x2 x3 v8 v9
          go_region_held3 (OpB fb p) (first | assumption | exact HB9.out | (refine OpB.old ?_ HB9.out; assumption)) (first | (go_at_call 12; refine (HH9.out _ ((Old.refl _).drew)).mono ?_; rintro e wa ⟨rfl, va⟩; have UA : Old w9 wa := ((Old.refl _).drew).trans va))
          have TA := hid (T6.out.up (U9.out.trans UA))
          clear UA
          go_wp2
          go_roundw
          case rel => exact ⟨k + 1, Bs6, ks6, L6, hlt, by rw [HGb.out], by go_num, TA.out, O6.out⟩
          case measure => simp [intOf]; omega
      · obtain rfl : n = k := by omega
        clear HC HO
        generalize goneB L p.s p.x = gone at *
        go_wp2
        go_ret
        exact ⟨rfl, U1.out.trans T.out.old⟩
  · have q1 : (pc == 0) = false := by rw [beq_eq_false_iff_ne]; exact h0
    have q2 : (pc != 0) = true := by rw [bne_iff_ne]; exact h0
    clear HF HC
    have HSe := hid (fun (W : World) (u : Old w3 W) => sessions_any tb _ [] (fun _ => []) W (T3.out.tab.old u) T3.out.ok)
    go_wp2_with (first | (go_at_call 11; refine HP.out.mono ?_; rintro e w4 ⟨rfl, h4⟩; have U4 := hid (show Old w3 w4 from (h4.resolve_right (fun q => h0 q.1)).2); clear h4) | (go_at_call 15; refine (HSe.out _ U4.out).mono ?_; rintro e w5 ⟨v5, S, rfl, p5, _, o5, u5⟩; have eS := List.perm_nil.1 p5; subst eS; obtain ⟨pe, ce, ee⟩ := o5.len; subst ee; have U5 := hid (U4.out.trans u5); clear o5 u5 p5))
    go_ret
    exact ⟨rfl, U1.out.trans (T3.out.old.trans U5.out)⟩
end Go.Proofs.Ytaebmcbhcdgpeaa
