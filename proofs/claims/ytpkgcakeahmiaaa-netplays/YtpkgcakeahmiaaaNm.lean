/- The law NetPlays: its walk; conditions: the script lies in memory. -/
import Derived.Test.YtpkgcakeahmiaaaNh
import Derived.Test.YtpkgcakeahmiaaaNl
namespace Go.Proofs.Ytpkgcakeahmiaaa
open Go.RowKit Go.Lib Go.ChangeShapes Go.WideShapes
set_option linter.unusedVariables false
set_option linter.unusedSimpArgs false
set_option maxRecDepth 20000
theorem Net.chgT {w0 W W' : World} {nb most b : Nat} {P : List PL} {cs : Array Value} (h : Net w0 W nb most P []) (ch : Chg [b] W W') (hb : W.heap[b]? = some (.cells cs 46 (0, 0))) (hw : w0.heap.size ≤ b) : Net w0 W' nb most P [] := by
  obtain ⟨d, e1, e2, e3, h4, h5, h6, h7⟩ := h
  have ha := h4.apart hb (by decide) (by decide)
  exact ⟨d, e1, e2, e3, h4.chg ch (fun k => ha (by simp at k; rw [← k]; exact Nt.mem.2 (.inl rfl))) (fun g eg k => ha (by simp at k; rw [← k]; exact Nt.mem.2 (.inr eg))) (fun y hy g eg => (h4.byt y hy).1.offT hb (by decide) g eg), h5, ch.oldOf h6 (fun k hk => by simp at hk; rw [hk]; exact hw), fun g hg => by cases hg⟩
/-- The net and the document's net beside it. -/
structure PA (w wr : World) (nb bm most : Nat) (a : Option Addr) (c : Nat) (Y : List Lt) (P : List PL) : Prop where
  net : Net w wr nb most P []
  doc : DocAt w wr (.slice a Y.length c) Y
  box : wr.heap[bm]? = some (.cells #[.int .i64 (most : Nat), .slice a Y.length c] 46 (0, 0))
  new : w.heap.size ≤ bm
  eq : Y.map Lt.p = P
theorem PA.old {w wr w' : World} {nb bm most : Nat} {a : Option Addr} {c : Nat} {Y : List Lt} {P : List PL} (h : PA w wr nb bm most a c Y P) (u : Old wr w') : PA w w' nb bm most a c Y P := ⟨h.net.old u, h.doc.old u, u.block h.box, h.new, h.eq⟩
theorem PA.set {w wr : World} {nb bm most : Nat} {cs : Array Value} {a2 : Option Addr} {c2 : Nat} {Y2 : List Lt} {P2 : List PL} {x y : Value} (hn : Net w wr nb most P2 []) (hb : wr.heap[bm]? = some (.cells #[x, y] 46 (0, 0))) (hw : w.heap.size ≤ bm) (hD : DocAt w wr (.slice a2 Y2.length c2) Y2) (hP : Y2.map Lt.p = P2) : PA w ((wr.setCell ⟨bm, 0, none⟩ (.int .i64 (most : Nat))).setCell ⟨bm, 1, none⟩ (.slice a2 Y2.length c2)) nb bm most a2 c2 Y2 P2 := by
  have ch := chg2 wr bm (.int .i64 (most : Nat)) (.slice a2 Y2.length c2)
  refine ⟨hn.chgT ch hb hw, ⟨hD.row.chg ch (fun g e k => ?_), fun y hy => ⟨(hD.byt y hy).1.chgT ch hb, (hD.byt y hy).2⟩⟩, Go.Joins.block_setCell (Go.Joins.block_setCell hb _ (i := 0)) _ (i := 1), hw, hP⟩
  simp at k
  subst k
  rcases hD.row.cases with ⟨q, _⟩ | ⟨g', cap, cur, q, _, hg, _⟩
  · rw [q] at e; cases e
  · rw [q] at e
    simp [Value.ownBlock] at e
    subst e
    rw [hb] at hg
    simp at hg
theorem PS.old {bm bo : Nat} {x0 x1 y0 y1 y2 y3 y4 y5 : Value} {w w' : World} (o : Old w w') (h : (w.cell? ⟨bm, 0, none⟩ = some x0 ∧ w.cell? ⟨bm, 1, none⟩ = some x1) ∧ w.cell? ⟨bo, 0, none⟩ = some y0 ∧ w.cell? ⟨bo, 1, none⟩ = some y1 ∧ w.cell? ⟨bo, 2, none⟩ = some y2 ∧ w.cell? ⟨bo, 3, none⟩ = some y3 ∧ w.cell? ⟨bo, 4, none⟩ = some y4 ∧ w.cell? ⟨bo, 5, none⟩ = some y5) : (w'.cell? ⟨bm, 0, none⟩ = some x0 ∧ w'.cell? ⟨bm, 1, none⟩ = some x1) ∧ w'.cell? ⟨bo, 0, none⟩ = some y0 ∧ w'.cell? ⟨bo, 1, none⟩ = some y1 ∧ w'.cell? ⟨bo, 2, none⟩ = some y2 ∧ w'.cell? ⟨bo, 3, none⟩ = some y3 ∧ w'.cell? ⟨bo, 4, none⟩ = some y4 ∧ w'.cell? ⟨bo, 5, none⟩ = some y5 :=
  ⟨⟨o.keep h.1.1, o.keep h.1.2⟩, o.keep h.2.1, o.keep h.2.2.1, o.keep h.2.2.2.1, o.keep h.2.2.2.2.1, o.keep h.2.2.2.2.2.1, o.keep h.2.2.2.2.2.2⟩
theorem T7.old {b9 b12 bm : Nat} {x0 x1 x2 y0 y1 y2 z : Value} {w w' : World} (o : Old w w') (h : (w.cell? ⟨b9, 0, none⟩ = some x0 ∧ w.cell? ⟨b9, 1, none⟩ = some x1 ∧ w.cell? ⟨b9, 2, none⟩ = some x2) ∧ (w.cell? ⟨b12, 0, none⟩ = some y0 ∧ w.cell? ⟨b12, 1, none⟩ = some y1 ∧ w.cell? ⟨b12, 2, none⟩ = some y2) ∧ w.cell? ⟨bm, 1, none⟩ = some z) : (w'.cell? ⟨b9, 0, none⟩ = some x0 ∧ w'.cell? ⟨b9, 1, none⟩ = some x1 ∧ w'.cell? ⟨b9, 2, none⟩ = some x2) ∧ (w'.cell? ⟨b12, 0, none⟩ = some y0 ∧ w'.cell? ⟨b12, 1, none⟩ = some y1 ∧ w'.cell? ⟨b12, 2, none⟩ = some y2) ∧ w'.cell? ⟨bm, 1, none⟩ = some z := ⟨⟨o.keep h.1.1, o.keep h.1.2.1, o.keep h.1.2.2⟩, ⟨o.keep h.2.1.1, o.keep h.2.1.2.1, o.keep h.2.1.2.2⟩, o.keep h.2.2⟩
theorem stepAllocN {ops : Array Oper} {o : Oper} {a : Act} {w : World} {K : Act → World → Prop} {Q : Exit → Act → World → Prop} {E : Prop} (hg : o.guard = none) (hop : o.op = Op.alloc 46)
    (hK : ∀ m w', m = w.heap.size → w' = w.alloc (.cells #[.int .i64 0, .slice none 0 0] 46) → K (a.put o.dst (.pointer (some ⟨m, 0, none⟩))) w') :
    if Region.wanted o (yielded ops a.tmps) = true then Oper.wp Try.prog o a w K Q else E := by
  have hw : Region.wanted o (yielded ops a.tmps) = true := by simp [Region.wanted, hg]
  rw [if_pos hw]
  obtain ⟨d, p, t, ps, af, gd⟩ := o
  subst hop
  unfold Oper.wp execOp
  go_simp
  exact hK _ _ rfl rfl
theorem stepAllocR {ops : Array Oper} {o : Oper} {a : Act} {w : World} {K : Act → World → Prop} {Q : Exit → Act → World → Prop} {E : Prop} (hg : o.guard = none) (hop : o.op = Op.alloc 48)
    (hK : ∀ m w', m = w.heap.size → w' = w.alloc (.cells #[.int .i64 0, .int .i64 0, .slice none 0 0] 48) → K (a.put o.dst (.pointer (some ⟨m, 0, none⟩))) w') :
    if Region.wanted o (yielded ops a.tmps) = true then Oper.wp Try.prog o a w K Q else E := by
  have hw : Region.wanted o (yielded ops a.tmps) = true := by simp [Region.wanted, hg]
  rw [if_pos hw]
  obtain ⟨d, p, t, ps, af, gd⟩ := o
  subst hop
  unfold Oper.wp execOp
  go_simp
  exact hK _ _ rfl rfl
theorem blk_lt {w : World} {b : Nat} {o : Obj} (h : w.heap[b]? = some o) : b < w.heap.size := (Array.getElem?_eq_some_iff.1 h).1
def BlkU (w : World) (g cap : Nat) : Prop := ∃ cur, w.heap[g]? = some (.cells cur 5 (0, 0)) ∧ cur.size = cap
theorem BlkU.at {w : World} {g cap k : Nat} (h : BlkU w g cap) (hk : k < cap) : (∃ z, w.cell? ⟨g, k, none⟩ = some z) ∧ w.frozen? ⟨g, k, none⟩ = false := by
  obtain ⟨cur, h1, h2⟩ := h
  exact ⟨⟨cur[k], by rw [Go.Joins.cell_of_block h1, Array.getElem?_eq_getElem (by omega)]⟩, Go.Joins.unfrozen_of_block h1 k⟩
theorem BlkU.set {w : World} {g cap k : Nat} {z : Value} (h : BlkU w g cap) : BlkU (w.setCell ⟨g, k, none⟩ z) g cap := by
  obtain ⟨cur, h1, h2⟩ := h
  exact ⟨_, Go.Joins.block_setCell h1 z (i := k), by simpa using h2⟩
/-- What is so while the copies are held against the document's letters, and written over. -/
structure LP (wy wr : World) (go q : Nat) (Z : List Lt) (j : Nat) : Prop where
  u : Old wy wr
  row : OwnT wy.heap.size wr (.slice (some ⟨go, 0, none⟩) q q) Z
  own : ∀ t (ht : t < Z.length), j ≤ t → Own wr Z[t].v Z[t].L
theorem LP.old {wy wr w' : World} {go q : Nat} {Z : List Lt} {j : Nat} (h : LP wy wr go q Z j) (u : Old wr w') : LP wy w' go q Z j := ⟨h.u.trans u, h.row.old u, fun t ht hj => (h.own t ht hj).old u⟩
theorem LP.set {wy wr : World} {go q : Nat} {Z : List Lt} {j g k cap : Nat} {z : Value} (h : LP wy wr go q Z j) (hb : BlkU wr g cap) (hw : wy.heap.size ≤ g) (hf : ∀ t (ht : t < Z.length), j ≤ t → Z[t].v.ownBlock ≠ some g) : LP wy (wr.setCell ⟨g, k, none⟩ z) go q Z j := by
  have ch := Chg.set (S := [g]) wr ⟨g, k, none⟩ z (by simp)
  refine ⟨h.u.setCell (p := ⟨g, k, none⟩) hw z, h.row.chg ch (fun g' e k' => ?_), fun t ht hj => (h.own t ht hj).chg ch (fun g' e k' => ?_)⟩
  · simp at k'
    subst k'
    obtain ⟨cur, h1, _⟩ := hb
    rcases h.row.cases with ⟨e2, _⟩ | ⟨g2, cap2, cur2, e2, _, hg, _⟩
    · rw [e2] at e; cases e
    · rw [e2] at e
      simp [Value.ownBlock] at e
      subst e
      rw [h1] at hg
      simp at hg
  · simp at k'
    subst k'
    exact hf t ht hj e
theorem T8.old {A0 A1 A2 B0 B1 B2 C : Addr} {x0 x1 x2 y0 y1 y2 z : Value} {w w' : World} (o : Old w w') (h : (w.cell? A0 = some x0 ∧ w.cell? A1 = some x1 ∧ w.cell? A2 = some x2) ∧ (w.cell? B0 = some y0 ∧ w.cell? B1 = some y1 ∧ w.cell? B2 = some y2) ∧ w.cell? C = some z) : (w'.cell? A0 = some x0 ∧ w'.cell? A1 = some x1 ∧ w'.cell? A2 = some x2) ∧ (w'.cell? B0 = some y0 ∧ w'.cell? B1 = some y1 ∧ w'.cell? B2 = some y2) ∧ w'.cell? C = some z := ⟨⟨o.keep h.1.1, o.keep h.1.2.1, o.keep h.1.2.2⟩, ⟨o.keep h.2.1.1, o.keep h.2.1.2.1, o.keep h.2.1.2.2⟩, o.keep h.2.2⟩
theorem same_at {Z Y : List Lt} {P : List PL} (h1 : Z.map Lt.p = P) (h2 : Y.map Lt.p = P) (j : Nat) (hz : j < Z.length) (hy : j < Y.length) : Z[j].f = Y[j].f ∧ Z[j].t = Y[j].t ∧ Z[j].L = Y[j].L := by
  have he : (Z.map Lt.p)[j]? = (Y.map Lt.p)[j]? := by rw [h1, h2]
  rw [List.getElem?_map, List.getElem?_map, List.getElem?_eq_getElem hz, List.getElem?_eq_getElem hy] at he
  simp only [Option.map_some, Option.some.injEq] at he
  unfold Lt.p at he
  simp only [Prod.mk.injEq] at he
  exact he
set_option maxHeartbeats 80000000 in
set_option maxRecDepth 20000 in
theorem playsLaw (m : Int) (v0 : Value) (n : Nat) (f : Nat → Opn) (w : World) (h0 : ONRow w v0 n f) : Calls Try.prog 5 #[.int .i64 m, v0] w fun e w' => e = .returned (.bool true) ∧ Old w w' := by
  obtain ⟨hnm, pa, ca, rfl, hnc, hops⟩ := h0
  have HO := hid hops
  clear hops
  go_enter Try.func5, Try.ntmps5
  go_upto_region 4 with (first | (go_at_call 6; refine (newN w _ _ (Old.refl _)).mono ?_; rintro e w1 ⟨nb, rfl, d1, _⟩; have D1 := hid d1; clear d1) | (go_at_call 7; refine (alive_any _).mono ?_; rintro e w2 ⟨rfl, u2⟩; have D2 := hid (D1.out.old u2); clear u2 D1))
  generalize hmo : mostN m = most at *
  have HMo := hid hmo
  clear hmo
  go_upto_region 5 with (go_at_call 15; refine (rnew_any m _).mono ?_; rw [HMo.out]; rintro e w3 ⟨rfl, u3⟩; have D3 := hid (D2.out.old u3); clear u3 D2)
  have M4 := hid (show PA w (w3.alloc (.cells #[.int .i64 (most : Nat), .slice none 0 0] 46)) nb w3.heap.size most none 0 [] [] from ⟨D3.out.old ((Old.refl _).alloc _), ⟨OwnR.nil _ _, fun y hy => by cases hy⟩, alloc_at w3 _, D3.out.base.size, rfl⟩)
  generalize w3.alloc (.cells #[.int .i64 (most : Nat), .slice none 0 0] 46) = w4 at *
  generalize w3.heap.size = bm at *
  clear D3
  go_wp2
  go_loopw [31] (fun c wr => ∃ (i : Nat) (a : Option Addr) (cp : Nat) (Y : List Lt) (P : List PL), i ≤ n ∧ c = .int .i64 (i : Nat) ∧ PA w wr nb bm most a cp Y P) (fun c _ => n - (intOf c).toNat)
  case atStart => exact ⟨0, _, _, [], [], Nat.zero_le _, rfl, M4.out⟩
  case round =>
    obtain ⟨i, a, cp, Y, P, hi, rfl, hM⟩ := hrel
    have HM := hid hM
    clear hM M4
    by_cases hlt : i < n
    · obtain ⟨bb, off, e, hok, hcell⟩ := HO.out i hlt
      subst e
      have HOk := hid hok
      have HCe := hid (show ∀ j, j < 6 → wr.cell? ⟨bb, off + i * 6 + j, none⟩ = (f i).cs[j]? from fun j hj => by
        have q := hcell j hj
        have hl : j < (f i).cs.length := hj
        rw [List.getElem?_eq_getElem hl] at q ⊢
        exact HM.out.net.base.keep q)
      clear hok hcell
      generalize f i = o at *
      obtain ⟨ok, oi, om, of, ot, ov, oL⟩ := o
      obtain ⟨pB, cB, eB⟩ := HOk.out.1.len
      dsimp only at eB
      subst eB
      have c0 : wr.cell? ⟨bb, off + i * 6, none⟩ = some (.int .i64 ok) := HCe.out 0 (by omega)
      have c1 : wr.cell? ⟨bb, off + i * 6 + 1, none⟩ = some (.int .i64 oi) := HCe.out 1 (by omega)
      have c2 : wr.cell? ⟨bb, off + i * 6 + 2, none⟩ = some (.int .i64 om) := HCe.out 2 (by omega)
      have c3 : wr.cell? ⟨bb, off + i * 6 + 3, none⟩ = some (.int .i64 of) := HCe.out 3 (by omega)
      have c4 : wr.cell? ⟨bb, off + i * 6 + 4, none⟩ = some (.int .i64 ot) := HCe.out 4 (by omega)
      have c5 : wr.cell? ⟨bb, off + i * 6 + 5, none⟩ = some (.slice pB oL.length cB) := HCe.out 5 (by omega)
      have l2 : (0 : Int) ≤ (i : Int) := by omega
      have l3 : (i : Int) < (n : Int) := by omega
      have l4 : (n : Int) ≤ 2199023255552 := by omega
      clear HCe
      go_upto_region 8 with (fail)
      have HU1 := hid (show Old wr (wr.alloc (.cells #[.int .i64 ok, .int .i64 oi, .int .i64 om, .int .i64 of, .int .i64 ot, .slice pB oL.length cB] 40)) from (Old.refl wr).alloc _)
      have HBo := hid (alloc_at wr (.cells #[.int .i64 ok, .int .i64 oi, .int .i64 om, .int .i64 of, .int .i64 ot, .slice pB oL.length cB] 40))
      have HM1 := hid (HM.out.old HU1.out)
      clear c0 c1 c2 c3 c4 c5 HU1 HM
      generalize wr.alloc (.cells #[.int .i64 ok, .int .i64 oi, .int .i64 om, .int .i64 of, .int .i64 ot, .slice pB oL.length cB] 40) = w4 at *
      generalize wr.heap.size = bo at *
      obtain ⟨z0, z1, z2, z3, z4, z5⟩ := box6 HBo.out
      by_cases k1 : 1 ≤ ok
      · by_cases k6 : ok ≤ 6
        · have HDo := hid (does_any w w4 nb most P _ ⟨ok, oi, om, of, ot, .slice pB oL.length cB, oL⟩ HM1.out.net HOk.out)
          have HYP := hid HM1.out.eq
          dsimp only at HDo
          obtain ⟨b5, hb5⟩ : ∃ b5, b5 = doB most P ⟨ok, oi, om, of, ot, .slice pB oL.length cB, oL⟩ := ⟨_, rfl⟩
          obtain ⟨x5, hx5⟩ : ∃ x5, x5 = doX P ⟨ok, oi, om, of, ot, .slice pB oL.length cB, oL⟩ := ⟨_, rfl⟩
          obtain ⟨P5, hP5⟩ : ∃ P5, P5 = doP most P ⟨ok, oi, om, of, ot, .slice pB oL.length cB, oL⟩ := ⟨_, rfl⟩
          rw [← hb5, ← hx5, ← hP5] at HDo
          have HB5 := hid hb5
          have HX5 := hid hx5
          have HP5 := hid hP5
          clear hb5 hx5 hP5
          obtain ⟨xf, xt, xL⟩ := x5
          unfold DoPost at HDo
          dsimp only at HDo
          go_upto_region 10 with (go_at_call 13; refine HDo.out.mono ?_; rintro e w5 ⟨a5, c5, rfl, o5, n5, kt5⟩; have O5 := hid o5; have N5 := hid n5; have K5 := hid kt5; clear o5 n5 kt5)
          have HBo5 := hid (K5.out.ty _ _ _ _ HBo.out (by decide) (by decide))
          have HBm5 := hid (K5.out.ty _ _ _ _ HM1.out.box (by decide) (by decide))
          have D5 := hid (HM1.out.doc.kt K5.out)
          have HNw := hid HM1.out.new
          have HLe := hid (show Y.length ≤ most ∧ most ≤ 1000 from by have := HM1.out.net.le; rw [← HM1.out.eq, List.length_map] at this; exact this)
          clear z0 z1 z2 z3 z4 z5 HBo HM1 K5 HDo
          have HV6 := hid (show Old w5 (w5.alloc (.cells #[.int .i64 xf, .int .i64 xt, .slice a5 xL.length c5] 30)) from (Old.refl w5).alloc _)
          have HB9 := hid (alloc_at w5 (.cells #[.int .i64 xf, .int .i64 xt, .slice a5 xL.length c5] 30))
          have HBo6 := hid (HV6.out.block HBo5.out)
          have HBm6 := hid (HV6.out.block HBm5.out)
          have D6 := hid (D5.out.old HV6.out)
          have N6 := hid (N5.out.old HV6.out)
          have O6 := hid (O5.out.old HV6.out)
          clear HV6 HBo5 HBm5 D5 N5 O5
          generalize w5.alloc (.cells #[.int .i64 xf, .int .i64 xt, .slice a5 xL.length c5] 30) = w6 at *
          generalize w5.heap.size = b9 at *
          have HPS := hid (And.intro (And.intro (box2 HBm6.out).1 (box2 HBm6.out).2.1) (And.intro (box6 HBo6.out).1 (And.intro (box6 HBo6.out).2.1 (And.intro (box6 HBo6.out).2.2.1 (And.intro (box6 HBo6.out).2.2.2.1 (And.intro (box6 HBo6.out).2.2.2.2.1 (box6 HBo6.out).2.2.2.2.2))))))
          have HOf := hid (fun (W : World) => rof_any of ot pB oL.length cB W)
          have HDc := hid (show ∀ W, Old w6 W → Calls Try.prog 16 #[.agg #[.int .i64 (most : Nat), .slice a Y.length cp], .agg #[.int .i64 ok, .int .i64 oi, .int .i64 om, .int .i64 of, .int .i64 ot, .slice pB oL.length cB]] W (RPost w W (.slice a Y.length cp) most P5 (xf, xt, xL) b5) from fun W u => by
            rw [HB5.out, HX5.out, HP5.out, ← HYP.out]
            exact rdo_any w W most a cp Y ⟨ok, oi, om, of, ot, .slice pB oL.length cB, oL⟩ (D6.out.old u) HLe.out (N6.out.base.trans u) HOk.out ⟨k1, k6⟩)
          clear HB5 HX5 HP5 HYP
          refine wp_region_noPanic ?_
          refine wp_region_held_drew (S := fun wz => (wz.cell? ⟨bm, 0, none⟩ = some (.int .i64 (most : Nat)) ∧ wz.cell? ⟨bm, 1, none⟩ = some (.slice a Y.length cp)) ∧ wz.cell? ⟨bo, 0, none⟩ = some (.int .i64 ok) ∧ wz.cell? ⟨bo, 1, none⟩ = some (.int .i64 oi) ∧ wz.cell? ⟨bo, 2, none⟩ = some (.int .i64 om) ∧ wz.cell? ⟨bo, 3, none⟩ = some (.int .i64 of) ∧ wz.cell? ⟨bo, 4, none⟩ = some (.int .i64 ot) ∧ wz.cell? ⟨bo, 5, none⟩ = some (.slice pB oL.length cB)) (by kernel_rfl) ?_ (fun hHeld => ?_)
          · exact PS.old ((Old.refl w6).drew) HPS.out
          (try simp only [Act.put]); (try simp only [List.setIfInBounds_toArray]); (try simp only [List.set_cons_succ]); (try simp only [List.set_cons_zero])
          clear hHeld
          refine wpAnyH_take (i := 0) (oi := { dst := some 50, op := Op.load 46 (Operand.tmp 6), type := 46, pos := "law.go:61", after := #[], guard := none }) (v := ?vk1) rfl (by kernel_rfl) (by kernel_rfl) (by kernel_rfl) (fun _ _ _ h => h) (Or.inl ⟨by rfl, ?hk1⟩) (PS.old ((Old.refl w6).drew) HPS.out) ?rk1
          case hk1 => (intro wz hSw; (try dsimp only at hSw); go_simp; try with_reducible rfl)
          (try simp only [Act.put]); (try simp only [List.setIfInBounds_toArray]); (try simp only [List.set_cons_succ]); (try simp only [List.set_cons_zero])
          refine wpAnyH_take (i := 1) (oi := { dst := some 51, op := Op.fieldAddr 40 (Operand.tmp 8) 0, type := 0, pos := "law.go:61", after := #[], guard := none }) (v := ?vk2) rfl (by kernel_rfl) (by kernel_rfl) (by kernel_rfl) (fun _ _ _ h => h) (Or.inl ⟨by rfl, ?hk2⟩) (PS.old ((Old.refl w6).drew) HPS.out) ?rk2
          case hk2 => (intro wz hSw; (try dsimp only at hSw); go_simp; try with_reducible rfl)
          (try simp only [Act.put]); (try simp only [List.setIfInBounds_toArray]); (try simp only [List.set_cons_succ]); (try simp only [List.set_cons_zero])
          refine wpAnyH_take (i := 2) (oi := { dst := some 52, op := Op.load 3 (Operand.tmp 51), type := 3, pos := "law.go:61", after := #[{ on := 1, ground := Ground.data }], guard := none }) (v := ?vk3) rfl (by kernel_rfl) (by kernel_rfl) (by kernel_rfl) (fun _ _ _ h => h) (Or.inl ⟨by rfl, ?hk3⟩) (PS.old ((Old.refl w6).drew) HPS.out) ?rk3
          case hk3 => (intro wz hSw; (try dsimp only at hSw); go_simp; try with_reducible rfl)
          (try simp only [Act.put]); (try simp only [List.setIfInBounds_toArray]); (try simp only [List.set_cons_succ]); (try simp only [List.set_cons_zero])
          refine wpAnyH_take (i := 3) (oi := { dst := some 53, op := Op.fieldAddr 40 (Operand.tmp 8) 1, type := 0, pos := "law.go:61", after := #[], guard := none }) (v := ?vk4) rfl (by kernel_rfl) (by kernel_rfl) (by kernel_rfl) (fun _ _ _ h => h) (Or.inl ⟨by rfl, ?hk4⟩) (PS.old ((Old.refl w6).drew) HPS.out) ?rk4
          case hk4 => (intro wz hSw; (try dsimp only at hSw); go_simp; try with_reducible rfl)
          (try simp only [Act.put]); (try simp only [List.setIfInBounds_toArray]); (try simp only [List.set_cons_succ]); (try simp only [List.set_cons_zero])
          refine wpAnyH_take (i := 4) (oi := { dst := some 54, op := Op.load 3 (Operand.tmp 53), type := 3, pos := "law.go:61", after := #[{ on := 3, ground := Ground.data }], guard := none }) (v := ?vk5) rfl (by kernel_rfl) (by kernel_rfl) (by kernel_rfl) (fun _ _ _ h => h) (Or.inl ⟨by rfl, ?hk5⟩) (PS.old ((Old.refl w6).drew) HPS.out) ?rk5
          case hk5 => (intro wz hSw; (try dsimp only at hSw); go_simp; try with_reducible rfl)
          (try simp only [Act.put]); (try simp only [List.setIfInBounds_toArray]); (try simp only [List.set_cons_succ]); (try simp only [List.set_cons_zero])
          refine wpAnyH_take (i := 5) (oi := { dst := some 55, op := Op.fieldAddr 40 (Operand.tmp 8) 2, type := 0, pos := "law.go:61", after := #[], guard := none }) (v := ?vk6) rfl (by kernel_rfl) (by kernel_rfl) (by kernel_rfl) (fun _ _ _ h => h) (Or.inl ⟨by rfl, ?hk6⟩) (PS.old ((Old.refl w6).drew) HPS.out) ?rk6
          case hk6 => (intro wz hSw; (try dsimp only at hSw); go_simp; try with_reducible rfl)
          (try simp only [Act.put]); (try simp only [List.setIfInBounds_toArray]); (try simp only [List.set_cons_succ]); (try simp only [List.set_cons_zero])
          refine wpAnyH_take (i := 6) (oi := { dst := some 56, op := Op.load 3 (Operand.tmp 55), type := 3, pos := "law.go:61", after := #[{ on := 5, ground := Ground.data }], guard := none }) (v := ?vk7) rfl (by kernel_rfl) (by kernel_rfl) (by kernel_rfl) (fun _ _ _ h => h) (Or.inl ⟨by rfl, ?hk7⟩) (PS.old ((Old.refl w6).drew) HPS.out) ?rk7
          case hk7 => (intro wz hSw; (try dsimp only at hSw); go_simp; try with_reducible rfl)
          (try simp only [Act.put]); (try simp only [List.setIfInBounds_toArray]); (try simp only [List.set_cons_succ]); (try simp only [List.set_cons_zero])
          refine wpAnyH_take (i := 7) (oi := { dst := some 57, op := Op.fieldAddr 40 (Operand.tmp 8) 3, type := 0, pos := "law.go:61", after := #[], guard := none }) (v := ?vk8) rfl (by kernel_rfl) (by kernel_rfl) (by kernel_rfl) (fun _ _ _ h => h) (Or.inl ⟨by rfl, ?hk8⟩) (PS.old ((Old.refl w6).drew) HPS.out) ?rk8
          case hk8 => (intro wz hSw; (try dsimp only at hSw); go_simp; try with_reducible rfl)
          (try simp only [Act.put]); (try simp only [List.setIfInBounds_toArray]); (try simp only [List.set_cons_succ]); (try simp only [List.set_cons_zero])
          refine wpAnyH_take (i := 8) (oi := { dst := some 58, op := Op.load 30 (Operand.tmp 57), type := 30, pos := "law.go:61", after := #[{ on := 7, ground := Ground.data }], guard := none }) (v := ?vk9) rfl (by kernel_rfl) (by kernel_rfl) (by kernel_rfl) (fun _ _ _ h => h) (Or.inl ⟨by rfl, ?hk9⟩) (PS.old ((Old.refl w6).drew) HPS.out) ?rk9
          case hk9 => (intro wz hSw; (try dsimp only at hSw); go_simp; try with_reducible rfl)
          (try simp only [Act.put]); (try simp only [List.setIfInBounds_toArray]); (try simp only [List.set_cons_succ]); (try simp only [List.set_cons_zero])
          refine wpAnyH_ready (rs := [9, 16, 17]) (by kernel_rfl) (by simp) ?_
          refine AllReadyH.cons (o := { dst := some 59, op := Op.call { callee := Callee.value (Operand.func 17), args := #[Operand.tmp 58], argTypes := #[30] }, type := 48, pos := "law.go:61", after := #[{ on := 8, ground := Ground.data }], guard := none }) rfl (fun K hK => ?_) (AllReadyH.cons (o := { dst := some 11, op := Op.alloc 46, type := 0, pos := "law.go:61", after := #[], guard := none }) rfl (fun K hK => ?_) (AllReadyH.cons (o := { dst := some 12, op := Op.alloc 48, type := 0, pos := "law.go:61", after := #[], guard := none }) rfl (fun K hK => ?_) AllReadyH.nil))
          · skip
            refine wantCall1 ?_ 17 (.tmp 58) #[30] ?_ (.agg #[.int .i64 of, .int .i64 ot, .slice pB oL.length cB]) ?_ ?_ ((enters_of Try.func17 (by kernel_rfl) rfl) _ _) ?_
            · rfl
            · rfl
            · rfl
            · rfl
            refine (HOf.out _).mono ?_
            rintro o x10 ⟨rfl, b10⟩
            refine ⟨_, rfl, ?_⟩
            have U10 := (((Old.refl w6).drew)).trans b10
            refine hK.out _ _ (PS.old U10 HPS.out) (fun _ => ?_)
            clear hK K
            (try simp only [Act.put]); (try simp only [List.setIfInBounds_toArray]); (try simp only [List.set_cons_succ]); (try simp only [List.set_cons_zero])
            refine wpAnyH_take (i := 10) (oi := { dst := some 60, op := Op.build 53 #[(0, Operand.tmp 52), (1, Operand.tmp 54), (2, Operand.tmp 56), (3, Operand.tmp 59)], type := 53, pos := "law.go:61", after := #[{ on := 2, ground := Ground.data }, { on := 4, ground := Ground.data }, { on := 6, ground := Ground.data }, { on := 9, ground := Ground.data }], guard := none }) (v := ?vk11) rfl (by kernel_rfl) (by kernel_rfl) (by kernel_rfl) (fun _ _ _ h => h) (Or.inl ⟨by rfl, ?hk11⟩) (PS.old U10 HPS.out) ?rk11
            case hk11 => (intro wz hSw; (try dsimp only at hSw); go_simp; try with_reducible rfl)
            (try simp only [Act.put]); (try simp only [List.setIfInBounds_toArray]); (try simp only [List.set_cons_succ]); (try simp only [List.set_cons_zero])
            refine wpAnyH_ready (rs := [11, 16, 17]) (by kernel_rfl) (by simp) ?_
            refine AllReadyH.cons (o := { dst := some 61, op := Op.call { callee := Callee.value (Operand.func 16), args := #[Operand.tmp 50, Operand.tmp 60], argTypes := #[46, 53] }, type := 49, pos := "law.go:61", after := #[{ on := 0, ground := Ground.data }, { on := 10, ground := Ground.data }, { on := 9, ground := Ground.chain }], guard := none }) rfl (fun K hK => ?_) (AllReadyH.cons (o := { dst := some 11, op := Op.alloc 46, type := 0, pos := "law.go:61", after := #[], guard := none }) rfl (fun K hK => ?_) (AllReadyH.cons (o := { dst := some 12, op := Op.alloc 48, type := 0, pos := "law.go:61", after := #[], guard := none }) rfl (fun K hK => ?_) AllReadyH.nil))
            · skip
              refine wantCall2 ?_ 16 (.tmp 50) (.tmp 60) #[46, 53] ?_ (.agg #[.int .i64 (most : Nat), .slice a Y.length cp]) (.agg #[.int .i64 ok, .int .i64 oi, .int .i64 om, .int .i64 of, .int .i64 ot, .slice pB oL.length cB]) ?_ ?_ ?_ ((enters_of Try.func16 (by kernel_rfl) rfl) _ _) ?_
              · rfl
              · rfl
              · rfl
              · rfl
              · rfl
              refine (HDc.out _ U10).mono ?_
              rintro o x12 ⟨a7, c7, Z, x7, rfl, d12, hZ12, hx12, s12, b12, nw12⟩
              refine ⟨_, rfl, ?_⟩
              have HZ7 := hid hZ12
              have HX7 := hid hx12
              clear hZ12 hx12 nw12
              have U12 := (U10).trans b12
              refine hK.out _ _ (PS.old U12 HPS.out) (fun _ => ?_)
              clear hK K
              (try simp only [Act.put]); (try simp only [List.setIfInBounds_toArray]); (try simp only [List.set_cons_succ]); (try simp only [List.set_cons_zero])
              refine wpAnyH_take (i := 12) (oi := { dst := some 49, op := Op.move (Operand.tmp 61), type := 49, pos := "law.go:61", after := #[{ on := 11, ground := Ground.data }], guard := none }) (v := ?vk13) rfl (by kernel_rfl) (by kernel_rfl) (by kernel_rfl) (fun _ _ _ h => h) (Or.inl ⟨by rfl, ?hk13⟩) (PS.old U12 HPS.out) ?rk13
              case hk13 => (intro wz hSw; (try dsimp only at hSw); go_simp; try with_reducible rfl)
              (try simp only [Act.put]); (try simp only [List.setIfInBounds_toArray]); (try simp only [List.set_cons_succ]); (try simp only [List.set_cons_zero])
              refine wpAnyH_take (i := 13) (oi := { dst := some 62, op := Op.extract (Operand.tmp 49) 0, type := 46, pos := "law.go:61", after := #[{ on := 12, ground := Ground.data }], guard := none }) (v := ?vk14) rfl (by kernel_rfl) (by kernel_rfl) (by kernel_rfl) (fun _ _ _ h => h) (Or.inl ⟨by rfl, ?hk14⟩) (PS.old U12 HPS.out) ?rk14
              case hk14 => (intro wz hSw; (try dsimp only at hSw); go_simp; try with_reducible rfl)
              (try simp only [Act.put]); (try simp only [List.setIfInBounds_toArray]); (try simp only [List.set_cons_succ]); (try simp only [List.set_cons_zero])
              refine wpAnyH_take (i := 14) (oi := { dst := some 63, op := Op.extract (Operand.tmp 49) 1, type := 48, pos := "law.go:61", after := #[{ on := 12, ground := Ground.data }, { on := 18, ground := Ground.gcOnly Departure.lateStores }], guard := none }) (v := ?vk15) rfl (by kernel_rfl) (by kernel_rfl) (by kernel_rfl) (fun _ _ _ h => h) (Or.inl ⟨by rfl, ?hk15⟩) (PS.old U12 HPS.out) ?rk15
              case hk15 => (intro wz hSw; (try dsimp only at hSw); go_simp; try with_reducible rfl)
              (try simp only [Act.put]); (try simp only [List.setIfInBounds_toArray]); (try simp only [List.set_cons_succ]); (try simp only [List.set_cons_zero])
              refine wpAnyH_take (i := 15) (oi := { dst := some 64, op := Op.extract (Operand.tmp 49) 2, type := 4, pos := "law.go:61", after := #[{ on := 12, ground := Ground.data }, { on := 19, ground := Ground.gcOnly Departure.lateStores }], guard := none }) (v := ?vk16) rfl (by kernel_rfl) (by kernel_rfl) (by kernel_rfl) (fun _ _ _ h => h) (Or.inl ⟨by rfl, ?hk16⟩) (PS.old U12 HPS.out) ?rk16
              case hk16 => (intro wz hSw; (try dsimp only at hSw); go_simp; try with_reducible rfl)
              (try simp only [Act.put]); (try simp only [List.setIfInBounds_toArray]); (try simp only [List.set_cons_succ]); (try simp only [List.set_cons_zero])
              refine wpAnyH_ready (rs := [16, 17]) (by kernel_rfl) (by simp) ?_
              refine AllReadyH.cons (o := { dst := some 11, op := Op.alloc 46, type := 0, pos := "law.go:61", after := #[], guard := none }) rfl (fun K hK => ?_) (AllReadyH.cons (o := { dst := some 12, op := Op.alloc 48, type := 0, pos := "law.go:61", after := #[], guard := none }) rfl (fun K hK => ?_) AllReadyH.nil)
              · skip
                refine stepAllocN ?_ ?_ ?_
                · rfl
                · rfl
                intro m17 y17 hm17 hy17
                have nn17 : y17.heap[m17]? = some (.cells #[.int .i64 0, .slice none 0 0] 46 (0, 0)) := by rw [hy17, hm17]; exact alloc_at _ _
                have b17 : Old (x12) y17 := by rw [hy17]; exact (Old.refl _).alloc _
                have Z17 : w6.heap.size ≤ m17 := by rw [hm17]; exact (U12).size
                have Nm11 := hid (show ∀ g, (Value.slice a7 Z.length c7).ownBlock = some g → g ≠ m17 from fun g e => by have := ((d12).row.lt g e).2; omega)
                clear hm17 hy17
                have U17 := (U12).trans b17
                have dz17 := DocAt.old d12 b17
                have sx17 := Sr.old s12 b17
                refine hK.out _ _ (PS.old U17 HPS.out) (fun _ => ?_)
                clear hK K
                (try simp only [Act.put]); (try simp only [List.setIfInBounds_toArray]); (try simp only [List.set_cons_succ]); (try simp only [List.set_cons_zero])
                refine wpAnyH_ready (rs := [17]) (by kernel_rfl) (by simp) ?_
                refine AllReadyH.cons (o := { dst := some 12, op := Op.alloc 48, type := 0, pos := "law.go:61", after := #[], guard := none }) rfl (fun K hK => ?_) AllReadyH.nil
                · skip
                  refine stepAllocR ?_ ?_ ?_
                  · rfl
                  · rfl
                  intro m18 y18 hm18 hy18
                  have nn18 : y18.heap[m18]? = some (.cells #[.int .i64 0, .int .i64 0, .slice none 0 0] 48 (0, 0)) := by rw [hy18, hm18]; exact alloc_at _ _
                  have b18 : Old (y17) y18 := by rw [hy18]; exact (Old.refl _).alloc _
                  have Z18 : w6.heap.size ≤ m18 := by rw [hm18]; exact (U17).size
                  have Nm12 := hid (show ∀ g, (Value.slice a7 Z.length c7).ownBlock = some g → g ≠ m18 from fun g e => by have := ((dz17).row.lt g e).2; omega)
                  clear hm18 hy18
                  have U18 := (U17).trans b18
                  have n11_18 := (b18).block nn17
                  have dz18 := DocAt.old dz17 b18
                  have sx18 := Sr.old sx17 b18
                  refine hK.out _ _ (PS.old U18 HPS.out) (fun _ => ?_)
                  clear hK K
                  (try simp only [Act.put]); (try simp only [List.setIfInBounds_toArray]); (try simp only [List.set_cons_succ]); (try simp only [List.set_cons_zero])
                  refine wpAnyH_ready (rs := [18]) (by kernel_rfl) (by simp) ?_
                  refine AllReadyH.cons (o := { dst := none, op := Op.store 46 (Operand.tmp 11) (Operand.tmp 62), type := 0, pos := "law.go:61", after := #[{ on := 16, ground := Ground.data }, { on := 13, ground := Ground.data }, { on := 11, ground := Ground.chain }, { on := 0, ground := Ground.phase }, { on := 1, ground := Ground.phase }, { on := 2, ground := Ground.phase }, { on := 3, ground := Ground.phase }, { on := 4, ground := Ground.phase }, { on := 5, ground := Ground.phase }, { on := 6, ground := Ground.phase }, { on := 7, ground := Ground.phase }, { on := 8, ground := Ground.phase }, { on := 9, ground := Ground.phase }, { on := 10, ground := Ground.phase }, { on := 11, ground := Ground.phase }, { on := 12, ground := Ground.phase }, { on := 13, ground := Ground.phase }, { on := 14, ground := Ground.textOnly Departure.lateStores }, { on := 15, ground := Ground.textOnly Departure.lateStores }, { on := 16, ground := Ground.phase }, { on := 17, ground := Ground.phase }], guard := none }) rfl (fun K hK => ?_) AllReadyH.nil
                  · skip
                    refine stepStoreN2 ?_ (.tmp 11) (.tmp 62) ?_ m17 (.int .i64 (most : Nat)) (.slice a7 Z.length c7) ?_ ?_ (there2 n11_18) ⟨rfl, rfl⟩ ?_
                    · rfl
                    · rfl
                    · rfl
                    · rfl
                    have ne19 : m18 ≠ m17 := fun e => by have h1 := n11_18; have h2 := nn18; rw [e, h1] at h2; simp at h2
                    have q19 := set_other (v := .slice a7 Z.length c7) (i := 1) (set_other (v := .int .i64 (most : Nat)) (i := 0) nn18 ne19) ne19
                    have U19 := ((U18).setCell (p := ⟨m17, 0, none⟩) Z17 (.int .i64 (most : Nat))).setCell (p := ⟨m17, 1, none⟩) Z17 (.slice a7 Z.length c7)
                    refine hK.out _ _ (PS.old U19 HPS.out) (fun _ => ?_)
                    clear hK K
                    (try simp only [Act.put]); (try simp only [List.setIfInBounds_toArray]); (try simp only [List.set_cons_succ]); (try simp only [List.set_cons_zero])
                    refine wpAnyH_ready (rs := [19]) (by kernel_rfl) (by simp) ?_
                    refine AllReadyH.cons (o := { dst := none, op := Op.store 48 (Operand.tmp 12) (Operand.tmp 63), type := 0, pos := "law.go:61", after := #[{ on := 17, ground := Ground.data }, { on := 14, ground := Ground.data }, { on := 18, ground := Ground.chain }, { on := 0, ground := Ground.phase }, { on := 1, ground := Ground.phase }, { on := 2, ground := Ground.phase }, { on := 3, ground := Ground.phase }, { on := 4, ground := Ground.phase }, { on := 5, ground := Ground.phase }, { on := 6, ground := Ground.phase }, { on := 7, ground := Ground.phase }, { on := 8, ground := Ground.phase }, { on := 9, ground := Ground.phase }, { on := 10, ground := Ground.phase }, { on := 11, ground := Ground.phase }, { on := 12, ground := Ground.phase }, { on := 13, ground := Ground.phase }, { on := 14, ground := Ground.phase }, { on := 15, ground := Ground.textOnly Departure.lateStores }, { on := 16, ground := Ground.phase }, { on := 17, ground := Ground.phase }, { on := 18, ground := Ground.phase }], guard := none }) rfl (fun K hK => ?_) AllReadyH.nil
                    · skip
                      refine stepStoreR3 ?_ (.tmp 12) (.tmp 63) ?_ m18 (.int .i64 x7.f) (.int .i64 x7.t) (.slice x7.a x7.L.length x7.c) ?_ ?_ (there3 q19) ⟨rfl, rfl, rfl⟩ ?_
                      · rfl
                      · rfl
                      · rfl
                      · rfl
                      have U20 := (((U19).setCell (p := ⟨m18, 0, none⟩) Z18 (.int .i64 x7.f)).setCell (p := ⟨m18, 1, none⟩) Z18 (.int .i64 x7.t)).setCell (p := ⟨m18, 2, none⟩) Z18 (.slice x7.a x7.L.length x7.c)
                      refine hK.out _ _ (PS.old U20 HPS.out) (fun _ => ?_)
                      clear hK K
                      (try simp only [Act.put]); (try simp only [List.setIfInBounds_toArray]); (try simp only [List.set_cons_succ]); (try simp only [List.set_cons_zero])
                      refine wpAnyH_ready (rs := [20]) (by kernel_rfl) (by simp) ?_
                      refine AllReadyH.cons (o := { dst := some 13, op := Op.assign (Operand.tmp 64), type := 4, pos := "law.go:61", after := #[{ on := 15, ground := Ground.data }, { on := 19, ground := Ground.chain }, { on := 0, ground := Ground.phase }, { on := 1, ground := Ground.phase }, { on := 2, ground := Ground.phase }, { on := 3, ground := Ground.phase }, { on := 4, ground := Ground.phase }, { on := 5, ground := Ground.phase }, { on := 6, ground := Ground.phase }, { on := 7, ground := Ground.phase }, { on := 8, ground := Ground.phase }, { on := 9, ground := Ground.phase }, { on := 10, ground := Ground.phase }, { on := 11, ground := Ground.phase }, { on := 12, ground := Ground.phase }, { on := 13, ground := Ground.phase }, { on := 14, ground := Ground.phase }, { on := 15, ground := Ground.phase }, { on := 16, ground := Ground.phase }, { on := 17, ground := Ground.phase }, { on := 18, ground := Ground.phase }, { on := 19, ground := Ground.phase }], guard := none }) rfl (fun K hK => ?_) AllReadyH.nil
                      · skip
                        go_simp
                        refine hK.out _ _ (PS.old U20 HPS.out) (fun _ => ?_)
                        clear hK K
                        (try simp only [Act.put]); (try simp only [List.setIfInBounds_toArray]); (try simp only [List.set_cons_succ]); (try simp only [List.set_cons_zero])
                        refine wpAnyH_done (by kernel_rfl) ?_ _
                        refine NoPanic.normal ?_
                        have FF := hid (rfin (p := .int .i64 (most : Nat)) (q := .slice a7 Z.length c7) (x := .int .i64 x7.f) (y := .int .i64 x7.t) (z := .slice x7.a x7.L.length x7.c) n11_18 nn18)
                        have D7 := hid (show DocAt w (((((y18.setCell ⟨m17, 0, none⟩ (.int .i64 (most : Nat))).setCell ⟨m17, 1, none⟩ (.slice a7 Z.length c7)).setCell ⟨m18, 0, none⟩ (.int .i64 x7.f)).setCell ⟨m18, 1, none⟩ (.int .i64 x7.t)).setCell ⟨m18, 2, none⟩ (.slice x7.a x7.L.length x7.c)) (.slice a7 Z.length c7) Z from DocAt.chg2 (B := 0) dz18 FF.out.2.2 n11_18 nn18 (fun g e => ⟨Nm11.out g e, Nm12.out g e⟩))
                        have S7 := hid (show Sr w (((((y18.setCell ⟨m17, 0, none⟩ (.int .i64 (most : Nat))).setCell ⟨m17, 1, none⟩ (.slice a7 Z.length c7)).setCell ⟨m18, 0, none⟩ (.int .i64 x7.f)).setCell ⟨m18, 1, none⟩ (.int .i64 x7.t)).setCell ⟨m18, 2, none⟩ (.slice x7.a x7.L.length x7.c)) x7.v x7.L from Sr.chg2 sx18 FF.out.2.2 n11_18 nn18)
                        have F11 := hid (show (((((y18.setCell ⟨m17, 0, none⟩ (.int .i64 (most : Nat))).setCell ⟨m17, 1, none⟩ (.slice a7 Z.length c7)).setCell ⟨m18, 0, none⟩ (.int .i64 x7.f)).setCell ⟨m18, 1, none⟩ (.int .i64 x7.t)).setCell ⟨m18, 2, none⟩ (.slice x7.a x7.L.length x7.c)).heap[m17]? = some (.cells #[.int .i64 (most : Nat), .slice a7 Z.length c7] 46 (0, 0)) from FF.out.1)
                        have F12 := hid (show (((((y18.setCell ⟨m17, 0, none⟩ (.int .i64 (most : Nat))).setCell ⟨m17, 1, none⟩ (.slice a7 Z.length c7)).setCell ⟨m18, 0, none⟩ (.int .i64 x7.f)).setCell ⟨m18, 1, none⟩ (.int .i64 x7.t)).setCell ⟨m18, 2, none⟩ (.slice x7.a x7.L.length x7.c)).heap[m18]? = some (.cells #[.int .i64 x7.f, .int .i64 x7.t, .slice x7.a x7.L.length x7.c] 48 (0, 0)) from FF.out.2.1)
                        have UZ := hid (show Old w6 (((((y18.setCell ⟨m17, 0, none⟩ (.int .i64 (most : Nat))).setCell ⟨m17, 1, none⟩ (.slice a7 Z.length c7)).setCell ⟨m18, 0, none⟩ (.int .i64 x7.f)).setCell ⟨m18, 1, none⟩ (.int .i64 x7.t)).setCell ⟨m18, 2, none⟩ (.slice x7.a x7.L.length x7.c)) from U20)
                        clear FF Nm11 Nm12 n11_18 nn18 q19 dz18 sx18 U20
                        generalize (((((y18.setCell ⟨m17, 0, none⟩ (.int .i64 (most : Nat))).setCell ⟨m17, 1, none⟩ (.slice a7 Z.length c7)).setCell ⟨m18, 0, none⟩ (.int .i64 x7.f)).setCell ⟨m18, 1, none⟩ (.int .i64 x7.t)).setCell ⟨m18, 2, none⟩ (.slice x7.a x7.L.length x7.c)) = w7 at *
                        generalize m17 = b11 at *
                        generalize m18 = b12 at *
                        have N7 := hid (N6.out.old UZ.out)
                        have HBm7 := hid (UZ.out.block HBm6.out)
                        have HB97 := hid (UZ.out.block HB9.out)
                        have O7 := hid (O6.out.old UZ.out)
                        clear N6 HBm6 HB9 O6 D6 HBo6 HPS HOf HDc UZ
                        obtain ⟨xf7, xt7, xa7, xc7, xL7⟩ := x7
                        obtain ⟨e1, e2, e3⟩ : xf7 = xf ∧ xt7 = xt ∧ xL7 = xL := by
                          have h := HX7.out
                          unfold Lt.p at h
                          simp only [Prod.mk.injEq] at h
                          exact h
                        clear HX7
                        subst e1 e2 e3
                        dsimp only at S7 F12
                        unfold Lt.v at S7
                        dsimp only at S7
                        obtain ⟨r0, r1, -, -⟩ := box2 F11.out
                        obtain ⟨s0, s1, sf0, sf1⟩ := box2 HBm7.out
                        go_upto_region 12 with (fail)
                        have M8 := hid (PA.set (cs := #[]) (most := most) N7.out HBm7.out HNw.out D7.out HZ7.out)
                        have ne12 : b12 ≠ bm := fun e => by have h1 := F12.out; rw [e, HBm7.out] at h1; simp at h1
                        have ne9 : b9 ≠ bm := fun e => by have h1 := HB97.out; rw [e, HBm7.out] at h1; simp at h1
                        have G12 := hid (set_other (v := .slice a7 Z.length c7) (i := 1) (set_other (v := .int .i64 (most : Nat)) (i := 0) F12.out ne12) ne12)
                        have G9 := hid (set_other (v := .slice a7 Z.length c7) (i := 1) (set_other (v := .int .i64 (most : Nat)) (i := 0) HB97.out ne9) ne9)
                        have O8 := hid (O7.out.chg (chg2 w7 bm (.int .i64 (most : Nat)) (.slice a7 Z.length c7)) (O7.out.offT HBm7.out (by decide)))
                        have S8 := hid (S7.out.chgT (chg2 w7 bm (.int .i64 (most : Nat)) (.slice a7 Z.length c7)) HBm7.out)
                        clear r0 r1 s0 s1 sf0 sf1 F11 F12 HBm7 HB97 O7 N7 S7 D7 ne12 ne9
                        generalize (w7.setCell ⟨bm, 0, none⟩ (.int .i64 (most : Nat))).setCell ⟨bm, 1, none⟩ (.slice a7 Z.length c7) = w8 at *
                        have HS8 := hid (show (fun wz => (wz.cell? ⟨b9, 0, none⟩ = some (.int .i64 xf7) ∧ wz.cell? ⟨b9, 1, none⟩ = some (.int .i64 xt7) ∧ wz.cell? ⟨b9, 2, none⟩ = some (.slice a5 xL7.length c5)) ∧ (wz.cell? ⟨b12, 0, none⟩ = some (.int .i64 xf7) ∧ wz.cell? ⟨b12, 1, none⟩ = some (.int .i64 xt7) ∧ wz.cell? ⟨b12, 2, none⟩ = some (.slice xa7 xL7.length xc7)) ∧ wz.cell? ⟨bm, 1, none⟩ = some (.slice a7 Z.length c7)) w8 from ⟨⟨(box3 G9.out).1, (box3 G9.out).2.1, (box3 G9.out).2.2.1⟩, ⟨(box3 G12.out).1, (box3 G12.out).2.1, (box3 G12.out).2.2.1⟩, (box2 M8.out.box).2.1⟩)
                        dsimp only at HS8
                        have HOf8 := hid (fun (W : World) (u : Old w8 W) => rof_any xf7 xt7 a5 xL7.length c5 W)
                        have HSm8 := hid (fun (W : World) (u : Old w8 W) => rsame_any xf7 xt7 a5 xa7 c5 xc7 xL7 W ((O8.out.old u).row) ((S8.out.old u).row (M8.out.net.base.trans u)))
                        have HLn8 := hid (show ∀ W, Old w8 W → Calls Try.prog 11 #[.pointer (some ⟨nb, 0, none⟩)] W fun e w' => e = .returned (.int .i64 (Z.length : Nat)) ∧ Old W w' from fun W u => (lenN w W nb most P5 [] (M8.out.net.old u)).mono fun e w' q => ⟨by rw [q.1, ← HZ7.out, List.length_map], by rw [q.2]; exact Old.refl _⟩)
                        clear G12 G9 O8 S8
                        cases b5
                        case false =>
                          refine wp_region_noPanic ?_
                          refine wp_region_held_drew (S := fun wz => (wz.cell? ⟨b9, 0, none⟩ = some (.int .i64 xf7) ∧ wz.cell? ⟨b9, 1, none⟩ = some (.int .i64 xt7) ∧ wz.cell? ⟨b9, 2, none⟩ = some (.slice a5 xL7.length c5)) ∧ (wz.cell? ⟨b12, 0, none⟩ = some (.int .i64 xf7) ∧ wz.cell? ⟨b12, 1, none⟩ = some (.int .i64 xt7) ∧ wz.cell? ⟨b12, 2, none⟩ = some (.slice xa7 xL7.length xc7)) ∧ wz.cell? ⟨bm, 1, none⟩ = some (.slice a7 Z.length c7)) (by kernel_rfl) ?_ (fun hHeld => ?_)
                          · exact T7.old ((Old.refl _).drew) HS8.out
                          (try simp only [Act.put]); (try simp only [List.setIfInBounds_toArray]); (try simp only [List.set_cons_succ]); (try simp only [List.set_cons_zero])
                          clear hHeld
                          refine wpAnyH_take (i := 0) (oi := { dst := some 66, op := Op.move (Operand.tmp 10), type := 4, pos := "law.go:63", after := #[], guard := none }) (v := ?vk117) rfl (by kernel_rfl) (by kernel_rfl) (by kernel_rfl) (fun _ _ _ h => h) (Or.inl ⟨by rfl, ?hk117⟩) (T7.old ((Old.refl w8).drew) HS8.out) ?rk117
                          case hk117 => (intro wz hSw; (try dsimp only at hSw); go_simp; try with_reducible rfl)
                          (try simp only [Act.put]); (try simp only [List.setIfInBounds_toArray]); (try simp only [List.set_cons_succ]); (try simp only [List.set_cons_zero])
                          refine wpAnyH_take (i := 1) (oi := { dst := some 67, op := Op.move (Operand.tmp 13), type := 4, pos := "law.go:63", after := #[], guard := none }) (v := ?vk118) rfl (by kernel_rfl) (by kernel_rfl) (by kernel_rfl) (fun _ _ _ h => h) (Or.inl ⟨by rfl, ?hk118⟩) (T7.old ((Old.refl w8).drew) HS8.out) ?rk118
                          case hk118 => (intro wz hSw; (try dsimp only at hSw); go_simp; try with_reducible rfl)
                          (try simp only [Act.put]); (try simp only [List.setIfInBounds_toArray]); (try simp only [List.set_cons_succ]); (try simp only [List.set_cons_zero])
                          refine wpAnyH_take (i := 2) (oi := { dst := some 68, op := Op.binOp BinOp.neq 4 (Operand.tmp 66) (Operand.tmp 67) 4, type := 4, pos := "law.go:63", after := #[{ on := 0, ground := Ground.data }, { on := 1, ground := Ground.data }], guard := none }) (v := ?vk119) rfl (by kernel_rfl) (by kernel_rfl) (by kernel_rfl) (fun _ _ _ h => h) (Or.inl ⟨by rfl, ?hk119⟩) (T7.old ((Old.refl w8).drew) HS8.out) ?rk119
                          case hk119 => (intro wz hSw; (try dsimp only at hSw); go_simp; try with_reducible rfl)
                          (try simp only [Act.put]); (try simp only [List.setIfInBounds_toArray]); (try simp only [List.set_cons_succ]); (try simp only [List.set_cons_zero])
                          refine wpAnyH_take (i := 3) (oi := { dst := some 69, op := Op.move (Operand.tmp 68), type := 4, pos := "law.go:63", after := #[{ on := 2, ground := Ground.data }], guard := none }) (v := ?vk120) rfl (by kernel_rfl) (by kernel_rfl) (by kernel_rfl) (fun _ _ _ h => h) (Or.inl ⟨by rfl, ?hk120⟩) (T7.old ((Old.refl w8).drew) HS8.out) ?rk120
                          case hk120 => (intro wz hSw; (try dsimp only at hSw); go_simp; try with_reducible rfl)
                          (try simp only [Act.put]); (try simp only [List.setIfInBounds_toArray]); (try simp only [List.set_cons_succ]); (try simp only [List.set_cons_zero])
                          refine wpAnyH_take (i := 4) (oi := { dst := some 70, op := Op.load 30 (Operand.tmp 9), type := 30, pos := "law.go:63", after := #[{ on := 3, ground := Ground.guard }], guard := some (3, false) }) (v := ?vk121) rfl (by kernel_rfl) (by kernel_rfl) (by kernel_rfl) (fun _ _ _ h => h) (Or.inl ⟨by rfl, ?hk121⟩) (T7.old ((Old.refl w8).drew) HS8.out) ?rk121
                          case hk121 => (intro wz hSw; (try dsimp only at hSw); go_simp; try with_reducible rfl)
                          (try simp only [Act.put]); (try simp only [List.setIfInBounds_toArray]); (try simp only [List.set_cons_succ]); (try simp only [List.set_cons_zero])
                          refine wpAnyH_take (i := 6) (oi := { dst := some 72, op := Op.load 48 (Operand.tmp 12), type := 48, pos := "law.go:63", after := #[{ on := 3, ground := Ground.guard }], guard := some (3, false) }) (v := ?vk122) rfl (by kernel_rfl) (by kernel_rfl) (by kernel_rfl) (fun _ _ _ h => h) (Or.inl ⟨by rfl, ?hk122⟩) (T7.old ((Old.refl w8).drew) HS8.out) ?rk122
                          case hk122 => (intro wz hSw; (try dsimp only at hSw); go_simp; try with_reducible rfl)
                          (try simp only [Act.put]); (try simp only [List.setIfInBounds_toArray]); (try simp only [List.set_cons_succ]); (try simp only [List.set_cons_zero])
                          refine wpAnyH_ready (rs := [5]) (by kernel_rfl) (by simp) ?_
                          refine AllReadyH.cons (o := { dst := some 71, op := Op.call { callee := Callee.value (Operand.func 17), args := #[Operand.tmp 70], argTypes := #[30] }, type := 48, pos := "law.go:63", after := #[{ on := 4, ground := Ground.data }, { on := 3, ground := Ground.chain }, { on := 3, ground := Ground.guard }], guard := some (3, false) }) rfl (fun K hK => ?_) AllReadyH.nil
                          refine wantCall1 ?_ 17 (.tmp 70) #[30] ?_ (.agg #[.int .i64 xf7, .int .i64 xt7, .slice a5 xL7.length c5]) ?_ ?_ ((enters_of Try.func17 (by kernel_rfl) rfl) _ _) ?_
                          · rfl
                          · rfl
                          · rfl
                          · rfl
                          refine (HOf8.out _ ((Old.refl w8).drew)).mono ?_
                          rintro o x123 ⟨rfl, b123⟩
                          refine ⟨_, rfl, ?_⟩
                          have U123 := ((Old.refl w8).drew).trans b123
                          refine hK.out _ _ (T7.old U123 HS8.out) (fun _ => ?_)
                          clear hK K
                          (try simp only [Act.put]); (try simp only [List.setIfInBounds_toArray]); (try simp only [List.set_cons_succ]); (try simp only [List.set_cons_zero])
                          refine wpAnyH_ready (rs := [7]) (by kernel_rfl) (by simp) ?_
                          refine AllReadyH.cons (o := { dst := some 73, op := Op.call { callee := Callee.value (Operand.func 18), args := #[Operand.tmp 71, Operand.tmp 72], argTypes := #[48, 48] }, type := 4, pos := "law.go:63", after := #[{ on := 5, ground := Ground.data }, { on := 6, ground := Ground.data }, { on := 5, ground := Ground.chain }, { on := 3, ground := Ground.guard }], guard := some (3, false) }) rfl (fun K hK => ?_) AllReadyH.nil
                          refine wantCall2 ?_ 18 (.tmp 71) (.tmp 72) #[48, 48] ?_ (.agg #[.int .i64 xf7, .int .i64 xt7, .slice a5 xL7.length c5]) (.agg #[.int .i64 xf7, .int .i64 xt7, .slice xa7 xL7.length xc7]) ?_ ?_ ?_ ((enters_of Try.func18 (by kernel_rfl) rfl) _ _) ?_
                          · rfl
                          · rfl
                          · rfl
                          · rfl
                          · rfl
                          refine (HSm8.out _ U123).mono ?_
                          rintro o x124 ⟨rfl, b124⟩
                          refine ⟨_, rfl, ?_⟩
                          have U124 := U123.trans b124
                          refine hK.out _ _ (T7.old U124 HS8.out) (fun _ => ?_)
                          clear hK K
                          (try simp only [Act.put]); (try simp only [List.setIfInBounds_toArray]); (try simp only [List.set_cons_succ]); (try simp only [List.set_cons_zero])
                          refine wpAnyH_take (i := 8) (oi := { dst := some 74, op := Op.unOp UnOp.not 4 (Operand.tmp 73), type := 4, pos := "law.go:63", after := #[{ on := 7, ground := Ground.data }, { on := 3, ground := Ground.guard }], guard := some (3, false) }) (v := ?vk125) rfl (by kernel_rfl) (by kernel_rfl) (by kernel_rfl) (fun _ _ _ h => h) (Or.inl ⟨by rfl, ?hk125⟩) (T7.old U124 HS8.out) ?rk125
                          case hk125 => (intro wz hSw; (try dsimp only at hSw); go_simp; try with_reducible rfl)
                          (try simp only [Act.put]); (try simp only [List.setIfInBounds_toArray]); (try simp only [List.set_cons_succ]); (try simp only [List.set_cons_zero])
                          refine wpAnyH_take (i := 9) (oi := { dst := some 75, op := Op.pick (Operand.tmp 69) (Operand.const (Value.bool true)) (Operand.tmp 74), type := 4, pos := "law.go:63", after := #[{ on := 3, ground := Ground.data }, { on := 8, ground := Ground.data }], guard := none }) (v := ?vk126) rfl (by kernel_rfl) (by kernel_rfl) (by kernel_rfl) (fun _ _ _ h => h) (Or.inl ⟨by rfl, ?hk126⟩) (T7.old U124 HS8.out) ?rk126
                          case hk126 => (intro wz hSw; (try dsimp only at hSw); go_simp; try with_reducible rfl)
                          (try simp only [Act.put]); (try simp only [List.setIfInBounds_toArray]); (try simp only [List.set_cons_succ]); (try simp only [List.set_cons_zero])
                          refine wpAnyH_take (i := 10) (oi := { dst := some 76, op := Op.move (Operand.tmp 75), type := 4, pos := "law.go:63", after := #[{ on := 9, ground := Ground.data }, { on := 7, ground := Ground.chain }], guard := none }) (v := ?vk127) rfl (by kernel_rfl) (by kernel_rfl) (by kernel_rfl) (fun _ _ _ h => h) (Or.inl ⟨by rfl, ?hk127⟩) (T7.old U124 HS8.out) ?rk127
                          case hk127 => (intro wz hSw; (try dsimp only at hSw); go_simp; try with_reducible rfl)
                          (try simp only [Act.put]); (try simp only [List.setIfInBounds_toArray]); (try simp only [List.set_cons_succ]); (try simp only [List.set_cons_zero])
                          refine wpAnyH_take (i := 11) (oi := { dst := some 77, op := Op.move (Operand.tmp 5), type := 23, pos := "law.go:63", after := #[{ on := 10, ground := Ground.guard }], guard := some (10, false) }) (v := ?vk128) rfl (by kernel_rfl) (by kernel_rfl) (by kernel_rfl) (fun _ _ _ h => h) (Or.inl ⟨by rfl, ?hk128⟩) (T7.old U124 HS8.out) ?rk128
                          case hk128 => (intro wz hSw; (try dsimp only at hSw); go_simp; try with_reducible rfl)
                          (try simp only [Act.put]); (try simp only [List.setIfInBounds_toArray]); (try simp only [List.set_cons_succ]); (try simp only [List.set_cons_zero])
                          refine wpAnyH_take (i := 13) (oi := { dst := some 79, op := Op.fieldAddr 46 (Operand.tmp 6) 1, type := 0, pos := "law.go:63", after := #[{ on := 10, ground := Ground.guard }], guard := some (10, false) }) (v := ?vk129) rfl (by kernel_rfl) (by kernel_rfl) (by kernel_rfl) (fun _ _ _ h => h) (Or.inl ⟨by rfl, ?hk129⟩) (T7.old U124 HS8.out) ?rk129
                          case hk129 => (intro wz hSw; (try dsimp only at hSw); go_simp; try with_reducible rfl)
                          (try simp only [Act.put]); (try simp only [List.setIfInBounds_toArray]); (try simp only [List.set_cons_succ]); (try simp only [List.set_cons_zero])
                          refine wpAnyH_take (i := 14) (oi := { dst := some 80, op := Op.load 44 (Operand.tmp 79), type := 44, pos := "law.go:63", after := #[{ on := 13, ground := Ground.data }, { on := 10, ground := Ground.guard }], guard := some (10, false) }) (v := ?vk130) rfl (by kernel_rfl) (by kernel_rfl) (by kernel_rfl) (fun _ _ _ h => h) (Or.inl ⟨by rfl, ?hk130⟩) (T7.old U124 HS8.out) ?rk130
                          case hk130 => (intro wz hSw; (try dsimp only at hSw); go_simp; try with_reducible rfl)
                          (try simp only [Act.put]); (try simp only [List.setIfInBounds_toArray]); (try simp only [List.set_cons_succ]); (try simp only [List.set_cons_zero])
                          refine wpAnyH_take (i := 15) (oi := { dst := some 81, op := Op.call { callee := Callee.builtin Builtin.len, args := #[Operand.tmp 80], argTypes := #[44] }, type := 3, pos := "law.go:63", after := #[{ on := 14, ground := Ground.data }, { on := 10, ground := Ground.guard }], guard := some (10, false) }) (v := ?vk131) rfl (by kernel_rfl) (by kernel_rfl) (by kernel_rfl) (fun _ _ _ h => h) (Or.inl ⟨by rfl, ?hk131⟩) (T7.old U124 HS8.out) ?rk131
                          case hk131 => (intro wz hSw; (try dsimp only at hSw); go_simp; try with_reducible rfl)
                          (try simp only [Act.put]); (try simp only [List.setIfInBounds_toArray]); (try simp only [List.set_cons_succ]); (try simp only [List.set_cons_zero])
                          refine wpAnyH_ready (rs := [12]) (by kernel_rfl) (by simp) ?_
                          refine AllReadyH.cons (o := { dst := some 78, op := Op.call { callee := Callee.value (Operand.func 11), args := #[Operand.tmp 77], argTypes := #[23] }, type := 3, pos := "law.go:63", after := #[{ on := 11, ground := Ground.data }, { on := 10, ground := Ground.chain }, { on := 10, ground := Ground.guard }], guard := some (10, false) }) rfl (fun K hK => ?_) AllReadyH.nil
                          refine wantCall1 ?_ 11 (.tmp 77) #[23] ?_ (.pointer (some ⟨nb, 0, none⟩)) ?_ ?_ ((enters_of Try.func11 (by kernel_rfl) rfl) _ _) ?_
                          · rfl
                          · rfl
                          · rfl
                          · rfl
                          refine (HLn8.out _ U124).mono ?_
                          rintro o x132 ⟨rfl, b132⟩
                          refine ⟨_, rfl, ?_⟩
                          have U132 := U124.trans b132
                          refine hK.out _ _ (T7.old U132 HS8.out) (fun _ => ?_)
                          clear hK K
                          (try simp only [Act.put]); (try simp only [List.setIfInBounds_toArray]); (try simp only [List.set_cons_succ]); (try simp only [List.set_cons_zero])
                          refine wpAnyH_take (i := 16) (oi := { dst := some 82, op := Op.binOp BinOp.neq 3 (Operand.tmp 78) (Operand.tmp 81) 3, type := 4, pos := "law.go:63", after := #[{ on := 12, ground := Ground.data }, { on := 15, ground := Ground.data }, { on := 10, ground := Ground.guard }], guard := some (10, false) }) (v := ?vk133) rfl (by kernel_rfl) (by kernel_rfl) (by kernel_rfl) (fun _ _ _ h => h) (Or.inl ⟨by rfl, ?hk133⟩) (T7.old U132 HS8.out) ?rk133
                          case hk133 => (intro wz hSw; (try dsimp only at hSw); go_simp; try with_reducible rfl)
                          (try simp only [Act.put]); (try simp only [List.setIfInBounds_toArray]); (try simp only [List.set_cons_succ]); (try simp only [List.set_cons_zero])
                          refine wpAnyH_take (i := 17) (oi := { dst := some 83, op := Op.pick (Operand.tmp 76) (Operand.const (Value.bool true)) (Operand.tmp 82), type := 4, pos := "law.go:63", after := #[{ on := 10, ground := Ground.data }, { on := 16, ground := Ground.data }], guard := none }) (v := ?vk134) rfl (by kernel_rfl) (by kernel_rfl) (by kernel_rfl) (fun _ _ _ h => h) (Or.inl ⟨by rfl, ?hk134⟩) (T7.old U132 HS8.out) ?rk134
                          case hk134 => (intro wz hSw; (try dsimp only at hSw); go_simp; try with_reducible rfl)
                          (try simp only [Act.put]); (try simp only [List.setIfInBounds_toArray]); (try simp only [List.set_cons_succ]); (try simp only [List.set_cons_zero])
                          refine wpAnyH_done (by kernel_rfl) ?_ _
                          refine NoPanic.normal ?_
                          have UY := hid U132
                          go_wp2
                          go_roundw
                          case rel => exact ⟨i + 1, a7, c7, Z, P5, hlt, by go_num, M8.out.old UY.out⟩
                          case measure => simp [intOf]; omega
                        case true =>
                          refine wp_region_noPanic ?_
                          refine wp_region_held_drew (S := fun wz => (wz.cell? ⟨b9, 0, none⟩ = some (.int .i64 xf7) ∧ wz.cell? ⟨b9, 1, none⟩ = some (.int .i64 xt7) ∧ wz.cell? ⟨b9, 2, none⟩ = some (.slice a5 xL7.length c5)) ∧ (wz.cell? ⟨b12, 0, none⟩ = some (.int .i64 xf7) ∧ wz.cell? ⟨b12, 1, none⟩ = some (.int .i64 xt7) ∧ wz.cell? ⟨b12, 2, none⟩ = some (.slice xa7 xL7.length xc7)) ∧ wz.cell? ⟨bm, 1, none⟩ = some (.slice a7 Z.length c7)) (by kernel_rfl) ?_ (fun hHeld => ?_)
                          · exact T7.old ((Old.refl _).drew) HS8.out
                          (try simp only [Act.put]); (try simp only [List.setIfInBounds_toArray]); (try simp only [List.set_cons_succ]); (try simp only [List.set_cons_zero])
                          clear hHeld
                          refine wpAnyH_take (i := 0) (oi := { dst := some 66, op := Op.move (Operand.tmp 10), type := 4, pos := "law.go:63", after := #[], guard := none }) (v := ?vk135) rfl (by kernel_rfl) (by kernel_rfl) (by kernel_rfl) (fun _ _ _ h => h) (Or.inl ⟨by rfl, ?hk135⟩) (T7.old ((Old.refl w8).drew) HS8.out) ?rk135
                          case hk135 => (intro wz hSw; (try dsimp only at hSw); go_simp; try with_reducible rfl)
                          (try simp only [Act.put]); (try simp only [List.setIfInBounds_toArray]); (try simp only [List.set_cons_succ]); (try simp only [List.set_cons_zero])
                          refine wpAnyH_take (i := 1) (oi := { dst := some 67, op := Op.move (Operand.tmp 13), type := 4, pos := "law.go:63", after := #[], guard := none }) (v := ?vk136) rfl (by kernel_rfl) (by kernel_rfl) (by kernel_rfl) (fun _ _ _ h => h) (Or.inl ⟨by rfl, ?hk136⟩) (T7.old ((Old.refl w8).drew) HS8.out) ?rk136
                          case hk136 => (intro wz hSw; (try dsimp only at hSw); go_simp; try with_reducible rfl)
                          (try simp only [Act.put]); (try simp only [List.setIfInBounds_toArray]); (try simp only [List.set_cons_succ]); (try simp only [List.set_cons_zero])
                          refine wpAnyH_take (i := 2) (oi := { dst := some 68, op := Op.binOp BinOp.neq 4 (Operand.tmp 66) (Operand.tmp 67) 4, type := 4, pos := "law.go:63", after := #[{ on := 0, ground := Ground.data }, { on := 1, ground := Ground.data }], guard := none }) (v := ?vk137) rfl (by kernel_rfl) (by kernel_rfl) (by kernel_rfl) (fun _ _ _ h => h) (Or.inl ⟨by rfl, ?hk137⟩) (T7.old ((Old.refl w8).drew) HS8.out) ?rk137
                          case hk137 => (intro wz hSw; (try dsimp only at hSw); go_simp; try with_reducible rfl)
                          (try simp only [Act.put]); (try simp only [List.setIfInBounds_toArray]); (try simp only [List.set_cons_succ]); (try simp only [List.set_cons_zero])
                          refine wpAnyH_take (i := 3) (oi := { dst := some 69, op := Op.move (Operand.tmp 68), type := 4, pos := "law.go:63", after := #[{ on := 2, ground := Ground.data }], guard := none }) (v := ?vk138) rfl (by kernel_rfl) (by kernel_rfl) (by kernel_rfl) (fun _ _ _ h => h) (Or.inl ⟨by rfl, ?hk138⟩) (T7.old ((Old.refl w8).drew) HS8.out) ?rk138
                          case hk138 => (intro wz hSw; (try dsimp only at hSw); go_simp; try with_reducible rfl)
                          (try simp only [Act.put]); (try simp only [List.setIfInBounds_toArray]); (try simp only [List.set_cons_succ]); (try simp only [List.set_cons_zero])
                          refine wpAnyH_take (i := 4) (oi := { dst := some 70, op := Op.load 30 (Operand.tmp 9), type := 30, pos := "law.go:63", after := #[{ on := 3, ground := Ground.guard }], guard := some (3, false) }) (v := ?vk139) rfl (by kernel_rfl) (by kernel_rfl) (by kernel_rfl) (fun _ _ _ h => h) (Or.inl ⟨by rfl, ?hk139⟩) (T7.old ((Old.refl w8).drew) HS8.out) ?rk139
                          case hk139 => (intro wz hSw; (try dsimp only at hSw); go_simp; try with_reducible rfl)
                          (try simp only [Act.put]); (try simp only [List.setIfInBounds_toArray]); (try simp only [List.set_cons_succ]); (try simp only [List.set_cons_zero])
                          refine wpAnyH_take (i := 6) (oi := { dst := some 72, op := Op.load 48 (Operand.tmp 12), type := 48, pos := "law.go:63", after := #[{ on := 3, ground := Ground.guard }], guard := some (3, false) }) (v := ?vk140) rfl (by kernel_rfl) (by kernel_rfl) (by kernel_rfl) (fun _ _ _ h => h) (Or.inl ⟨by rfl, ?hk140⟩) (T7.old ((Old.refl w8).drew) HS8.out) ?rk140
                          case hk140 => (intro wz hSw; (try dsimp only at hSw); go_simp; try with_reducible rfl)
                          (try simp only [Act.put]); (try simp only [List.setIfInBounds_toArray]); (try simp only [List.set_cons_succ]); (try simp only [List.set_cons_zero])
                          refine wpAnyH_ready (rs := [5]) (by kernel_rfl) (by simp) ?_
                          refine AllReadyH.cons (o := { dst := some 71, op := Op.call { callee := Callee.value (Operand.func 17), args := #[Operand.tmp 70], argTypes := #[30] }, type := 48, pos := "law.go:63", after := #[{ on := 4, ground := Ground.data }, { on := 3, ground := Ground.chain }, { on := 3, ground := Ground.guard }], guard := some (3, false) }) rfl (fun K hK => ?_) AllReadyH.nil
                          refine wantCall1 ?_ 17 (.tmp 70) #[30] ?_ (.agg #[.int .i64 xf7, .int .i64 xt7, .slice a5 xL7.length c5]) ?_ ?_ ((enters_of Try.func17 (by kernel_rfl) rfl) _ _) ?_
                          · rfl
                          · rfl
                          · rfl
                          · rfl
                          refine (HOf8.out _ ((Old.refl w8).drew)).mono ?_
                          rintro o x141 ⟨rfl, b141⟩
                          refine ⟨_, rfl, ?_⟩
                          have U141 := ((Old.refl w8).drew).trans b141
                          refine hK.out _ _ (T7.old U141 HS8.out) (fun _ => ?_)
                          clear hK K
                          (try simp only [Act.put]); (try simp only [List.setIfInBounds_toArray]); (try simp only [List.set_cons_succ]); (try simp only [List.set_cons_zero])
                          refine wpAnyH_ready (rs := [7]) (by kernel_rfl) (by simp) ?_
                          refine AllReadyH.cons (o := { dst := some 73, op := Op.call { callee := Callee.value (Operand.func 18), args := #[Operand.tmp 71, Operand.tmp 72], argTypes := #[48, 48] }, type := 4, pos := "law.go:63", after := #[{ on := 5, ground := Ground.data }, { on := 6, ground := Ground.data }, { on := 5, ground := Ground.chain }, { on := 3, ground := Ground.guard }], guard := some (3, false) }) rfl (fun K hK => ?_) AllReadyH.nil
                          refine wantCall2 ?_ 18 (.tmp 71) (.tmp 72) #[48, 48] ?_ (.agg #[.int .i64 xf7, .int .i64 xt7, .slice a5 xL7.length c5]) (.agg #[.int .i64 xf7, .int .i64 xt7, .slice xa7 xL7.length xc7]) ?_ ?_ ?_ ((enters_of Try.func18 (by kernel_rfl) rfl) _ _) ?_
                          · rfl
                          · rfl
                          · rfl
                          · rfl
                          · rfl
                          refine (HSm8.out _ U141).mono ?_
                          rintro o x142 ⟨rfl, b142⟩
                          refine ⟨_, rfl, ?_⟩
                          have U142 := U141.trans b142
                          refine hK.out _ _ (T7.old U142 HS8.out) (fun _ => ?_)
                          clear hK K
                          (try simp only [Act.put]); (try simp only [List.setIfInBounds_toArray]); (try simp only [List.set_cons_succ]); (try simp only [List.set_cons_zero])
                          refine wpAnyH_take (i := 8) (oi := { dst := some 74, op := Op.unOp UnOp.not 4 (Operand.tmp 73), type := 4, pos := "law.go:63", after := #[{ on := 7, ground := Ground.data }, { on := 3, ground := Ground.guard }], guard := some (3, false) }) (v := ?vk143) rfl (by kernel_rfl) (by kernel_rfl) (by kernel_rfl) (fun _ _ _ h => h) (Or.inl ⟨by rfl, ?hk143⟩) (T7.old U142 HS8.out) ?rk143
                          case hk143 => (intro wz hSw; (try dsimp only at hSw); go_simp; try with_reducible rfl)
                          (try simp only [Act.put]); (try simp only [List.setIfInBounds_toArray]); (try simp only [List.set_cons_succ]); (try simp only [List.set_cons_zero])
                          refine wpAnyH_take (i := 9) (oi := { dst := some 75, op := Op.pick (Operand.tmp 69) (Operand.const (Value.bool true)) (Operand.tmp 74), type := 4, pos := "law.go:63", after := #[{ on := 3, ground := Ground.data }, { on := 8, ground := Ground.data }], guard := none }) (v := ?vk144) rfl (by kernel_rfl) (by kernel_rfl) (by kernel_rfl) (fun _ _ _ h => h) (Or.inl ⟨by rfl, ?hk144⟩) (T7.old U142 HS8.out) ?rk144
                          case hk144 => (intro wz hSw; (try dsimp only at hSw); go_simp; try with_reducible rfl)
                          (try simp only [Act.put]); (try simp only [List.setIfInBounds_toArray]); (try simp only [List.set_cons_succ]); (try simp only [List.set_cons_zero])
                          refine wpAnyH_take (i := 10) (oi := { dst := some 76, op := Op.move (Operand.tmp 75), type := 4, pos := "law.go:63", after := #[{ on := 9, ground := Ground.data }, { on := 7, ground := Ground.chain }], guard := none }) (v := ?vk145) rfl (by kernel_rfl) (by kernel_rfl) (by kernel_rfl) (fun _ _ _ h => h) (Or.inl ⟨by rfl, ?hk145⟩) (T7.old U142 HS8.out) ?rk145
                          case hk145 => (intro wz hSw; (try dsimp only at hSw); go_simp; try with_reducible rfl)
                          (try simp only [Act.put]); (try simp only [List.setIfInBounds_toArray]); (try simp only [List.set_cons_succ]); (try simp only [List.set_cons_zero])
                          refine wpAnyH_take (i := 11) (oi := { dst := some 77, op := Op.move (Operand.tmp 5), type := 23, pos := "law.go:63", after := #[{ on := 10, ground := Ground.guard }], guard := some (10, false) }) (v := ?vk146) rfl (by kernel_rfl) (by kernel_rfl) (by kernel_rfl) (fun _ _ _ h => h) (Or.inl ⟨by rfl, ?hk146⟩) (T7.old U142 HS8.out) ?rk146
                          case hk146 => (intro wz hSw; (try dsimp only at hSw); go_simp; try with_reducible rfl)
                          (try simp only [Act.put]); (try simp only [List.setIfInBounds_toArray]); (try simp only [List.set_cons_succ]); (try simp only [List.set_cons_zero])
                          refine wpAnyH_take (i := 13) (oi := { dst := some 79, op := Op.fieldAddr 46 (Operand.tmp 6) 1, type := 0, pos := "law.go:63", after := #[{ on := 10, ground := Ground.guard }], guard := some (10, false) }) (v := ?vk147) rfl (by kernel_rfl) (by kernel_rfl) (by kernel_rfl) (fun _ _ _ h => h) (Or.inl ⟨by rfl, ?hk147⟩) (T7.old U142 HS8.out) ?rk147
                          case hk147 => (intro wz hSw; (try dsimp only at hSw); go_simp; try with_reducible rfl)
                          (try simp only [Act.put]); (try simp only [List.setIfInBounds_toArray]); (try simp only [List.set_cons_succ]); (try simp only [List.set_cons_zero])
                          refine wpAnyH_take (i := 14) (oi := { dst := some 80, op := Op.load 44 (Operand.tmp 79), type := 44, pos := "law.go:63", after := #[{ on := 13, ground := Ground.data }, { on := 10, ground := Ground.guard }], guard := some (10, false) }) (v := ?vk148) rfl (by kernel_rfl) (by kernel_rfl) (by kernel_rfl) (fun _ _ _ h => h) (Or.inl ⟨by rfl, ?hk148⟩) (T7.old U142 HS8.out) ?rk148
                          case hk148 => (intro wz hSw; (try dsimp only at hSw); go_simp; try with_reducible rfl)
                          (try simp only [Act.put]); (try simp only [List.setIfInBounds_toArray]); (try simp only [List.set_cons_succ]); (try simp only [List.set_cons_zero])
                          refine wpAnyH_take (i := 15) (oi := { dst := some 81, op := Op.call { callee := Callee.builtin Builtin.len, args := #[Operand.tmp 80], argTypes := #[44] }, type := 3, pos := "law.go:63", after := #[{ on := 14, ground := Ground.data }, { on := 10, ground := Ground.guard }], guard := some (10, false) }) (v := ?vk149) rfl (by kernel_rfl) (by kernel_rfl) (by kernel_rfl) (fun _ _ _ h => h) (Or.inl ⟨by rfl, ?hk149⟩) (T7.old U142 HS8.out) ?rk149
                          case hk149 => (intro wz hSw; (try dsimp only at hSw); go_simp; try with_reducible rfl)
                          (try simp only [Act.put]); (try simp only [List.setIfInBounds_toArray]); (try simp only [List.set_cons_succ]); (try simp only [List.set_cons_zero])
                          refine wpAnyH_ready (rs := [12]) (by kernel_rfl) (by simp) ?_
                          refine AllReadyH.cons (o := { dst := some 78, op := Op.call { callee := Callee.value (Operand.func 11), args := #[Operand.tmp 77], argTypes := #[23] }, type := 3, pos := "law.go:63", after := #[{ on := 11, ground := Ground.data }, { on := 10, ground := Ground.chain }, { on := 10, ground := Ground.guard }], guard := some (10, false) }) rfl (fun K hK => ?_) AllReadyH.nil
                          refine wantCall1 ?_ 11 (.tmp 77) #[23] ?_ (.pointer (some ⟨nb, 0, none⟩)) ?_ ?_ ((enters_of Try.func11 (by kernel_rfl) rfl) _ _) ?_
                          · rfl
                          · rfl
                          · rfl
                          · rfl
                          refine (HLn8.out _ U142).mono ?_
                          rintro o x150 ⟨rfl, b150⟩
                          refine ⟨_, rfl, ?_⟩
                          have U150 := U142.trans b150
                          refine hK.out _ _ (T7.old U150 HS8.out) (fun _ => ?_)
                          clear hK K
                          (try simp only [Act.put]); (try simp only [List.setIfInBounds_toArray]); (try simp only [List.set_cons_succ]); (try simp only [List.set_cons_zero])
                          refine wpAnyH_take (i := 16) (oi := { dst := some 82, op := Op.binOp BinOp.neq 3 (Operand.tmp 78) (Operand.tmp 81) 3, type := 4, pos := "law.go:63", after := #[{ on := 12, ground := Ground.data }, { on := 15, ground := Ground.data }, { on := 10, ground := Ground.guard }], guard := some (10, false) }) (v := ?vk151) rfl (by kernel_rfl) (by kernel_rfl) (by kernel_rfl) (fun _ _ _ h => h) (Or.inl ⟨by rfl, ?hk151⟩) (T7.old U150 HS8.out) ?rk151
                          case hk151 => (intro wz hSw; (try dsimp only at hSw); go_simp; try with_reducible rfl)
                          (try simp only [Act.put]); (try simp only [List.setIfInBounds_toArray]); (try simp only [List.set_cons_succ]); (try simp only [List.set_cons_zero])
                          refine wpAnyH_take (i := 17) (oi := { dst := some 83, op := Op.pick (Operand.tmp 76) (Operand.const (Value.bool true)) (Operand.tmp 82), type := 4, pos := "law.go:63", after := #[{ on := 10, ground := Ground.data }, { on := 16, ground := Ground.data }], guard := none }) (v := ?vk152) rfl (by kernel_rfl) (by kernel_rfl) (by kernel_rfl) (fun _ _ _ h => h) (Or.inl ⟨by rfl, ?hk152⟩) (T7.old U150 HS8.out) ?rk152
                          case hk152 => (intro wz hSw; (try dsimp only at hSw); go_simp; try with_reducible rfl)
                          (try simp only [Act.put]); (try simp only [List.setIfInBounds_toArray]); (try simp only [List.set_cons_succ]); (try simp only [List.set_cons_zero])
                          refine wpAnyH_done (by kernel_rfl) ?_ _
                          refine NoPanic.normal ?_
                          have UY := hid U150
                          go_wp2
                          go_roundw
                          case rel => exact ⟨i + 1, a7, c7, Z, P5, hlt, by go_num, M8.out.old UY.out⟩
                          case measure => simp [intOf]; omega
              · skip
                refine stepAllocR ?_ ?_ ?_
                · rfl
                · rfl
                intro m21 y21 hm21 hy21
                have nn21 : y21.heap[m21]? = some (.cells #[.int .i64 0, .int .i64 0, .slice none 0 0] 48 (0, 0)) := by rw [hy21, hm21]; exact alloc_at _ _
                have b21 : Old (x12) y21 := by rw [hy21]; exact (Old.refl _).alloc _
                have Z21 : w6.heap.size ≤ m21 := by rw [hm21]; exact (U12).size
                have Nm12 := hid (show ∀ g, (Value.slice a7 Z.length c7).ownBlock = some g → g ≠ m21 from fun g e => by have := ((d12).row.lt g e).2; omega)
                clear hm21 hy21
                have U21 := (U12).trans b21
                have dz21 := DocAt.old d12 b21
                have sx21 := Sr.old s12 b21
                refine hK.out _ _ (PS.old U21 HPS.out) (fun _ => ?_)
                clear hK K
                (try simp only [Act.put]); (try simp only [List.setIfInBounds_toArray]); (try simp only [List.set_cons_succ]); (try simp only [List.set_cons_zero])
                refine wpAnyH_ready (rs := [16]) (by kernel_rfl) (by simp) ?_
                refine AllReadyH.cons (o := { dst := some 11, op := Op.alloc 46, type := 0, pos := "law.go:61", after := #[], guard := none }) rfl (fun K hK => ?_) AllReadyH.nil
                · skip
                  refine stepAllocN ?_ ?_ ?_
                  · rfl
                  · rfl
                  intro m22 y22 hm22 hy22
                  have nn22 : y22.heap[m22]? = some (.cells #[.int .i64 0, .slice none 0 0] 46 (0, 0)) := by rw [hy22, hm22]; exact alloc_at _ _
                  have b22 : Old (y21) y22 := by rw [hy22]; exact (Old.refl _).alloc _
                  have Z22 : w6.heap.size ≤ m22 := by rw [hm22]; exact (U21).size
                  have Nm11 := hid (show ∀ g, (Value.slice a7 Z.length c7).ownBlock = some g → g ≠ m22 from fun g e => by have := ((dz21).row.lt g e).2; omega)
                  clear hm22 hy22
                  have U22 := (U21).trans b22
                  have n12_22 := (b22).block nn21
                  have dz22 := DocAt.old dz21 b22
                  have sx22 := Sr.old sx21 b22
                  refine hK.out _ _ (PS.old U22 HPS.out) (fun _ => ?_)
                  clear hK K
                  (try simp only [Act.put]); (try simp only [List.setIfInBounds_toArray]); (try simp only [List.set_cons_succ]); (try simp only [List.set_cons_zero])
                  refine wpAnyH_ready (rs := [18]) (by kernel_rfl) (by simp) ?_
                  refine AllReadyH.cons (o := { dst := none, op := Op.store 46 (Operand.tmp 11) (Operand.tmp 62), type := 0, pos := "law.go:61", after := #[{ on := 16, ground := Ground.data }, { on := 13, ground := Ground.data }, { on := 11, ground := Ground.chain }, { on := 0, ground := Ground.phase }, { on := 1, ground := Ground.phase }, { on := 2, ground := Ground.phase }, { on := 3, ground := Ground.phase }, { on := 4, ground := Ground.phase }, { on := 5, ground := Ground.phase }, { on := 6, ground := Ground.phase }, { on := 7, ground := Ground.phase }, { on := 8, ground := Ground.phase }, { on := 9, ground := Ground.phase }, { on := 10, ground := Ground.phase }, { on := 11, ground := Ground.phase }, { on := 12, ground := Ground.phase }, { on := 13, ground := Ground.phase }, { on := 14, ground := Ground.textOnly Departure.lateStores }, { on := 15, ground := Ground.textOnly Departure.lateStores }, { on := 16, ground := Ground.phase }, { on := 17, ground := Ground.phase }], guard := none }) rfl (fun K hK => ?_) AllReadyH.nil
                  · skip
                    refine stepStoreN2 ?_ (.tmp 11) (.tmp 62) ?_ m22 (.int .i64 (most : Nat)) (.slice a7 Z.length c7) ?_ ?_ (there2 nn22) ⟨rfl, rfl⟩ ?_
                    · rfl
                    · rfl
                    · rfl
                    · rfl
                    have ne23 : m21 ≠ m22 := fun e => by have h1 := nn22; have h2 := n12_22; rw [e, h1] at h2; simp at h2
                    have q23 := set_other (v := .slice a7 Z.length c7) (i := 1) (set_other (v := .int .i64 (most : Nat)) (i := 0) n12_22 ne23) ne23
                    have U23 := ((U22).setCell (p := ⟨m22, 0, none⟩) Z22 (.int .i64 (most : Nat))).setCell (p := ⟨m22, 1, none⟩) Z22 (.slice a7 Z.length c7)
                    refine hK.out _ _ (PS.old U23 HPS.out) (fun _ => ?_)
                    clear hK K
                    (try simp only [Act.put]); (try simp only [List.setIfInBounds_toArray]); (try simp only [List.set_cons_succ]); (try simp only [List.set_cons_zero])
                    refine wpAnyH_ready (rs := [19]) (by kernel_rfl) (by simp) ?_
                    refine AllReadyH.cons (o := { dst := none, op := Op.store 48 (Operand.tmp 12) (Operand.tmp 63), type := 0, pos := "law.go:61", after := #[{ on := 17, ground := Ground.data }, { on := 14, ground := Ground.data }, { on := 18, ground := Ground.chain }, { on := 0, ground := Ground.phase }, { on := 1, ground := Ground.phase }, { on := 2, ground := Ground.phase }, { on := 3, ground := Ground.phase }, { on := 4, ground := Ground.phase }, { on := 5, ground := Ground.phase }, { on := 6, ground := Ground.phase }, { on := 7, ground := Ground.phase }, { on := 8, ground := Ground.phase }, { on := 9, ground := Ground.phase }, { on := 10, ground := Ground.phase }, { on := 11, ground := Ground.phase }, { on := 12, ground := Ground.phase }, { on := 13, ground := Ground.phase }, { on := 14, ground := Ground.phase }, { on := 15, ground := Ground.textOnly Departure.lateStores }, { on := 16, ground := Ground.phase }, { on := 17, ground := Ground.phase }, { on := 18, ground := Ground.phase }], guard := none }) rfl (fun K hK => ?_) AllReadyH.nil
                    · skip
                      refine stepStoreR3 ?_ (.tmp 12) (.tmp 63) ?_ m21 (.int .i64 x7.f) (.int .i64 x7.t) (.slice x7.a x7.L.length x7.c) ?_ ?_ (there3 q23) ⟨rfl, rfl, rfl⟩ ?_
                      · rfl
                      · rfl
                      · rfl
                      · rfl
                      have U24 := (((U23).setCell (p := ⟨m21, 0, none⟩) Z21 (.int .i64 x7.f)).setCell (p := ⟨m21, 1, none⟩) Z21 (.int .i64 x7.t)).setCell (p := ⟨m21, 2, none⟩) Z21 (.slice x7.a x7.L.length x7.c)
                      refine hK.out _ _ (PS.old U24 HPS.out) (fun _ => ?_)
                      clear hK K
                      (try simp only [Act.put]); (try simp only [List.setIfInBounds_toArray]); (try simp only [List.set_cons_succ]); (try simp only [List.set_cons_zero])
                      refine wpAnyH_ready (rs := [20]) (by kernel_rfl) (by simp) ?_
                      refine AllReadyH.cons (o := { dst := some 13, op := Op.assign (Operand.tmp 64), type := 4, pos := "law.go:61", after := #[{ on := 15, ground := Ground.data }, { on := 19, ground := Ground.chain }, { on := 0, ground := Ground.phase }, { on := 1, ground := Ground.phase }, { on := 2, ground := Ground.phase }, { on := 3, ground := Ground.phase }, { on := 4, ground := Ground.phase }, { on := 5, ground := Ground.phase }, { on := 6, ground := Ground.phase }, { on := 7, ground := Ground.phase }, { on := 8, ground := Ground.phase }, { on := 9, ground := Ground.phase }, { on := 10, ground := Ground.phase }, { on := 11, ground := Ground.phase }, { on := 12, ground := Ground.phase }, { on := 13, ground := Ground.phase }, { on := 14, ground := Ground.phase }, { on := 15, ground := Ground.phase }, { on := 16, ground := Ground.phase }, { on := 17, ground := Ground.phase }, { on := 18, ground := Ground.phase }, { on := 19, ground := Ground.phase }], guard := none }) rfl (fun K hK => ?_) AllReadyH.nil
                      · skip
                        go_simp
                        refine hK.out _ _ (PS.old U24 HPS.out) (fun _ => ?_)
                        clear hK K
                        (try simp only [Act.put]); (try simp only [List.setIfInBounds_toArray]); (try simp only [List.set_cons_succ]); (try simp only [List.set_cons_zero])
                        refine wpAnyH_done (by kernel_rfl) ?_ _
                        refine NoPanic.normal ?_
                        have FF := hid (rfin (p := .int .i64 (most : Nat)) (q := .slice a7 Z.length c7) (x := .int .i64 x7.f) (y := .int .i64 x7.t) (z := .slice x7.a x7.L.length x7.c) nn22 n12_22)
                        have D7 := hid (show DocAt w (((((y22.setCell ⟨m22, 0, none⟩ (.int .i64 (most : Nat))).setCell ⟨m22, 1, none⟩ (.slice a7 Z.length c7)).setCell ⟨m21, 0, none⟩ (.int .i64 x7.f)).setCell ⟨m21, 1, none⟩ (.int .i64 x7.t)).setCell ⟨m21, 2, none⟩ (.slice x7.a x7.L.length x7.c)) (.slice a7 Z.length c7) Z from DocAt.chg2 (B := 0) dz22 FF.out.2.2 nn22 n12_22 (fun g e => ⟨Nm11.out g e, Nm12.out g e⟩))
                        have S7 := hid (show Sr w (((((y22.setCell ⟨m22, 0, none⟩ (.int .i64 (most : Nat))).setCell ⟨m22, 1, none⟩ (.slice a7 Z.length c7)).setCell ⟨m21, 0, none⟩ (.int .i64 x7.f)).setCell ⟨m21, 1, none⟩ (.int .i64 x7.t)).setCell ⟨m21, 2, none⟩ (.slice x7.a x7.L.length x7.c)) x7.v x7.L from Sr.chg2 sx22 FF.out.2.2 nn22 n12_22)
                        have F11 := hid (show (((((y22.setCell ⟨m22, 0, none⟩ (.int .i64 (most : Nat))).setCell ⟨m22, 1, none⟩ (.slice a7 Z.length c7)).setCell ⟨m21, 0, none⟩ (.int .i64 x7.f)).setCell ⟨m21, 1, none⟩ (.int .i64 x7.t)).setCell ⟨m21, 2, none⟩ (.slice x7.a x7.L.length x7.c)).heap[m22]? = some (.cells #[.int .i64 (most : Nat), .slice a7 Z.length c7] 46 (0, 0)) from FF.out.1)
                        have F12 := hid (show (((((y22.setCell ⟨m22, 0, none⟩ (.int .i64 (most : Nat))).setCell ⟨m22, 1, none⟩ (.slice a7 Z.length c7)).setCell ⟨m21, 0, none⟩ (.int .i64 x7.f)).setCell ⟨m21, 1, none⟩ (.int .i64 x7.t)).setCell ⟨m21, 2, none⟩ (.slice x7.a x7.L.length x7.c)).heap[m21]? = some (.cells #[.int .i64 x7.f, .int .i64 x7.t, .slice x7.a x7.L.length x7.c] 48 (0, 0)) from FF.out.2.1)
                        have UZ := hid (show Old w6 (((((y22.setCell ⟨m22, 0, none⟩ (.int .i64 (most : Nat))).setCell ⟨m22, 1, none⟩ (.slice a7 Z.length c7)).setCell ⟨m21, 0, none⟩ (.int .i64 x7.f)).setCell ⟨m21, 1, none⟩ (.int .i64 x7.t)).setCell ⟨m21, 2, none⟩ (.slice x7.a x7.L.length x7.c)) from U24)
                        clear FF Nm11 Nm12 nn22 n12_22 q23 dz22 sx22 U24
                        generalize (((((y22.setCell ⟨m22, 0, none⟩ (.int .i64 (most : Nat))).setCell ⟨m22, 1, none⟩ (.slice a7 Z.length c7)).setCell ⟨m21, 0, none⟩ (.int .i64 x7.f)).setCell ⟨m21, 1, none⟩ (.int .i64 x7.t)).setCell ⟨m21, 2, none⟩ (.slice x7.a x7.L.length x7.c)) = w7 at *
                        generalize m22 = b11 at *
                        generalize m21 = b12 at *
                        have N7 := hid (N6.out.old UZ.out)
                        have HBm7 := hid (UZ.out.block HBm6.out)
                        have HB97 := hid (UZ.out.block HB9.out)
                        have O7 := hid (O6.out.old UZ.out)
                        clear N6 HBm6 HB9 O6 D6 HBo6 HPS HOf HDc UZ
                        obtain ⟨xf7, xt7, xa7, xc7, xL7⟩ := x7
                        obtain ⟨e1, e2, e3⟩ : xf7 = xf ∧ xt7 = xt ∧ xL7 = xL := by
                          have h := HX7.out
                          unfold Lt.p at h
                          simp only [Prod.mk.injEq] at h
                          exact h
                        clear HX7
                        subst e1 e2 e3
                        dsimp only at S7 F12
                        unfold Lt.v at S7
                        dsimp only at S7
                        obtain ⟨r0, r1, -, -⟩ := box2 F11.out
                        obtain ⟨s0, s1, sf0, sf1⟩ := box2 HBm7.out
                        go_upto_region 12 with (fail)
                        have M8 := hid (PA.set (cs := #[]) (most := most) N7.out HBm7.out HNw.out D7.out HZ7.out)
                        have ne12 : b12 ≠ bm := fun e => by have h1 := F12.out; rw [e, HBm7.out] at h1; simp at h1
                        have ne9 : b9 ≠ bm := fun e => by have h1 := HB97.out; rw [e, HBm7.out] at h1; simp at h1
                        have G12 := hid (set_other (v := .slice a7 Z.length c7) (i := 1) (set_other (v := .int .i64 (most : Nat)) (i := 0) F12.out ne12) ne12)
                        have G9 := hid (set_other (v := .slice a7 Z.length c7) (i := 1) (set_other (v := .int .i64 (most : Nat)) (i := 0) HB97.out ne9) ne9)
                        have O8 := hid (O7.out.chg (chg2 w7 bm (.int .i64 (most : Nat)) (.slice a7 Z.length c7)) (O7.out.offT HBm7.out (by decide)))
                        have S8 := hid (S7.out.chgT (chg2 w7 bm (.int .i64 (most : Nat)) (.slice a7 Z.length c7)) HBm7.out)
                        clear r0 r1 s0 s1 sf0 sf1 F11 F12 HBm7 HB97 O7 N7 S7 D7 ne12 ne9
                        generalize (w7.setCell ⟨bm, 0, none⟩ (.int .i64 (most : Nat))).setCell ⟨bm, 1, none⟩ (.slice a7 Z.length c7) = w8 at *
                        have HS8 := hid (show (fun wz => (wz.cell? ⟨b9, 0, none⟩ = some (.int .i64 xf7) ∧ wz.cell? ⟨b9, 1, none⟩ = some (.int .i64 xt7) ∧ wz.cell? ⟨b9, 2, none⟩ = some (.slice a5 xL7.length c5)) ∧ (wz.cell? ⟨b12, 0, none⟩ = some (.int .i64 xf7) ∧ wz.cell? ⟨b12, 1, none⟩ = some (.int .i64 xt7) ∧ wz.cell? ⟨b12, 2, none⟩ = some (.slice xa7 xL7.length xc7)) ∧ wz.cell? ⟨bm, 1, none⟩ = some (.slice a7 Z.length c7)) w8 from ⟨⟨(box3 G9.out).1, (box3 G9.out).2.1, (box3 G9.out).2.2.1⟩, ⟨(box3 G12.out).1, (box3 G12.out).2.1, (box3 G12.out).2.2.1⟩, (box2 M8.out.box).2.1⟩)
                        dsimp only at HS8
                        have HOf8 := hid (fun (W : World) (u : Old w8 W) => rof_any xf7 xt7 a5 xL7.length c5 W)
                        have HSm8 := hid (fun (W : World) (u : Old w8 W) => rsame_any xf7 xt7 a5 xa7 c5 xc7 xL7 W ((O8.out.old u).row) ((S8.out.old u).row (M8.out.net.base.trans u)))
                        have HLn8 := hid (show ∀ W, Old w8 W → Calls Try.prog 11 #[.pointer (some ⟨nb, 0, none⟩)] W fun e w' => e = .returned (.int .i64 (Z.length : Nat)) ∧ Old W w' from fun W u => (lenN w W nb most P5 [] (M8.out.net.old u)).mono fun e w' q => ⟨by rw [q.1, ← HZ7.out, List.length_map], by rw [q.2]; exact Old.refl _⟩)
                        clear G12 G9 O8 S8
                        cases b5
                        case false =>
                          refine wp_region_noPanic ?_
                          refine wp_region_held_drew (S := fun wz => (wz.cell? ⟨b9, 0, none⟩ = some (.int .i64 xf7) ∧ wz.cell? ⟨b9, 1, none⟩ = some (.int .i64 xt7) ∧ wz.cell? ⟨b9, 2, none⟩ = some (.slice a5 xL7.length c5)) ∧ (wz.cell? ⟨b12, 0, none⟩ = some (.int .i64 xf7) ∧ wz.cell? ⟨b12, 1, none⟩ = some (.int .i64 xt7) ∧ wz.cell? ⟨b12, 2, none⟩ = some (.slice xa7 xL7.length xc7)) ∧ wz.cell? ⟨bm, 1, none⟩ = some (.slice a7 Z.length c7)) (by kernel_rfl) ?_ (fun hHeld => ?_)
                          · exact T7.old ((Old.refl _).drew) HS8.out
                          (try simp only [Act.put]); (try simp only [List.setIfInBounds_toArray]); (try simp only [List.set_cons_succ]); (try simp only [List.set_cons_zero])
                          clear hHeld
                          refine wpAnyH_take (i := 0) (oi := { dst := some 66, op := Op.move (Operand.tmp 10), type := 4, pos := "law.go:63", after := #[], guard := none }) (v := ?vk153) rfl (by kernel_rfl) (by kernel_rfl) (by kernel_rfl) (fun _ _ _ h => h) (Or.inl ⟨by rfl, ?hk153⟩) (T7.old ((Old.refl w8).drew) HS8.out) ?rk153
                          case hk153 => (intro wz hSw; (try dsimp only at hSw); go_simp; try with_reducible rfl)
                          (try simp only [Act.put]); (try simp only [List.setIfInBounds_toArray]); (try simp only [List.set_cons_succ]); (try simp only [List.set_cons_zero])
                          refine wpAnyH_take (i := 1) (oi := { dst := some 67, op := Op.move (Operand.tmp 13), type := 4, pos := "law.go:63", after := #[], guard := none }) (v := ?vk154) rfl (by kernel_rfl) (by kernel_rfl) (by kernel_rfl) (fun _ _ _ h => h) (Or.inl ⟨by rfl, ?hk154⟩) (T7.old ((Old.refl w8).drew) HS8.out) ?rk154
                          case hk154 => (intro wz hSw; (try dsimp only at hSw); go_simp; try with_reducible rfl)
                          (try simp only [Act.put]); (try simp only [List.setIfInBounds_toArray]); (try simp only [List.set_cons_succ]); (try simp only [List.set_cons_zero])
                          refine wpAnyH_take (i := 2) (oi := { dst := some 68, op := Op.binOp BinOp.neq 4 (Operand.tmp 66) (Operand.tmp 67) 4, type := 4, pos := "law.go:63", after := #[{ on := 0, ground := Ground.data }, { on := 1, ground := Ground.data }], guard := none }) (v := ?vk155) rfl (by kernel_rfl) (by kernel_rfl) (by kernel_rfl) (fun _ _ _ h => h) (Or.inl ⟨by rfl, ?hk155⟩) (T7.old ((Old.refl w8).drew) HS8.out) ?rk155
                          case hk155 => (intro wz hSw; (try dsimp only at hSw); go_simp; try with_reducible rfl)
                          (try simp only [Act.put]); (try simp only [List.setIfInBounds_toArray]); (try simp only [List.set_cons_succ]); (try simp only [List.set_cons_zero])
                          refine wpAnyH_take (i := 3) (oi := { dst := some 69, op := Op.move (Operand.tmp 68), type := 4, pos := "law.go:63", after := #[{ on := 2, ground := Ground.data }], guard := none }) (v := ?vk156) rfl (by kernel_rfl) (by kernel_rfl) (by kernel_rfl) (fun _ _ _ h => h) (Or.inl ⟨by rfl, ?hk156⟩) (T7.old ((Old.refl w8).drew) HS8.out) ?rk156
                          case hk156 => (intro wz hSw; (try dsimp only at hSw); go_simp; try with_reducible rfl)
                          (try simp only [Act.put]); (try simp only [List.setIfInBounds_toArray]); (try simp only [List.set_cons_succ]); (try simp only [List.set_cons_zero])
                          refine wpAnyH_take (i := 4) (oi := { dst := some 70, op := Op.load 30 (Operand.tmp 9), type := 30, pos := "law.go:63", after := #[{ on := 3, ground := Ground.guard }], guard := some (3, false) }) (v := ?vk157) rfl (by kernel_rfl) (by kernel_rfl) (by kernel_rfl) (fun _ _ _ h => h) (Or.inl ⟨by rfl, ?hk157⟩) (T7.old ((Old.refl w8).drew) HS8.out) ?rk157
                          case hk157 => (intro wz hSw; (try dsimp only at hSw); go_simp; try with_reducible rfl)
                          (try simp only [Act.put]); (try simp only [List.setIfInBounds_toArray]); (try simp only [List.set_cons_succ]); (try simp only [List.set_cons_zero])
                          refine wpAnyH_take (i := 6) (oi := { dst := some 72, op := Op.load 48 (Operand.tmp 12), type := 48, pos := "law.go:63", after := #[{ on := 3, ground := Ground.guard }], guard := some (3, false) }) (v := ?vk158) rfl (by kernel_rfl) (by kernel_rfl) (by kernel_rfl) (fun _ _ _ h => h) (Or.inl ⟨by rfl, ?hk158⟩) (T7.old ((Old.refl w8).drew) HS8.out) ?rk158
                          case hk158 => (intro wz hSw; (try dsimp only at hSw); go_simp; try with_reducible rfl)
                          (try simp only [Act.put]); (try simp only [List.setIfInBounds_toArray]); (try simp only [List.set_cons_succ]); (try simp only [List.set_cons_zero])
                          refine wpAnyH_ready (rs := [5]) (by kernel_rfl) (by simp) ?_
                          refine AllReadyH.cons (o := { dst := some 71, op := Op.call { callee := Callee.value (Operand.func 17), args := #[Operand.tmp 70], argTypes := #[30] }, type := 48, pos := "law.go:63", after := #[{ on := 4, ground := Ground.data }, { on := 3, ground := Ground.chain }, { on := 3, ground := Ground.guard }], guard := some (3, false) }) rfl (fun K hK => ?_) AllReadyH.nil
                          refine wantCall1 ?_ 17 (.tmp 70) #[30] ?_ (.agg #[.int .i64 xf7, .int .i64 xt7, .slice a5 xL7.length c5]) ?_ ?_ ((enters_of Try.func17 (by kernel_rfl) rfl) _ _) ?_
                          · rfl
                          · rfl
                          · rfl
                          · rfl
                          refine (HOf8.out _ ((Old.refl w8).drew)).mono ?_
                          rintro o x159 ⟨rfl, b159⟩
                          refine ⟨_, rfl, ?_⟩
                          have U159 := ((Old.refl w8).drew).trans b159
                          refine hK.out _ _ (T7.old U159 HS8.out) (fun _ => ?_)
                          clear hK K
                          (try simp only [Act.put]); (try simp only [List.setIfInBounds_toArray]); (try simp only [List.set_cons_succ]); (try simp only [List.set_cons_zero])
                          refine wpAnyH_ready (rs := [7]) (by kernel_rfl) (by simp) ?_
                          refine AllReadyH.cons (o := { dst := some 73, op := Op.call { callee := Callee.value (Operand.func 18), args := #[Operand.tmp 71, Operand.tmp 72], argTypes := #[48, 48] }, type := 4, pos := "law.go:63", after := #[{ on := 5, ground := Ground.data }, { on := 6, ground := Ground.data }, { on := 5, ground := Ground.chain }, { on := 3, ground := Ground.guard }], guard := some (3, false) }) rfl (fun K hK => ?_) AllReadyH.nil
                          refine wantCall2 ?_ 18 (.tmp 71) (.tmp 72) #[48, 48] ?_ (.agg #[.int .i64 xf7, .int .i64 xt7, .slice a5 xL7.length c5]) (.agg #[.int .i64 xf7, .int .i64 xt7, .slice xa7 xL7.length xc7]) ?_ ?_ ?_ ((enters_of Try.func18 (by kernel_rfl) rfl) _ _) ?_
                          · rfl
                          · rfl
                          · rfl
                          · rfl
                          · rfl
                          refine (HSm8.out _ U159).mono ?_
                          rintro o x160 ⟨rfl, b160⟩
                          refine ⟨_, rfl, ?_⟩
                          have U160 := U159.trans b160
                          refine hK.out _ _ (T7.old U160 HS8.out) (fun _ => ?_)
                          clear hK K
                          (try simp only [Act.put]); (try simp only [List.setIfInBounds_toArray]); (try simp only [List.set_cons_succ]); (try simp only [List.set_cons_zero])
                          refine wpAnyH_take (i := 8) (oi := { dst := some 74, op := Op.unOp UnOp.not 4 (Operand.tmp 73), type := 4, pos := "law.go:63", after := #[{ on := 7, ground := Ground.data }, { on := 3, ground := Ground.guard }], guard := some (3, false) }) (v := ?vk161) rfl (by kernel_rfl) (by kernel_rfl) (by kernel_rfl) (fun _ _ _ h => h) (Or.inl ⟨by rfl, ?hk161⟩) (T7.old U160 HS8.out) ?rk161
                          case hk161 => (intro wz hSw; (try dsimp only at hSw); go_simp; try with_reducible rfl)
                          (try simp only [Act.put]); (try simp only [List.setIfInBounds_toArray]); (try simp only [List.set_cons_succ]); (try simp only [List.set_cons_zero])
                          refine wpAnyH_take (i := 9) (oi := { dst := some 75, op := Op.pick (Operand.tmp 69) (Operand.const (Value.bool true)) (Operand.tmp 74), type := 4, pos := "law.go:63", after := #[{ on := 3, ground := Ground.data }, { on := 8, ground := Ground.data }], guard := none }) (v := ?vk162) rfl (by kernel_rfl) (by kernel_rfl) (by kernel_rfl) (fun _ _ _ h => h) (Or.inl ⟨by rfl, ?hk162⟩) (T7.old U160 HS8.out) ?rk162
                          case hk162 => (intro wz hSw; (try dsimp only at hSw); go_simp; try with_reducible rfl)
                          (try simp only [Act.put]); (try simp only [List.setIfInBounds_toArray]); (try simp only [List.set_cons_succ]); (try simp only [List.set_cons_zero])
                          refine wpAnyH_take (i := 10) (oi := { dst := some 76, op := Op.move (Operand.tmp 75), type := 4, pos := "law.go:63", after := #[{ on := 9, ground := Ground.data }, { on := 7, ground := Ground.chain }], guard := none }) (v := ?vk163) rfl (by kernel_rfl) (by kernel_rfl) (by kernel_rfl) (fun _ _ _ h => h) (Or.inl ⟨by rfl, ?hk163⟩) (T7.old U160 HS8.out) ?rk163
                          case hk163 => (intro wz hSw; (try dsimp only at hSw); go_simp; try with_reducible rfl)
                          (try simp only [Act.put]); (try simp only [List.setIfInBounds_toArray]); (try simp only [List.set_cons_succ]); (try simp only [List.set_cons_zero])
                          refine wpAnyH_take (i := 11) (oi := { dst := some 77, op := Op.move (Operand.tmp 5), type := 23, pos := "law.go:63", after := #[{ on := 10, ground := Ground.guard }], guard := some (10, false) }) (v := ?vk164) rfl (by kernel_rfl) (by kernel_rfl) (by kernel_rfl) (fun _ _ _ h => h) (Or.inl ⟨by rfl, ?hk164⟩) (T7.old U160 HS8.out) ?rk164
                          case hk164 => (intro wz hSw; (try dsimp only at hSw); go_simp; try with_reducible rfl)
                          (try simp only [Act.put]); (try simp only [List.setIfInBounds_toArray]); (try simp only [List.set_cons_succ]); (try simp only [List.set_cons_zero])
                          refine wpAnyH_take (i := 13) (oi := { dst := some 79, op := Op.fieldAddr 46 (Operand.tmp 6) 1, type := 0, pos := "law.go:63", after := #[{ on := 10, ground := Ground.guard }], guard := some (10, false) }) (v := ?vk165) rfl (by kernel_rfl) (by kernel_rfl) (by kernel_rfl) (fun _ _ _ h => h) (Or.inl ⟨by rfl, ?hk165⟩) (T7.old U160 HS8.out) ?rk165
                          case hk165 => (intro wz hSw; (try dsimp only at hSw); go_simp; try with_reducible rfl)
                          (try simp only [Act.put]); (try simp only [List.setIfInBounds_toArray]); (try simp only [List.set_cons_succ]); (try simp only [List.set_cons_zero])
                          refine wpAnyH_take (i := 14) (oi := { dst := some 80, op := Op.load 44 (Operand.tmp 79), type := 44, pos := "law.go:63", after := #[{ on := 13, ground := Ground.data }, { on := 10, ground := Ground.guard }], guard := some (10, false) }) (v := ?vk166) rfl (by kernel_rfl) (by kernel_rfl) (by kernel_rfl) (fun _ _ _ h => h) (Or.inl ⟨by rfl, ?hk166⟩) (T7.old U160 HS8.out) ?rk166
                          case hk166 => (intro wz hSw; (try dsimp only at hSw); go_simp; try with_reducible rfl)
                          (try simp only [Act.put]); (try simp only [List.setIfInBounds_toArray]); (try simp only [List.set_cons_succ]); (try simp only [List.set_cons_zero])
                          refine wpAnyH_take (i := 15) (oi := { dst := some 81, op := Op.call { callee := Callee.builtin Builtin.len, args := #[Operand.tmp 80], argTypes := #[44] }, type := 3, pos := "law.go:63", after := #[{ on := 14, ground := Ground.data }, { on := 10, ground := Ground.guard }], guard := some (10, false) }) (v := ?vk167) rfl (by kernel_rfl) (by kernel_rfl) (by kernel_rfl) (fun _ _ _ h => h) (Or.inl ⟨by rfl, ?hk167⟩) (T7.old U160 HS8.out) ?rk167
                          case hk167 => (intro wz hSw; (try dsimp only at hSw); go_simp; try with_reducible rfl)
                          (try simp only [Act.put]); (try simp only [List.setIfInBounds_toArray]); (try simp only [List.set_cons_succ]); (try simp only [List.set_cons_zero])
                          refine wpAnyH_ready (rs := [12]) (by kernel_rfl) (by simp) ?_
                          refine AllReadyH.cons (o := { dst := some 78, op := Op.call { callee := Callee.value (Operand.func 11), args := #[Operand.tmp 77], argTypes := #[23] }, type := 3, pos := "law.go:63", after := #[{ on := 11, ground := Ground.data }, { on := 10, ground := Ground.chain }, { on := 10, ground := Ground.guard }], guard := some (10, false) }) rfl (fun K hK => ?_) AllReadyH.nil
                          refine wantCall1 ?_ 11 (.tmp 77) #[23] ?_ (.pointer (some ⟨nb, 0, none⟩)) ?_ ?_ ((enters_of Try.func11 (by kernel_rfl) rfl) _ _) ?_
                          · rfl
                          · rfl
                          · rfl
                          · rfl
                          refine (HLn8.out _ U160).mono ?_
                          rintro o x168 ⟨rfl, b168⟩
                          refine ⟨_, rfl, ?_⟩
                          have U168 := U160.trans b168
                          refine hK.out _ _ (T7.old U168 HS8.out) (fun _ => ?_)
                          clear hK K
                          (try simp only [Act.put]); (try simp only [List.setIfInBounds_toArray]); (try simp only [List.set_cons_succ]); (try simp only [List.set_cons_zero])
                          refine wpAnyH_take (i := 16) (oi := { dst := some 82, op := Op.binOp BinOp.neq 3 (Operand.tmp 78) (Operand.tmp 81) 3, type := 4, pos := "law.go:63", after := #[{ on := 12, ground := Ground.data }, { on := 15, ground := Ground.data }, { on := 10, ground := Ground.guard }], guard := some (10, false) }) (v := ?vk169) rfl (by kernel_rfl) (by kernel_rfl) (by kernel_rfl) (fun _ _ _ h => h) (Or.inl ⟨by rfl, ?hk169⟩) (T7.old U168 HS8.out) ?rk169
                          case hk169 => (intro wz hSw; (try dsimp only at hSw); go_simp; try with_reducible rfl)
                          (try simp only [Act.put]); (try simp only [List.setIfInBounds_toArray]); (try simp only [List.set_cons_succ]); (try simp only [List.set_cons_zero])
                          refine wpAnyH_take (i := 17) (oi := { dst := some 83, op := Op.pick (Operand.tmp 76) (Operand.const (Value.bool true)) (Operand.tmp 82), type := 4, pos := "law.go:63", after := #[{ on := 10, ground := Ground.data }, { on := 16, ground := Ground.data }], guard := none }) (v := ?vk170) rfl (by kernel_rfl) (by kernel_rfl) (by kernel_rfl) (fun _ _ _ h => h) (Or.inl ⟨by rfl, ?hk170⟩) (T7.old U168 HS8.out) ?rk170
                          case hk170 => (intro wz hSw; (try dsimp only at hSw); go_simp; try with_reducible rfl)
                          (try simp only [Act.put]); (try simp only [List.setIfInBounds_toArray]); (try simp only [List.set_cons_succ]); (try simp only [List.set_cons_zero])
                          refine wpAnyH_done (by kernel_rfl) ?_ _
                          refine NoPanic.normal ?_
                          have UY := hid U168
                          go_wp2
                          go_roundw
                          case rel => exact ⟨i + 1, a7, c7, Z, P5, hlt, by go_num, M8.out.old UY.out⟩
                          case measure => simp [intOf]; omega
                        case true =>
                          refine wp_region_noPanic ?_
                          refine wp_region_held_drew (S := fun wz => (wz.cell? ⟨b9, 0, none⟩ = some (.int .i64 xf7) ∧ wz.cell? ⟨b9, 1, none⟩ = some (.int .i64 xt7) ∧ wz.cell? ⟨b9, 2, none⟩ = some (.slice a5 xL7.length c5)) ∧ (wz.cell? ⟨b12, 0, none⟩ = some (.int .i64 xf7) ∧ wz.cell? ⟨b12, 1, none⟩ = some (.int .i64 xt7) ∧ wz.cell? ⟨b12, 2, none⟩ = some (.slice xa7 xL7.length xc7)) ∧ wz.cell? ⟨bm, 1, none⟩ = some (.slice a7 Z.length c7)) (by kernel_rfl) ?_ (fun hHeld => ?_)
                          · exact T7.old ((Old.refl _).drew) HS8.out
                          (try simp only [Act.put]); (try simp only [List.setIfInBounds_toArray]); (try simp only [List.set_cons_succ]); (try simp only [List.set_cons_zero])
                          clear hHeld
                          refine wpAnyH_take (i := 0) (oi := { dst := some 66, op := Op.move (Operand.tmp 10), type := 4, pos := "law.go:63", after := #[], guard := none }) (v := ?vk171) rfl (by kernel_rfl) (by kernel_rfl) (by kernel_rfl) (fun _ _ _ h => h) (Or.inl ⟨by rfl, ?hk171⟩) (T7.old ((Old.refl w8).drew) HS8.out) ?rk171
                          case hk171 => (intro wz hSw; (try dsimp only at hSw); go_simp; try with_reducible rfl)
                          (try simp only [Act.put]); (try simp only [List.setIfInBounds_toArray]); (try simp only [List.set_cons_succ]); (try simp only [List.set_cons_zero])
                          refine wpAnyH_take (i := 1) (oi := { dst := some 67, op := Op.move (Operand.tmp 13), type := 4, pos := "law.go:63", after := #[], guard := none }) (v := ?vk172) rfl (by kernel_rfl) (by kernel_rfl) (by kernel_rfl) (fun _ _ _ h => h) (Or.inl ⟨by rfl, ?hk172⟩) (T7.old ((Old.refl w8).drew) HS8.out) ?rk172
                          case hk172 => (intro wz hSw; (try dsimp only at hSw); go_simp; try with_reducible rfl)
                          (try simp only [Act.put]); (try simp only [List.setIfInBounds_toArray]); (try simp only [List.set_cons_succ]); (try simp only [List.set_cons_zero])
                          refine wpAnyH_take (i := 2) (oi := { dst := some 68, op := Op.binOp BinOp.neq 4 (Operand.tmp 66) (Operand.tmp 67) 4, type := 4, pos := "law.go:63", after := #[{ on := 0, ground := Ground.data }, { on := 1, ground := Ground.data }], guard := none }) (v := ?vk173) rfl (by kernel_rfl) (by kernel_rfl) (by kernel_rfl) (fun _ _ _ h => h) (Or.inl ⟨by rfl, ?hk173⟩) (T7.old ((Old.refl w8).drew) HS8.out) ?rk173
                          case hk173 => (intro wz hSw; (try dsimp only at hSw); go_simp; try with_reducible rfl)
                          (try simp only [Act.put]); (try simp only [List.setIfInBounds_toArray]); (try simp only [List.set_cons_succ]); (try simp only [List.set_cons_zero])
                          refine wpAnyH_take (i := 3) (oi := { dst := some 69, op := Op.move (Operand.tmp 68), type := 4, pos := "law.go:63", after := #[{ on := 2, ground := Ground.data }], guard := none }) (v := ?vk174) rfl (by kernel_rfl) (by kernel_rfl) (by kernel_rfl) (fun _ _ _ h => h) (Or.inl ⟨by rfl, ?hk174⟩) (T7.old ((Old.refl w8).drew) HS8.out) ?rk174
                          case hk174 => (intro wz hSw; (try dsimp only at hSw); go_simp; try with_reducible rfl)
                          (try simp only [Act.put]); (try simp only [List.setIfInBounds_toArray]); (try simp only [List.set_cons_succ]); (try simp only [List.set_cons_zero])
                          refine wpAnyH_take (i := 4) (oi := { dst := some 70, op := Op.load 30 (Operand.tmp 9), type := 30, pos := "law.go:63", after := #[{ on := 3, ground := Ground.guard }], guard := some (3, false) }) (v := ?vk175) rfl (by kernel_rfl) (by kernel_rfl) (by kernel_rfl) (fun _ _ _ h => h) (Or.inl ⟨by rfl, ?hk175⟩) (T7.old ((Old.refl w8).drew) HS8.out) ?rk175
                          case hk175 => (intro wz hSw; (try dsimp only at hSw); go_simp; try with_reducible rfl)
                          (try simp only [Act.put]); (try simp only [List.setIfInBounds_toArray]); (try simp only [List.set_cons_succ]); (try simp only [List.set_cons_zero])
                          refine wpAnyH_take (i := 6) (oi := { dst := some 72, op := Op.load 48 (Operand.tmp 12), type := 48, pos := "law.go:63", after := #[{ on := 3, ground := Ground.guard }], guard := some (3, false) }) (v := ?vk176) rfl (by kernel_rfl) (by kernel_rfl) (by kernel_rfl) (fun _ _ _ h => h) (Or.inl ⟨by rfl, ?hk176⟩) (T7.old ((Old.refl w8).drew) HS8.out) ?rk176
                          case hk176 => (intro wz hSw; (try dsimp only at hSw); go_simp; try with_reducible rfl)
                          (try simp only [Act.put]); (try simp only [List.setIfInBounds_toArray]); (try simp only [List.set_cons_succ]); (try simp only [List.set_cons_zero])
                          refine wpAnyH_ready (rs := [5]) (by kernel_rfl) (by simp) ?_
                          refine AllReadyH.cons (o := { dst := some 71, op := Op.call { callee := Callee.value (Operand.func 17), args := #[Operand.tmp 70], argTypes := #[30] }, type := 48, pos := "law.go:63", after := #[{ on := 4, ground := Ground.data }, { on := 3, ground := Ground.chain }, { on := 3, ground := Ground.guard }], guard := some (3, false) }) rfl (fun K hK => ?_) AllReadyH.nil
                          refine wantCall1 ?_ 17 (.tmp 70) #[30] ?_ (.agg #[.int .i64 xf7, .int .i64 xt7, .slice a5 xL7.length c5]) ?_ ?_ ((enters_of Try.func17 (by kernel_rfl) rfl) _ _) ?_
                          · rfl
                          · rfl
                          · rfl
                          · rfl
                          refine (HOf8.out _ ((Old.refl w8).drew)).mono ?_
                          rintro o x177 ⟨rfl, b177⟩
                          refine ⟨_, rfl, ?_⟩
                          have U177 := ((Old.refl w8).drew).trans b177
                          refine hK.out _ _ (T7.old U177 HS8.out) (fun _ => ?_)
                          clear hK K
                          (try simp only [Act.put]); (try simp only [List.setIfInBounds_toArray]); (try simp only [List.set_cons_succ]); (try simp only [List.set_cons_zero])
                          refine wpAnyH_ready (rs := [7]) (by kernel_rfl) (by simp) ?_
                          refine AllReadyH.cons (o := { dst := some 73, op := Op.call { callee := Callee.value (Operand.func 18), args := #[Operand.tmp 71, Operand.tmp 72], argTypes := #[48, 48] }, type := 4, pos := "law.go:63", after := #[{ on := 5, ground := Ground.data }, { on := 6, ground := Ground.data }, { on := 5, ground := Ground.chain }, { on := 3, ground := Ground.guard }], guard := some (3, false) }) rfl (fun K hK => ?_) AllReadyH.nil
                          refine wantCall2 ?_ 18 (.tmp 71) (.tmp 72) #[48, 48] ?_ (.agg #[.int .i64 xf7, .int .i64 xt7, .slice a5 xL7.length c5]) (.agg #[.int .i64 xf7, .int .i64 xt7, .slice xa7 xL7.length xc7]) ?_ ?_ ?_ ((enters_of Try.func18 (by kernel_rfl) rfl) _ _) ?_
                          · rfl
                          · rfl
                          · rfl
                          · rfl
                          · rfl
                          refine (HSm8.out _ U177).mono ?_
                          rintro o x178 ⟨rfl, b178⟩
                          refine ⟨_, rfl, ?_⟩
                          have U178 := U177.trans b178
                          refine hK.out _ _ (T7.old U178 HS8.out) (fun _ => ?_)
                          clear hK K
                          (try simp only [Act.put]); (try simp only [List.setIfInBounds_toArray]); (try simp only [List.set_cons_succ]); (try simp only [List.set_cons_zero])
                          refine wpAnyH_take (i := 8) (oi := { dst := some 74, op := Op.unOp UnOp.not 4 (Operand.tmp 73), type := 4, pos := "law.go:63", after := #[{ on := 7, ground := Ground.data }, { on := 3, ground := Ground.guard }], guard := some (3, false) }) (v := ?vk179) rfl (by kernel_rfl) (by kernel_rfl) (by kernel_rfl) (fun _ _ _ h => h) (Or.inl ⟨by rfl, ?hk179⟩) (T7.old U178 HS8.out) ?rk179
                          case hk179 => (intro wz hSw; (try dsimp only at hSw); go_simp; try with_reducible rfl)
                          (try simp only [Act.put]); (try simp only [List.setIfInBounds_toArray]); (try simp only [List.set_cons_succ]); (try simp only [List.set_cons_zero])
                          refine wpAnyH_take (i := 9) (oi := { dst := some 75, op := Op.pick (Operand.tmp 69) (Operand.const (Value.bool true)) (Operand.tmp 74), type := 4, pos := "law.go:63", after := #[{ on := 3, ground := Ground.data }, { on := 8, ground := Ground.data }], guard := none }) (v := ?vk180) rfl (by kernel_rfl) (by kernel_rfl) (by kernel_rfl) (fun _ _ _ h => h) (Or.inl ⟨by rfl, ?hk180⟩) (T7.old U178 HS8.out) ?rk180
                          case hk180 => (intro wz hSw; (try dsimp only at hSw); go_simp; try with_reducible rfl)
                          (try simp only [Act.put]); (try simp only [List.setIfInBounds_toArray]); (try simp only [List.set_cons_succ]); (try simp only [List.set_cons_zero])
                          refine wpAnyH_take (i := 10) (oi := { dst := some 76, op := Op.move (Operand.tmp 75), type := 4, pos := "law.go:63", after := #[{ on := 9, ground := Ground.data }, { on := 7, ground := Ground.chain }], guard := none }) (v := ?vk181) rfl (by kernel_rfl) (by kernel_rfl) (by kernel_rfl) (fun _ _ _ h => h) (Or.inl ⟨by rfl, ?hk181⟩) (T7.old U178 HS8.out) ?rk181
                          case hk181 => (intro wz hSw; (try dsimp only at hSw); go_simp; try with_reducible rfl)
                          (try simp only [Act.put]); (try simp only [List.setIfInBounds_toArray]); (try simp only [List.set_cons_succ]); (try simp only [List.set_cons_zero])
                          refine wpAnyH_take (i := 11) (oi := { dst := some 77, op := Op.move (Operand.tmp 5), type := 23, pos := "law.go:63", after := #[{ on := 10, ground := Ground.guard }], guard := some (10, false) }) (v := ?vk182) rfl (by kernel_rfl) (by kernel_rfl) (by kernel_rfl) (fun _ _ _ h => h) (Or.inl ⟨by rfl, ?hk182⟩) (T7.old U178 HS8.out) ?rk182
                          case hk182 => (intro wz hSw; (try dsimp only at hSw); go_simp; try with_reducible rfl)
                          (try simp only [Act.put]); (try simp only [List.setIfInBounds_toArray]); (try simp only [List.set_cons_succ]); (try simp only [List.set_cons_zero])
                          refine wpAnyH_take (i := 13) (oi := { dst := some 79, op := Op.fieldAddr 46 (Operand.tmp 6) 1, type := 0, pos := "law.go:63", after := #[{ on := 10, ground := Ground.guard }], guard := some (10, false) }) (v := ?vk183) rfl (by kernel_rfl) (by kernel_rfl) (by kernel_rfl) (fun _ _ _ h => h) (Or.inl ⟨by rfl, ?hk183⟩) (T7.old U178 HS8.out) ?rk183
                          case hk183 => (intro wz hSw; (try dsimp only at hSw); go_simp; try with_reducible rfl)
                          (try simp only [Act.put]); (try simp only [List.setIfInBounds_toArray]); (try simp only [List.set_cons_succ]); (try simp only [List.set_cons_zero])
                          refine wpAnyH_take (i := 14) (oi := { dst := some 80, op := Op.load 44 (Operand.tmp 79), type := 44, pos := "law.go:63", after := #[{ on := 13, ground := Ground.data }, { on := 10, ground := Ground.guard }], guard := some (10, false) }) (v := ?vk184) rfl (by kernel_rfl) (by kernel_rfl) (by kernel_rfl) (fun _ _ _ h => h) (Or.inl ⟨by rfl, ?hk184⟩) (T7.old U178 HS8.out) ?rk184
                          case hk184 => (intro wz hSw; (try dsimp only at hSw); go_simp; try with_reducible rfl)
                          (try simp only [Act.put]); (try simp only [List.setIfInBounds_toArray]); (try simp only [List.set_cons_succ]); (try simp only [List.set_cons_zero])
                          refine wpAnyH_take (i := 15) (oi := { dst := some 81, op := Op.call { callee := Callee.builtin Builtin.len, args := #[Operand.tmp 80], argTypes := #[44] }, type := 3, pos := "law.go:63", after := #[{ on := 14, ground := Ground.data }, { on := 10, ground := Ground.guard }], guard := some (10, false) }) (v := ?vk185) rfl (by kernel_rfl) (by kernel_rfl) (by kernel_rfl) (fun _ _ _ h => h) (Or.inl ⟨by rfl, ?hk185⟩) (T7.old U178 HS8.out) ?rk185
                          case hk185 => (intro wz hSw; (try dsimp only at hSw); go_simp; try with_reducible rfl)
                          (try simp only [Act.put]); (try simp only [List.setIfInBounds_toArray]); (try simp only [List.set_cons_succ]); (try simp only [List.set_cons_zero])
                          refine wpAnyH_ready (rs := [12]) (by kernel_rfl) (by simp) ?_
                          refine AllReadyH.cons (o := { dst := some 78, op := Op.call { callee := Callee.value (Operand.func 11), args := #[Operand.tmp 77], argTypes := #[23] }, type := 3, pos := "law.go:63", after := #[{ on := 11, ground := Ground.data }, { on := 10, ground := Ground.chain }, { on := 10, ground := Ground.guard }], guard := some (10, false) }) rfl (fun K hK => ?_) AllReadyH.nil
                          refine wantCall1 ?_ 11 (.tmp 77) #[23] ?_ (.pointer (some ⟨nb, 0, none⟩)) ?_ ?_ ((enters_of Try.func11 (by kernel_rfl) rfl) _ _) ?_
                          · rfl
                          · rfl
                          · rfl
                          · rfl
                          refine (HLn8.out _ U178).mono ?_
                          rintro o x186 ⟨rfl, b186⟩
                          refine ⟨_, rfl, ?_⟩
                          have U186 := U178.trans b186
                          refine hK.out _ _ (T7.old U186 HS8.out) (fun _ => ?_)
                          clear hK K
                          (try simp only [Act.put]); (try simp only [List.setIfInBounds_toArray]); (try simp only [List.set_cons_succ]); (try simp only [List.set_cons_zero])
                          refine wpAnyH_take (i := 16) (oi := { dst := some 82, op := Op.binOp BinOp.neq 3 (Operand.tmp 78) (Operand.tmp 81) 3, type := 4, pos := "law.go:63", after := #[{ on := 12, ground := Ground.data }, { on := 15, ground := Ground.data }, { on := 10, ground := Ground.guard }], guard := some (10, false) }) (v := ?vk187) rfl (by kernel_rfl) (by kernel_rfl) (by kernel_rfl) (fun _ _ _ h => h) (Or.inl ⟨by rfl, ?hk187⟩) (T7.old U186 HS8.out) ?rk187
                          case hk187 => (intro wz hSw; (try dsimp only at hSw); go_simp; try with_reducible rfl)
                          (try simp only [Act.put]); (try simp only [List.setIfInBounds_toArray]); (try simp only [List.set_cons_succ]); (try simp only [List.set_cons_zero])
                          refine wpAnyH_take (i := 17) (oi := { dst := some 83, op := Op.pick (Operand.tmp 76) (Operand.const (Value.bool true)) (Operand.tmp 82), type := 4, pos := "law.go:63", after := #[{ on := 10, ground := Ground.data }, { on := 16, ground := Ground.data }], guard := none }) (v := ?vk188) rfl (by kernel_rfl) (by kernel_rfl) (by kernel_rfl) (fun _ _ _ h => h) (Or.inl ⟨by rfl, ?hk188⟩) (T7.old U186 HS8.out) ?rk188
                          case hk188 => (intro wz hSw; (try dsimp only at hSw); go_simp; try with_reducible rfl)
                          (try simp only [Act.put]); (try simp only [List.setIfInBounds_toArray]); (try simp only [List.set_cons_succ]); (try simp only [List.set_cons_zero])
                          refine wpAnyH_done (by kernel_rfl) ?_ _
                          refine NoPanic.normal ?_
                          have UY := hid U186
                          go_wp2
                          go_roundw
                          case rel => exact ⟨i + 1, a7, c7, Z, P5, hlt, by go_num, M8.out.old UY.out⟩
                          case measure => simp [intOf]; omega
            · skip
              refine stepAllocN ?_ ?_ ?_
              · rfl
              · rfl
              intro m25 y25 hm25 hy25
              have nn25 : y25.heap[m25]? = some (.cells #[.int .i64 0, .slice none 0 0] 46 (0, 0)) := by rw [hy25, hm25]; exact alloc_at _ _
              have b25 : Old (x10) y25 := by rw [hy25]; exact (Old.refl _).alloc _
              have Z25 : w6.heap.size ≤ m25 := by rw [hm25]; exact (U10).size
              clear hm25 hy25
              have U25 := (U10).trans b25
              refine hK.out _ _ (PS.old U25 HPS.out) (fun _ => ?_)
              clear hK K
              (try simp only [Act.put]); (try simp only [List.setIfInBounds_toArray]); (try simp only [List.set_cons_succ]); (try simp only [List.set_cons_zero])
              refine wpAnyH_ready (rs := [11, 17]) (by kernel_rfl) (by simp) ?_
              refine AllReadyH.cons (o := { dst := some 61, op := Op.call { callee := Callee.value (Operand.func 16), args := #[Operand.tmp 50, Operand.tmp 60], argTypes := #[46, 53] }, type := 49, pos := "law.go:61", after := #[{ on := 0, ground := Ground.data }, { on := 10, ground := Ground.data }, { on := 9, ground := Ground.chain }], guard := none }) rfl (fun K hK => ?_) (AllReadyH.cons (o := { dst := some 12, op := Op.alloc 48, type := 0, pos := "law.go:61", after := #[], guard := none }) rfl (fun K hK => ?_) AllReadyH.nil)
              · skip
                refine wantCall2 ?_ 16 (.tmp 50) (.tmp 60) #[46, 53] ?_ (.agg #[.int .i64 (most : Nat), .slice a Y.length cp]) (.agg #[.int .i64 ok, .int .i64 oi, .int .i64 om, .int .i64 of, .int .i64 ot, .slice pB oL.length cB]) ?_ ?_ ?_ ((enters_of Try.func16 (by kernel_rfl) rfl) _ _) ?_
                · rfl
                · rfl
                · rfl
                · rfl
                · rfl
                refine (HDc.out _ U25).mono ?_
                rintro o x26 ⟨a7, c7, Z, x7, rfl, d26, hZ26, hx26, s26, b26, nw26⟩
                refine ⟨_, rfl, ?_⟩
                have HZ7 := hid hZ26
                have HX7 := hid hx26
                have Nm11 := hid (show ∀ g, (Value.slice a7 Z.length c7).ownBlock = some g → g ≠ m25 from fun g e => by rcases nw26 g e with h | h; (have := (D6.out.row.lt g h).2; have := Z25; omega); (have := blk_lt nn25; omega))
                clear hZ26 hx26 nw26
                have U26 := (U25).trans b26
                have n11_26 := (b26).block nn25
                refine hK.out _ _ (PS.old U26 HPS.out) (fun _ => ?_)
                clear hK K
                (try simp only [Act.put]); (try simp only [List.setIfInBounds_toArray]); (try simp only [List.set_cons_succ]); (try simp only [List.set_cons_zero])
                refine wpAnyH_take (i := 12) (oi := { dst := some 49, op := Op.move (Operand.tmp 61), type := 49, pos := "law.go:61", after := #[{ on := 11, ground := Ground.data }], guard := none }) (v := ?vk27) rfl (by kernel_rfl) (by kernel_rfl) (by kernel_rfl) (fun _ _ _ h => h) (Or.inl ⟨by rfl, ?hk27⟩) (PS.old U26 HPS.out) ?rk27
                case hk27 => (intro wz hSw; (try dsimp only at hSw); go_simp; try with_reducible rfl)
                (try simp only [Act.put]); (try simp only [List.setIfInBounds_toArray]); (try simp only [List.set_cons_succ]); (try simp only [List.set_cons_zero])
                refine wpAnyH_take (i := 13) (oi := { dst := some 62, op := Op.extract (Operand.tmp 49) 0, type := 46, pos := "law.go:61", after := #[{ on := 12, ground := Ground.data }], guard := none }) (v := ?vk28) rfl (by kernel_rfl) (by kernel_rfl) (by kernel_rfl) (fun _ _ _ h => h) (Or.inl ⟨by rfl, ?hk28⟩) (PS.old U26 HPS.out) ?rk28
                case hk28 => (intro wz hSw; (try dsimp only at hSw); go_simp; try with_reducible rfl)
                (try simp only [Act.put]); (try simp only [List.setIfInBounds_toArray]); (try simp only [List.set_cons_succ]); (try simp only [List.set_cons_zero])
                refine wpAnyH_take (i := 14) (oi := { dst := some 63, op := Op.extract (Operand.tmp 49) 1, type := 48, pos := "law.go:61", after := #[{ on := 12, ground := Ground.data }, { on := 18, ground := Ground.gcOnly Departure.lateStores }], guard := none }) (v := ?vk29) rfl (by kernel_rfl) (by kernel_rfl) (by kernel_rfl) (fun _ _ _ h => h) (Or.inl ⟨by rfl, ?hk29⟩) (PS.old U26 HPS.out) ?rk29
                case hk29 => (intro wz hSw; (try dsimp only at hSw); go_simp; try with_reducible rfl)
                (try simp only [Act.put]); (try simp only [List.setIfInBounds_toArray]); (try simp only [List.set_cons_succ]); (try simp only [List.set_cons_zero])
                refine wpAnyH_take (i := 15) (oi := { dst := some 64, op := Op.extract (Operand.tmp 49) 2, type := 4, pos := "law.go:61", after := #[{ on := 12, ground := Ground.data }, { on := 19, ground := Ground.gcOnly Departure.lateStores }], guard := none }) (v := ?vk30) rfl (by kernel_rfl) (by kernel_rfl) (by kernel_rfl) (fun _ _ _ h => h) (Or.inl ⟨by rfl, ?hk30⟩) (PS.old U26 HPS.out) ?rk30
                case hk30 => (intro wz hSw; (try dsimp only at hSw); go_simp; try with_reducible rfl)
                (try simp only [Act.put]); (try simp only [List.setIfInBounds_toArray]); (try simp only [List.set_cons_succ]); (try simp only [List.set_cons_zero])
                refine wpAnyH_ready (rs := [17]) (by kernel_rfl) (by simp) ?_
                refine AllReadyH.cons (o := { dst := some 12, op := Op.alloc 48, type := 0, pos := "law.go:61", after := #[], guard := none }) rfl (fun K hK => ?_) AllReadyH.nil
                · skip
                  refine stepAllocR ?_ ?_ ?_
                  · rfl
                  · rfl
                  intro m31 y31 hm31 hy31
                  have nn31 : y31.heap[m31]? = some (.cells #[.int .i64 0, .int .i64 0, .slice none 0 0] 48 (0, 0)) := by rw [hy31, hm31]; exact alloc_at _ _
                  have b31 : Old (x26) y31 := by rw [hy31]; exact (Old.refl _).alloc _
                  have Z31 : w6.heap.size ≤ m31 := by rw [hm31]; exact (U26).size
                  have Nm12 := hid (show ∀ g, (Value.slice a7 Z.length c7).ownBlock = some g → g ≠ m31 from fun g e => by have := ((d26).row.lt g e).2; omega)
                  clear hm31 hy31
                  have U31 := (U26).trans b31
                  have n11_31 := (b31).block n11_26
                  have dz31 := DocAt.old d26 b31
                  have sx31 := Sr.old s26 b31
                  refine hK.out _ _ (PS.old U31 HPS.out) (fun _ => ?_)
                  clear hK K
                  (try simp only [Act.put]); (try simp only [List.setIfInBounds_toArray]); (try simp only [List.set_cons_succ]); (try simp only [List.set_cons_zero])
                  refine wpAnyH_ready (rs := [18]) (by kernel_rfl) (by simp) ?_
                  refine AllReadyH.cons (o := { dst := none, op := Op.store 46 (Operand.tmp 11) (Operand.tmp 62), type := 0, pos := "law.go:61", after := #[{ on := 16, ground := Ground.data }, { on := 13, ground := Ground.data }, { on := 11, ground := Ground.chain }, { on := 0, ground := Ground.phase }, { on := 1, ground := Ground.phase }, { on := 2, ground := Ground.phase }, { on := 3, ground := Ground.phase }, { on := 4, ground := Ground.phase }, { on := 5, ground := Ground.phase }, { on := 6, ground := Ground.phase }, { on := 7, ground := Ground.phase }, { on := 8, ground := Ground.phase }, { on := 9, ground := Ground.phase }, { on := 10, ground := Ground.phase }, { on := 11, ground := Ground.phase }, { on := 12, ground := Ground.phase }, { on := 13, ground := Ground.phase }, { on := 14, ground := Ground.textOnly Departure.lateStores }, { on := 15, ground := Ground.textOnly Departure.lateStores }, { on := 16, ground := Ground.phase }, { on := 17, ground := Ground.phase }], guard := none }) rfl (fun K hK => ?_) AllReadyH.nil
                  · skip
                    refine stepStoreN2 ?_ (.tmp 11) (.tmp 62) ?_ m25 (.int .i64 (most : Nat)) (.slice a7 Z.length c7) ?_ ?_ (there2 n11_31) ⟨rfl, rfl⟩ ?_
                    · rfl
                    · rfl
                    · rfl
                    · rfl
                    have ne32 : m31 ≠ m25 := fun e => by have h1 := n11_31; have h2 := nn31; rw [e, h1] at h2; simp at h2
                    have q32 := set_other (v := .slice a7 Z.length c7) (i := 1) (set_other (v := .int .i64 (most : Nat)) (i := 0) nn31 ne32) ne32
                    have U32 := ((U31).setCell (p := ⟨m25, 0, none⟩) Z25 (.int .i64 (most : Nat))).setCell (p := ⟨m25, 1, none⟩) Z25 (.slice a7 Z.length c7)
                    refine hK.out _ _ (PS.old U32 HPS.out) (fun _ => ?_)
                    clear hK K
                    (try simp only [Act.put]); (try simp only [List.setIfInBounds_toArray]); (try simp only [List.set_cons_succ]); (try simp only [List.set_cons_zero])
                    refine wpAnyH_ready (rs := [19]) (by kernel_rfl) (by simp) ?_
                    refine AllReadyH.cons (o := { dst := none, op := Op.store 48 (Operand.tmp 12) (Operand.tmp 63), type := 0, pos := "law.go:61", after := #[{ on := 17, ground := Ground.data }, { on := 14, ground := Ground.data }, { on := 18, ground := Ground.chain }, { on := 0, ground := Ground.phase }, { on := 1, ground := Ground.phase }, { on := 2, ground := Ground.phase }, { on := 3, ground := Ground.phase }, { on := 4, ground := Ground.phase }, { on := 5, ground := Ground.phase }, { on := 6, ground := Ground.phase }, { on := 7, ground := Ground.phase }, { on := 8, ground := Ground.phase }, { on := 9, ground := Ground.phase }, { on := 10, ground := Ground.phase }, { on := 11, ground := Ground.phase }, { on := 12, ground := Ground.phase }, { on := 13, ground := Ground.phase }, { on := 14, ground := Ground.phase }, { on := 15, ground := Ground.textOnly Departure.lateStores }, { on := 16, ground := Ground.phase }, { on := 17, ground := Ground.phase }, { on := 18, ground := Ground.phase }], guard := none }) rfl (fun K hK => ?_) AllReadyH.nil
                    · skip
                      refine stepStoreR3 ?_ (.tmp 12) (.tmp 63) ?_ m31 (.int .i64 x7.f) (.int .i64 x7.t) (.slice x7.a x7.L.length x7.c) ?_ ?_ (there3 q32) ⟨rfl, rfl, rfl⟩ ?_
                      · rfl
                      · rfl
                      · rfl
                      · rfl
                      have U33 := (((U32).setCell (p := ⟨m31, 0, none⟩) Z31 (.int .i64 x7.f)).setCell (p := ⟨m31, 1, none⟩) Z31 (.int .i64 x7.t)).setCell (p := ⟨m31, 2, none⟩) Z31 (.slice x7.a x7.L.length x7.c)
                      refine hK.out _ _ (PS.old U33 HPS.out) (fun _ => ?_)
                      clear hK K
                      (try simp only [Act.put]); (try simp only [List.setIfInBounds_toArray]); (try simp only [List.set_cons_succ]); (try simp only [List.set_cons_zero])
                      refine wpAnyH_ready (rs := [20]) (by kernel_rfl) (by simp) ?_
                      refine AllReadyH.cons (o := { dst := some 13, op := Op.assign (Operand.tmp 64), type := 4, pos := "law.go:61", after := #[{ on := 15, ground := Ground.data }, { on := 19, ground := Ground.chain }, { on := 0, ground := Ground.phase }, { on := 1, ground := Ground.phase }, { on := 2, ground := Ground.phase }, { on := 3, ground := Ground.phase }, { on := 4, ground := Ground.phase }, { on := 5, ground := Ground.phase }, { on := 6, ground := Ground.phase }, { on := 7, ground := Ground.phase }, { on := 8, ground := Ground.phase }, { on := 9, ground := Ground.phase }, { on := 10, ground := Ground.phase }, { on := 11, ground := Ground.phase }, { on := 12, ground := Ground.phase }, { on := 13, ground := Ground.phase }, { on := 14, ground := Ground.phase }, { on := 15, ground := Ground.phase }, { on := 16, ground := Ground.phase }, { on := 17, ground := Ground.phase }, { on := 18, ground := Ground.phase }, { on := 19, ground := Ground.phase }], guard := none }) rfl (fun K hK => ?_) AllReadyH.nil
                      · skip
                        go_simp
                        refine hK.out _ _ (PS.old U33 HPS.out) (fun _ => ?_)
                        clear hK K
                        (try simp only [Act.put]); (try simp only [List.setIfInBounds_toArray]); (try simp only [List.set_cons_succ]); (try simp only [List.set_cons_zero])
                        refine wpAnyH_done (by kernel_rfl) ?_ _
                        refine NoPanic.normal ?_
                        have FF := hid (rfin (p := .int .i64 (most : Nat)) (q := .slice a7 Z.length c7) (x := .int .i64 x7.f) (y := .int .i64 x7.t) (z := .slice x7.a x7.L.length x7.c) n11_31 nn31)
                        have D7 := hid (show DocAt w (((((y31.setCell ⟨m25, 0, none⟩ (.int .i64 (most : Nat))).setCell ⟨m25, 1, none⟩ (.slice a7 Z.length c7)).setCell ⟨m31, 0, none⟩ (.int .i64 x7.f)).setCell ⟨m31, 1, none⟩ (.int .i64 x7.t)).setCell ⟨m31, 2, none⟩ (.slice x7.a x7.L.length x7.c)) (.slice a7 Z.length c7) Z from DocAt.chg2 (B := 0) dz31 FF.out.2.2 n11_31 nn31 (fun g e => ⟨Nm11.out g e, Nm12.out g e⟩))
                        have S7 := hid (show Sr w (((((y31.setCell ⟨m25, 0, none⟩ (.int .i64 (most : Nat))).setCell ⟨m25, 1, none⟩ (.slice a7 Z.length c7)).setCell ⟨m31, 0, none⟩ (.int .i64 x7.f)).setCell ⟨m31, 1, none⟩ (.int .i64 x7.t)).setCell ⟨m31, 2, none⟩ (.slice x7.a x7.L.length x7.c)) x7.v x7.L from Sr.chg2 sx31 FF.out.2.2 n11_31 nn31)
                        have F11 := hid (show (((((y31.setCell ⟨m25, 0, none⟩ (.int .i64 (most : Nat))).setCell ⟨m25, 1, none⟩ (.slice a7 Z.length c7)).setCell ⟨m31, 0, none⟩ (.int .i64 x7.f)).setCell ⟨m31, 1, none⟩ (.int .i64 x7.t)).setCell ⟨m31, 2, none⟩ (.slice x7.a x7.L.length x7.c)).heap[m25]? = some (.cells #[.int .i64 (most : Nat), .slice a7 Z.length c7] 46 (0, 0)) from FF.out.1)
                        have F12 := hid (show (((((y31.setCell ⟨m25, 0, none⟩ (.int .i64 (most : Nat))).setCell ⟨m25, 1, none⟩ (.slice a7 Z.length c7)).setCell ⟨m31, 0, none⟩ (.int .i64 x7.f)).setCell ⟨m31, 1, none⟩ (.int .i64 x7.t)).setCell ⟨m31, 2, none⟩ (.slice x7.a x7.L.length x7.c)).heap[m31]? = some (.cells #[.int .i64 x7.f, .int .i64 x7.t, .slice x7.a x7.L.length x7.c] 48 (0, 0)) from FF.out.2.1)
                        have UZ := hid (show Old w6 (((((y31.setCell ⟨m25, 0, none⟩ (.int .i64 (most : Nat))).setCell ⟨m25, 1, none⟩ (.slice a7 Z.length c7)).setCell ⟨m31, 0, none⟩ (.int .i64 x7.f)).setCell ⟨m31, 1, none⟩ (.int .i64 x7.t)).setCell ⟨m31, 2, none⟩ (.slice x7.a x7.L.length x7.c)) from U33)
                        clear FF Nm11 Nm12 n11_31 nn31 q32 dz31 sx31 U33
                        generalize (((((y31.setCell ⟨m25, 0, none⟩ (.int .i64 (most : Nat))).setCell ⟨m25, 1, none⟩ (.slice a7 Z.length c7)).setCell ⟨m31, 0, none⟩ (.int .i64 x7.f)).setCell ⟨m31, 1, none⟩ (.int .i64 x7.t)).setCell ⟨m31, 2, none⟩ (.slice x7.a x7.L.length x7.c)) = w7 at *
                        generalize m25 = b11 at *
                        generalize m31 = b12 at *
                        have N7 := hid (N6.out.old UZ.out)
                        have HBm7 := hid (UZ.out.block HBm6.out)
                        have HB97 := hid (UZ.out.block HB9.out)
                        have O7 := hid (O6.out.old UZ.out)
                        clear N6 HBm6 HB9 O6 D6 HBo6 HPS HOf HDc UZ
                        obtain ⟨xf7, xt7, xa7, xc7, xL7⟩ := x7
                        obtain ⟨e1, e2, e3⟩ : xf7 = xf ∧ xt7 = xt ∧ xL7 = xL := by
                          have h := HX7.out
                          unfold Lt.p at h
                          simp only [Prod.mk.injEq] at h
                          exact h
                        clear HX7
                        subst e1 e2 e3
                        dsimp only at S7 F12
                        unfold Lt.v at S7
                        dsimp only at S7
                        obtain ⟨r0, r1, -, -⟩ := box2 F11.out
                        obtain ⟨s0, s1, sf0, sf1⟩ := box2 HBm7.out
                        go_upto_region 12 with (fail)
                        have M8 := hid (PA.set (cs := #[]) (most := most) N7.out HBm7.out HNw.out D7.out HZ7.out)
                        have ne12 : b12 ≠ bm := fun e => by have h1 := F12.out; rw [e, HBm7.out] at h1; simp at h1
                        have ne9 : b9 ≠ bm := fun e => by have h1 := HB97.out; rw [e, HBm7.out] at h1; simp at h1
                        have G12 := hid (set_other (v := .slice a7 Z.length c7) (i := 1) (set_other (v := .int .i64 (most : Nat)) (i := 0) F12.out ne12) ne12)
                        have G9 := hid (set_other (v := .slice a7 Z.length c7) (i := 1) (set_other (v := .int .i64 (most : Nat)) (i := 0) HB97.out ne9) ne9)
                        have O8 := hid (O7.out.chg (chg2 w7 bm (.int .i64 (most : Nat)) (.slice a7 Z.length c7)) (O7.out.offT HBm7.out (by decide)))
                        have S8 := hid (S7.out.chgT (chg2 w7 bm (.int .i64 (most : Nat)) (.slice a7 Z.length c7)) HBm7.out)
                        clear r0 r1 s0 s1 sf0 sf1 F11 F12 HBm7 HB97 O7 N7 S7 D7 ne12 ne9
                        generalize (w7.setCell ⟨bm, 0, none⟩ (.int .i64 (most : Nat))).setCell ⟨bm, 1, none⟩ (.slice a7 Z.length c7) = w8 at *
                        have HS8 := hid (show (fun wz => (wz.cell? ⟨b9, 0, none⟩ = some (.int .i64 xf7) ∧ wz.cell? ⟨b9, 1, none⟩ = some (.int .i64 xt7) ∧ wz.cell? ⟨b9, 2, none⟩ = some (.slice a5 xL7.length c5)) ∧ (wz.cell? ⟨b12, 0, none⟩ = some (.int .i64 xf7) ∧ wz.cell? ⟨b12, 1, none⟩ = some (.int .i64 xt7) ∧ wz.cell? ⟨b12, 2, none⟩ = some (.slice xa7 xL7.length xc7)) ∧ wz.cell? ⟨bm, 1, none⟩ = some (.slice a7 Z.length c7)) w8 from ⟨⟨(box3 G9.out).1, (box3 G9.out).2.1, (box3 G9.out).2.2.1⟩, ⟨(box3 G12.out).1, (box3 G12.out).2.1, (box3 G12.out).2.2.1⟩, (box2 M8.out.box).2.1⟩)
                        dsimp only at HS8
                        have HOf8 := hid (fun (W : World) (u : Old w8 W) => rof_any xf7 xt7 a5 xL7.length c5 W)
                        have HSm8 := hid (fun (W : World) (u : Old w8 W) => rsame_any xf7 xt7 a5 xa7 c5 xc7 xL7 W ((O8.out.old u).row) ((S8.out.old u).row (M8.out.net.base.trans u)))
                        have HLn8 := hid (show ∀ W, Old w8 W → Calls Try.prog 11 #[.pointer (some ⟨nb, 0, none⟩)] W fun e w' => e = .returned (.int .i64 (Z.length : Nat)) ∧ Old W w' from fun W u => (lenN w W nb most P5 [] (M8.out.net.old u)).mono fun e w' q => ⟨by rw [q.1, ← HZ7.out, List.length_map], by rw [q.2]; exact Old.refl _⟩)
                        clear G12 G9 O8 S8
                        cases b5
                        case false =>
                          refine wp_region_noPanic ?_
                          refine wp_region_held_drew (S := fun wz => (wz.cell? ⟨b9, 0, none⟩ = some (.int .i64 xf7) ∧ wz.cell? ⟨b9, 1, none⟩ = some (.int .i64 xt7) ∧ wz.cell? ⟨b9, 2, none⟩ = some (.slice a5 xL7.length c5)) ∧ (wz.cell? ⟨b12, 0, none⟩ = some (.int .i64 xf7) ∧ wz.cell? ⟨b12, 1, none⟩ = some (.int .i64 xt7) ∧ wz.cell? ⟨b12, 2, none⟩ = some (.slice xa7 xL7.length xc7)) ∧ wz.cell? ⟨bm, 1, none⟩ = some (.slice a7 Z.length c7)) (by kernel_rfl) ?_ (fun hHeld => ?_)
                          · exact T7.old ((Old.refl _).drew) HS8.out
                          (try simp only [Act.put]); (try simp only [List.setIfInBounds_toArray]); (try simp only [List.set_cons_succ]); (try simp only [List.set_cons_zero])
                          clear hHeld
                          refine wpAnyH_take (i := 0) (oi := { dst := some 66, op := Op.move (Operand.tmp 10), type := 4, pos := "law.go:63", after := #[], guard := none }) (v := ?vk189) rfl (by kernel_rfl) (by kernel_rfl) (by kernel_rfl) (fun _ _ _ h => h) (Or.inl ⟨by rfl, ?hk189⟩) (T7.old ((Old.refl w8).drew) HS8.out) ?rk189
                          case hk189 => (intro wz hSw; (try dsimp only at hSw); go_simp; try with_reducible rfl)
                          (try simp only [Act.put]); (try simp only [List.setIfInBounds_toArray]); (try simp only [List.set_cons_succ]); (try simp only [List.set_cons_zero])
                          refine wpAnyH_take (i := 1) (oi := { dst := some 67, op := Op.move (Operand.tmp 13), type := 4, pos := "law.go:63", after := #[], guard := none }) (v := ?vk190) rfl (by kernel_rfl) (by kernel_rfl) (by kernel_rfl) (fun _ _ _ h => h) (Or.inl ⟨by rfl, ?hk190⟩) (T7.old ((Old.refl w8).drew) HS8.out) ?rk190
                          case hk190 => (intro wz hSw; (try dsimp only at hSw); go_simp; try with_reducible rfl)
                          (try simp only [Act.put]); (try simp only [List.setIfInBounds_toArray]); (try simp only [List.set_cons_succ]); (try simp only [List.set_cons_zero])
                          refine wpAnyH_take (i := 2) (oi := { dst := some 68, op := Op.binOp BinOp.neq 4 (Operand.tmp 66) (Operand.tmp 67) 4, type := 4, pos := "law.go:63", after := #[{ on := 0, ground := Ground.data }, { on := 1, ground := Ground.data }], guard := none }) (v := ?vk191) rfl (by kernel_rfl) (by kernel_rfl) (by kernel_rfl) (fun _ _ _ h => h) (Or.inl ⟨by rfl, ?hk191⟩) (T7.old ((Old.refl w8).drew) HS8.out) ?rk191
                          case hk191 => (intro wz hSw; (try dsimp only at hSw); go_simp; try with_reducible rfl)
                          (try simp only [Act.put]); (try simp only [List.setIfInBounds_toArray]); (try simp only [List.set_cons_succ]); (try simp only [List.set_cons_zero])
                          refine wpAnyH_take (i := 3) (oi := { dst := some 69, op := Op.move (Operand.tmp 68), type := 4, pos := "law.go:63", after := #[{ on := 2, ground := Ground.data }], guard := none }) (v := ?vk192) rfl (by kernel_rfl) (by kernel_rfl) (by kernel_rfl) (fun _ _ _ h => h) (Or.inl ⟨by rfl, ?hk192⟩) (T7.old ((Old.refl w8).drew) HS8.out) ?rk192
                          case hk192 => (intro wz hSw; (try dsimp only at hSw); go_simp; try with_reducible rfl)
                          (try simp only [Act.put]); (try simp only [List.setIfInBounds_toArray]); (try simp only [List.set_cons_succ]); (try simp only [List.set_cons_zero])
                          refine wpAnyH_take (i := 4) (oi := { dst := some 70, op := Op.load 30 (Operand.tmp 9), type := 30, pos := "law.go:63", after := #[{ on := 3, ground := Ground.guard }], guard := some (3, false) }) (v := ?vk193) rfl (by kernel_rfl) (by kernel_rfl) (by kernel_rfl) (fun _ _ _ h => h) (Or.inl ⟨by rfl, ?hk193⟩) (T7.old ((Old.refl w8).drew) HS8.out) ?rk193
                          case hk193 => (intro wz hSw; (try dsimp only at hSw); go_simp; try with_reducible rfl)
                          (try simp only [Act.put]); (try simp only [List.setIfInBounds_toArray]); (try simp only [List.set_cons_succ]); (try simp only [List.set_cons_zero])
                          refine wpAnyH_take (i := 6) (oi := { dst := some 72, op := Op.load 48 (Operand.tmp 12), type := 48, pos := "law.go:63", after := #[{ on := 3, ground := Ground.guard }], guard := some (3, false) }) (v := ?vk194) rfl (by kernel_rfl) (by kernel_rfl) (by kernel_rfl) (fun _ _ _ h => h) (Or.inl ⟨by rfl, ?hk194⟩) (T7.old ((Old.refl w8).drew) HS8.out) ?rk194
                          case hk194 => (intro wz hSw; (try dsimp only at hSw); go_simp; try with_reducible rfl)
                          (try simp only [Act.put]); (try simp only [List.setIfInBounds_toArray]); (try simp only [List.set_cons_succ]); (try simp only [List.set_cons_zero])
                          refine wpAnyH_ready (rs := [5]) (by kernel_rfl) (by simp) ?_
                          refine AllReadyH.cons (o := { dst := some 71, op := Op.call { callee := Callee.value (Operand.func 17), args := #[Operand.tmp 70], argTypes := #[30] }, type := 48, pos := "law.go:63", after := #[{ on := 4, ground := Ground.data }, { on := 3, ground := Ground.chain }, { on := 3, ground := Ground.guard }], guard := some (3, false) }) rfl (fun K hK => ?_) AllReadyH.nil
                          refine wantCall1 ?_ 17 (.tmp 70) #[30] ?_ (.agg #[.int .i64 xf7, .int .i64 xt7, .slice a5 xL7.length c5]) ?_ ?_ ((enters_of Try.func17 (by kernel_rfl) rfl) _ _) ?_
                          · rfl
                          · rfl
                          · rfl
                          · rfl
                          refine (HOf8.out _ ((Old.refl w8).drew)).mono ?_
                          rintro o x195 ⟨rfl, b195⟩
                          refine ⟨_, rfl, ?_⟩
                          have U195 := ((Old.refl w8).drew).trans b195
                          refine hK.out _ _ (T7.old U195 HS8.out) (fun _ => ?_)
                          clear hK K
                          (try simp only [Act.put]); (try simp only [List.setIfInBounds_toArray]); (try simp only [List.set_cons_succ]); (try simp only [List.set_cons_zero])
                          refine wpAnyH_ready (rs := [7]) (by kernel_rfl) (by simp) ?_
                          refine AllReadyH.cons (o := { dst := some 73, op := Op.call { callee := Callee.value (Operand.func 18), args := #[Operand.tmp 71, Operand.tmp 72], argTypes := #[48, 48] }, type := 4, pos := "law.go:63", after := #[{ on := 5, ground := Ground.data }, { on := 6, ground := Ground.data }, { on := 5, ground := Ground.chain }, { on := 3, ground := Ground.guard }], guard := some (3, false) }) rfl (fun K hK => ?_) AllReadyH.nil
                          refine wantCall2 ?_ 18 (.tmp 71) (.tmp 72) #[48, 48] ?_ (.agg #[.int .i64 xf7, .int .i64 xt7, .slice a5 xL7.length c5]) (.agg #[.int .i64 xf7, .int .i64 xt7, .slice xa7 xL7.length xc7]) ?_ ?_ ?_ ((enters_of Try.func18 (by kernel_rfl) rfl) _ _) ?_
                          · rfl
                          · rfl
                          · rfl
                          · rfl
                          · rfl
                          refine (HSm8.out _ U195).mono ?_
                          rintro o x196 ⟨rfl, b196⟩
                          refine ⟨_, rfl, ?_⟩
                          have U196 := U195.trans b196
                          refine hK.out _ _ (T7.old U196 HS8.out) (fun _ => ?_)
                          clear hK K
                          (try simp only [Act.put]); (try simp only [List.setIfInBounds_toArray]); (try simp only [List.set_cons_succ]); (try simp only [List.set_cons_zero])
                          refine wpAnyH_take (i := 8) (oi := { dst := some 74, op := Op.unOp UnOp.not 4 (Operand.tmp 73), type := 4, pos := "law.go:63", after := #[{ on := 7, ground := Ground.data }, { on := 3, ground := Ground.guard }], guard := some (3, false) }) (v := ?vk197) rfl (by kernel_rfl) (by kernel_rfl) (by kernel_rfl) (fun _ _ _ h => h) (Or.inl ⟨by rfl, ?hk197⟩) (T7.old U196 HS8.out) ?rk197
                          case hk197 => (intro wz hSw; (try dsimp only at hSw); go_simp; try with_reducible rfl)
                          (try simp only [Act.put]); (try simp only [List.setIfInBounds_toArray]); (try simp only [List.set_cons_succ]); (try simp only [List.set_cons_zero])
                          refine wpAnyH_take (i := 9) (oi := { dst := some 75, op := Op.pick (Operand.tmp 69) (Operand.const (Value.bool true)) (Operand.tmp 74), type := 4, pos := "law.go:63", after := #[{ on := 3, ground := Ground.data }, { on := 8, ground := Ground.data }], guard := none }) (v := ?vk198) rfl (by kernel_rfl) (by kernel_rfl) (by kernel_rfl) (fun _ _ _ h => h) (Or.inl ⟨by rfl, ?hk198⟩) (T7.old U196 HS8.out) ?rk198
                          case hk198 => (intro wz hSw; (try dsimp only at hSw); go_simp; try with_reducible rfl)
                          (try simp only [Act.put]); (try simp only [List.setIfInBounds_toArray]); (try simp only [List.set_cons_succ]); (try simp only [List.set_cons_zero])
                          refine wpAnyH_take (i := 10) (oi := { dst := some 76, op := Op.move (Operand.tmp 75), type := 4, pos := "law.go:63", after := #[{ on := 9, ground := Ground.data }, { on := 7, ground := Ground.chain }], guard := none }) (v := ?vk199) rfl (by kernel_rfl) (by kernel_rfl) (by kernel_rfl) (fun _ _ _ h => h) (Or.inl ⟨by rfl, ?hk199⟩) (T7.old U196 HS8.out) ?rk199
                          case hk199 => (intro wz hSw; (try dsimp only at hSw); go_simp; try with_reducible rfl)
                          (try simp only [Act.put]); (try simp only [List.setIfInBounds_toArray]); (try simp only [List.set_cons_succ]); (try simp only [List.set_cons_zero])
                          refine wpAnyH_take (i := 11) (oi := { dst := some 77, op := Op.move (Operand.tmp 5), type := 23, pos := "law.go:63", after := #[{ on := 10, ground := Ground.guard }], guard := some (10, false) }) (v := ?vk200) rfl (by kernel_rfl) (by kernel_rfl) (by kernel_rfl) (fun _ _ _ h => h) (Or.inl ⟨by rfl, ?hk200⟩) (T7.old U196 HS8.out) ?rk200
                          case hk200 => (intro wz hSw; (try dsimp only at hSw); go_simp; try with_reducible rfl)
                          (try simp only [Act.put]); (try simp only [List.setIfInBounds_toArray]); (try simp only [List.set_cons_succ]); (try simp only [List.set_cons_zero])
                          refine wpAnyH_take (i := 13) (oi := { dst := some 79, op := Op.fieldAddr 46 (Operand.tmp 6) 1, type := 0, pos := "law.go:63", after := #[{ on := 10, ground := Ground.guard }], guard := some (10, false) }) (v := ?vk201) rfl (by kernel_rfl) (by kernel_rfl) (by kernel_rfl) (fun _ _ _ h => h) (Or.inl ⟨by rfl, ?hk201⟩) (T7.old U196 HS8.out) ?rk201
                          case hk201 => (intro wz hSw; (try dsimp only at hSw); go_simp; try with_reducible rfl)
                          (try simp only [Act.put]); (try simp only [List.setIfInBounds_toArray]); (try simp only [List.set_cons_succ]); (try simp only [List.set_cons_zero])
                          refine wpAnyH_take (i := 14) (oi := { dst := some 80, op := Op.load 44 (Operand.tmp 79), type := 44, pos := "law.go:63", after := #[{ on := 13, ground := Ground.data }, { on := 10, ground := Ground.guard }], guard := some (10, false) }) (v := ?vk202) rfl (by kernel_rfl) (by kernel_rfl) (by kernel_rfl) (fun _ _ _ h => h) (Or.inl ⟨by rfl, ?hk202⟩) (T7.old U196 HS8.out) ?rk202
                          case hk202 => (intro wz hSw; (try dsimp only at hSw); go_simp; try with_reducible rfl)
                          (try simp only [Act.put]); (try simp only [List.setIfInBounds_toArray]); (try simp only [List.set_cons_succ]); (try simp only [List.set_cons_zero])
                          refine wpAnyH_take (i := 15) (oi := { dst := some 81, op := Op.call { callee := Callee.builtin Builtin.len, args := #[Operand.tmp 80], argTypes := #[44] }, type := 3, pos := "law.go:63", after := #[{ on := 14, ground := Ground.data }, { on := 10, ground := Ground.guard }], guard := some (10, false) }) (v := ?vk203) rfl (by kernel_rfl) (by kernel_rfl) (by kernel_rfl) (fun _ _ _ h => h) (Or.inl ⟨by rfl, ?hk203⟩) (T7.old U196 HS8.out) ?rk203
                          case hk203 => (intro wz hSw; (try dsimp only at hSw); go_simp; try with_reducible rfl)
                          (try simp only [Act.put]); (try simp only [List.setIfInBounds_toArray]); (try simp only [List.set_cons_succ]); (try simp only [List.set_cons_zero])
                          refine wpAnyH_ready (rs := [12]) (by kernel_rfl) (by simp) ?_
                          refine AllReadyH.cons (o := { dst := some 78, op := Op.call { callee := Callee.value (Operand.func 11), args := #[Operand.tmp 77], argTypes := #[23] }, type := 3, pos := "law.go:63", after := #[{ on := 11, ground := Ground.data }, { on := 10, ground := Ground.chain }, { on := 10, ground := Ground.guard }], guard := some (10, false) }) rfl (fun K hK => ?_) AllReadyH.nil
                          refine wantCall1 ?_ 11 (.tmp 77) #[23] ?_ (.pointer (some ⟨nb, 0, none⟩)) ?_ ?_ ((enters_of Try.func11 (by kernel_rfl) rfl) _ _) ?_
                          · rfl
                          · rfl
                          · rfl
                          · rfl
                          refine (HLn8.out _ U196).mono ?_
                          rintro o x204 ⟨rfl, b204⟩
                          refine ⟨_, rfl, ?_⟩
                          have U204 := U196.trans b204
                          refine hK.out _ _ (T7.old U204 HS8.out) (fun _ => ?_)
                          clear hK K
                          (try simp only [Act.put]); (try simp only [List.setIfInBounds_toArray]); (try simp only [List.set_cons_succ]); (try simp only [List.set_cons_zero])
                          refine wpAnyH_take (i := 16) (oi := { dst := some 82, op := Op.binOp BinOp.neq 3 (Operand.tmp 78) (Operand.tmp 81) 3, type := 4, pos := "law.go:63", after := #[{ on := 12, ground := Ground.data }, { on := 15, ground := Ground.data }, { on := 10, ground := Ground.guard }], guard := some (10, false) }) (v := ?vk205) rfl (by kernel_rfl) (by kernel_rfl) (by kernel_rfl) (fun _ _ _ h => h) (Or.inl ⟨by rfl, ?hk205⟩) (T7.old U204 HS8.out) ?rk205
                          case hk205 => (intro wz hSw; (try dsimp only at hSw); go_simp; try with_reducible rfl)
                          (try simp only [Act.put]); (try simp only [List.setIfInBounds_toArray]); (try simp only [List.set_cons_succ]); (try simp only [List.set_cons_zero])
                          refine wpAnyH_take (i := 17) (oi := { dst := some 83, op := Op.pick (Operand.tmp 76) (Operand.const (Value.bool true)) (Operand.tmp 82), type := 4, pos := "law.go:63", after := #[{ on := 10, ground := Ground.data }, { on := 16, ground := Ground.data }], guard := none }) (v := ?vk206) rfl (by kernel_rfl) (by kernel_rfl) (by kernel_rfl) (fun _ _ _ h => h) (Or.inl ⟨by rfl, ?hk206⟩) (T7.old U204 HS8.out) ?rk206
                          case hk206 => (intro wz hSw; (try dsimp only at hSw); go_simp; try with_reducible rfl)
                          (try simp only [Act.put]); (try simp only [List.setIfInBounds_toArray]); (try simp only [List.set_cons_succ]); (try simp only [List.set_cons_zero])
                          refine wpAnyH_done (by kernel_rfl) ?_ _
                          refine NoPanic.normal ?_
                          have UY := hid U204
                          go_wp2
                          go_roundw
                          case rel => exact ⟨i + 1, a7, c7, Z, P5, hlt, by go_num, M8.out.old UY.out⟩
                          case measure => simp [intOf]; omega
                        case true =>
                          refine wp_region_noPanic ?_
                          refine wp_region_held_drew (S := fun wz => (wz.cell? ⟨b9, 0, none⟩ = some (.int .i64 xf7) ∧ wz.cell? ⟨b9, 1, none⟩ = some (.int .i64 xt7) ∧ wz.cell? ⟨b9, 2, none⟩ = some (.slice a5 xL7.length c5)) ∧ (wz.cell? ⟨b12, 0, none⟩ = some (.int .i64 xf7) ∧ wz.cell? ⟨b12, 1, none⟩ = some (.int .i64 xt7) ∧ wz.cell? ⟨b12, 2, none⟩ = some (.slice xa7 xL7.length xc7)) ∧ wz.cell? ⟨bm, 1, none⟩ = some (.slice a7 Z.length c7)) (by kernel_rfl) ?_ (fun hHeld => ?_)
                          · exact T7.old ((Old.refl _).drew) HS8.out
                          (try simp only [Act.put]); (try simp only [List.setIfInBounds_toArray]); (try simp only [List.set_cons_succ]); (try simp only [List.set_cons_zero])
                          clear hHeld
                          refine wpAnyH_take (i := 0) (oi := { dst := some 66, op := Op.move (Operand.tmp 10), type := 4, pos := "law.go:63", after := #[], guard := none }) (v := ?vk207) rfl (by kernel_rfl) (by kernel_rfl) (by kernel_rfl) (fun _ _ _ h => h) (Or.inl ⟨by rfl, ?hk207⟩) (T7.old ((Old.refl w8).drew) HS8.out) ?rk207
                          case hk207 => (intro wz hSw; (try dsimp only at hSw); go_simp; try with_reducible rfl)
                          (try simp only [Act.put]); (try simp only [List.setIfInBounds_toArray]); (try simp only [List.set_cons_succ]); (try simp only [List.set_cons_zero])
                          refine wpAnyH_take (i := 1) (oi := { dst := some 67, op := Op.move (Operand.tmp 13), type := 4, pos := "law.go:63", after := #[], guard := none }) (v := ?vk208) rfl (by kernel_rfl) (by kernel_rfl) (by kernel_rfl) (fun _ _ _ h => h) (Or.inl ⟨by rfl, ?hk208⟩) (T7.old ((Old.refl w8).drew) HS8.out) ?rk208
                          case hk208 => (intro wz hSw; (try dsimp only at hSw); go_simp; try with_reducible rfl)
                          (try simp only [Act.put]); (try simp only [List.setIfInBounds_toArray]); (try simp only [List.set_cons_succ]); (try simp only [List.set_cons_zero])
                          refine wpAnyH_take (i := 2) (oi := { dst := some 68, op := Op.binOp BinOp.neq 4 (Operand.tmp 66) (Operand.tmp 67) 4, type := 4, pos := "law.go:63", after := #[{ on := 0, ground := Ground.data }, { on := 1, ground := Ground.data }], guard := none }) (v := ?vk209) rfl (by kernel_rfl) (by kernel_rfl) (by kernel_rfl) (fun _ _ _ h => h) (Or.inl ⟨by rfl, ?hk209⟩) (T7.old ((Old.refl w8).drew) HS8.out) ?rk209
                          case hk209 => (intro wz hSw; (try dsimp only at hSw); go_simp; try with_reducible rfl)
                          (try simp only [Act.put]); (try simp only [List.setIfInBounds_toArray]); (try simp only [List.set_cons_succ]); (try simp only [List.set_cons_zero])
                          refine wpAnyH_take (i := 3) (oi := { dst := some 69, op := Op.move (Operand.tmp 68), type := 4, pos := "law.go:63", after := #[{ on := 2, ground := Ground.data }], guard := none }) (v := ?vk210) rfl (by kernel_rfl) (by kernel_rfl) (by kernel_rfl) (fun _ _ _ h => h) (Or.inl ⟨by rfl, ?hk210⟩) (T7.old ((Old.refl w8).drew) HS8.out) ?rk210
                          case hk210 => (intro wz hSw; (try dsimp only at hSw); go_simp; try with_reducible rfl)
                          (try simp only [Act.put]); (try simp only [List.setIfInBounds_toArray]); (try simp only [List.set_cons_succ]); (try simp only [List.set_cons_zero])
                          refine wpAnyH_take (i := 4) (oi := { dst := some 70, op := Op.load 30 (Operand.tmp 9), type := 30, pos := "law.go:63", after := #[{ on := 3, ground := Ground.guard }], guard := some (3, false) }) (v := ?vk211) rfl (by kernel_rfl) (by kernel_rfl) (by kernel_rfl) (fun _ _ _ h => h) (Or.inl ⟨by rfl, ?hk211⟩) (T7.old ((Old.refl w8).drew) HS8.out) ?rk211
                          case hk211 => (intro wz hSw; (try dsimp only at hSw); go_simp; try with_reducible rfl)
                          (try simp only [Act.put]); (try simp only [List.setIfInBounds_toArray]); (try simp only [List.set_cons_succ]); (try simp only [List.set_cons_zero])
                          refine wpAnyH_take (i := 6) (oi := { dst := some 72, op := Op.load 48 (Operand.tmp 12), type := 48, pos := "law.go:63", after := #[{ on := 3, ground := Ground.guard }], guard := some (3, false) }) (v := ?vk212) rfl (by kernel_rfl) (by kernel_rfl) (by kernel_rfl) (fun _ _ _ h => h) (Or.inl ⟨by rfl, ?hk212⟩) (T7.old ((Old.refl w8).drew) HS8.out) ?rk212
                          case hk212 => (intro wz hSw; (try dsimp only at hSw); go_simp; try with_reducible rfl)
                          (try simp only [Act.put]); (try simp only [List.setIfInBounds_toArray]); (try simp only [List.set_cons_succ]); (try simp only [List.set_cons_zero])
                          refine wpAnyH_ready (rs := [5]) (by kernel_rfl) (by simp) ?_
                          refine AllReadyH.cons (o := { dst := some 71, op := Op.call { callee := Callee.value (Operand.func 17), args := #[Operand.tmp 70], argTypes := #[30] }, type := 48, pos := "law.go:63", after := #[{ on := 4, ground := Ground.data }, { on := 3, ground := Ground.chain }, { on := 3, ground := Ground.guard }], guard := some (3, false) }) rfl (fun K hK => ?_) AllReadyH.nil
                          refine wantCall1 ?_ 17 (.tmp 70) #[30] ?_ (.agg #[.int .i64 xf7, .int .i64 xt7, .slice a5 xL7.length c5]) ?_ ?_ ((enters_of Try.func17 (by kernel_rfl) rfl) _ _) ?_
                          · rfl
                          · rfl
                          · rfl
                          · rfl
                          refine (HOf8.out _ ((Old.refl w8).drew)).mono ?_
                          rintro o x213 ⟨rfl, b213⟩
                          refine ⟨_, rfl, ?_⟩
                          have U213 := ((Old.refl w8).drew).trans b213
                          refine hK.out _ _ (T7.old U213 HS8.out) (fun _ => ?_)
                          clear hK K
                          (try simp only [Act.put]); (try simp only [List.setIfInBounds_toArray]); (try simp only [List.set_cons_succ]); (try simp only [List.set_cons_zero])
                          refine wpAnyH_ready (rs := [7]) (by kernel_rfl) (by simp) ?_
                          refine AllReadyH.cons (o := { dst := some 73, op := Op.call { callee := Callee.value (Operand.func 18), args := #[Operand.tmp 71, Operand.tmp 72], argTypes := #[48, 48] }, type := 4, pos := "law.go:63", after := #[{ on := 5, ground := Ground.data }, { on := 6, ground := Ground.data }, { on := 5, ground := Ground.chain }, { on := 3, ground := Ground.guard }], guard := some (3, false) }) rfl (fun K hK => ?_) AllReadyH.nil
                          refine wantCall2 ?_ 18 (.tmp 71) (.tmp 72) #[48, 48] ?_ (.agg #[.int .i64 xf7, .int .i64 xt7, .slice a5 xL7.length c5]) (.agg #[.int .i64 xf7, .int .i64 xt7, .slice xa7 xL7.length xc7]) ?_ ?_ ?_ ((enters_of Try.func18 (by kernel_rfl) rfl) _ _) ?_
                          · rfl
                          · rfl
                          · rfl
                          · rfl
                          · rfl
                          refine (HSm8.out _ U213).mono ?_
                          rintro o x214 ⟨rfl, b214⟩
                          refine ⟨_, rfl, ?_⟩
                          have U214 := U213.trans b214
                          refine hK.out _ _ (T7.old U214 HS8.out) (fun _ => ?_)
                          clear hK K
                          (try simp only [Act.put]); (try simp only [List.setIfInBounds_toArray]); (try simp only [List.set_cons_succ]); (try simp only [List.set_cons_zero])
                          refine wpAnyH_take (i := 8) (oi := { dst := some 74, op := Op.unOp UnOp.not 4 (Operand.tmp 73), type := 4, pos := "law.go:63", after := #[{ on := 7, ground := Ground.data }, { on := 3, ground := Ground.guard }], guard := some (3, false) }) (v := ?vk215) rfl (by kernel_rfl) (by kernel_rfl) (by kernel_rfl) (fun _ _ _ h => h) (Or.inl ⟨by rfl, ?hk215⟩) (T7.old U214 HS8.out) ?rk215
                          case hk215 => (intro wz hSw; (try dsimp only at hSw); go_simp; try with_reducible rfl)
                          (try simp only [Act.put]); (try simp only [List.setIfInBounds_toArray]); (try simp only [List.set_cons_succ]); (try simp only [List.set_cons_zero])
                          refine wpAnyH_take (i := 9) (oi := { dst := some 75, op := Op.pick (Operand.tmp 69) (Operand.const (Value.bool true)) (Operand.tmp 74), type := 4, pos := "law.go:63", after := #[{ on := 3, ground := Ground.data }, { on := 8, ground := Ground.data }], guard := none }) (v := ?vk216) rfl (by kernel_rfl) (by kernel_rfl) (by kernel_rfl) (fun _ _ _ h => h) (Or.inl ⟨by rfl, ?hk216⟩) (T7.old U214 HS8.out) ?rk216
                          case hk216 => (intro wz hSw; (try dsimp only at hSw); go_simp; try with_reducible rfl)
                          (try simp only [Act.put]); (try simp only [List.setIfInBounds_toArray]); (try simp only [List.set_cons_succ]); (try simp only [List.set_cons_zero])
                          refine wpAnyH_take (i := 10) (oi := { dst := some 76, op := Op.move (Operand.tmp 75), type := 4, pos := "law.go:63", after := #[{ on := 9, ground := Ground.data }, { on := 7, ground := Ground.chain }], guard := none }) (v := ?vk217) rfl (by kernel_rfl) (by kernel_rfl) (by kernel_rfl) (fun _ _ _ h => h) (Or.inl ⟨by rfl, ?hk217⟩) (T7.old U214 HS8.out) ?rk217
                          case hk217 => (intro wz hSw; (try dsimp only at hSw); go_simp; try with_reducible rfl)
                          (try simp only [Act.put]); (try simp only [List.setIfInBounds_toArray]); (try simp only [List.set_cons_succ]); (try simp only [List.set_cons_zero])
                          refine wpAnyH_take (i := 11) (oi := { dst := some 77, op := Op.move (Operand.tmp 5), type := 23, pos := "law.go:63", after := #[{ on := 10, ground := Ground.guard }], guard := some (10, false) }) (v := ?vk218) rfl (by kernel_rfl) (by kernel_rfl) (by kernel_rfl) (fun _ _ _ h => h) (Or.inl ⟨by rfl, ?hk218⟩) (T7.old U214 HS8.out) ?rk218
                          case hk218 => (intro wz hSw; (try dsimp only at hSw); go_simp; try with_reducible rfl)
                          (try simp only [Act.put]); (try simp only [List.setIfInBounds_toArray]); (try simp only [List.set_cons_succ]); (try simp only [List.set_cons_zero])
                          refine wpAnyH_take (i := 13) (oi := { dst := some 79, op := Op.fieldAddr 46 (Operand.tmp 6) 1, type := 0, pos := "law.go:63", after := #[{ on := 10, ground := Ground.guard }], guard := some (10, false) }) (v := ?vk219) rfl (by kernel_rfl) (by kernel_rfl) (by kernel_rfl) (fun _ _ _ h => h) (Or.inl ⟨by rfl, ?hk219⟩) (T7.old U214 HS8.out) ?rk219
                          case hk219 => (intro wz hSw; (try dsimp only at hSw); go_simp; try with_reducible rfl)
                          (try simp only [Act.put]); (try simp only [List.setIfInBounds_toArray]); (try simp only [List.set_cons_succ]); (try simp only [List.set_cons_zero])
                          refine wpAnyH_take (i := 14) (oi := { dst := some 80, op := Op.load 44 (Operand.tmp 79), type := 44, pos := "law.go:63", after := #[{ on := 13, ground := Ground.data }, { on := 10, ground := Ground.guard }], guard := some (10, false) }) (v := ?vk220) rfl (by kernel_rfl) (by kernel_rfl) (by kernel_rfl) (fun _ _ _ h => h) (Or.inl ⟨by rfl, ?hk220⟩) (T7.old U214 HS8.out) ?rk220
                          case hk220 => (intro wz hSw; (try dsimp only at hSw); go_simp; try with_reducible rfl)
                          (try simp only [Act.put]); (try simp only [List.setIfInBounds_toArray]); (try simp only [List.set_cons_succ]); (try simp only [List.set_cons_zero])
                          refine wpAnyH_take (i := 15) (oi := { dst := some 81, op := Op.call { callee := Callee.builtin Builtin.len, args := #[Operand.tmp 80], argTypes := #[44] }, type := 3, pos := "law.go:63", after := #[{ on := 14, ground := Ground.data }, { on := 10, ground := Ground.guard }], guard := some (10, false) }) (v := ?vk221) rfl (by kernel_rfl) (by kernel_rfl) (by kernel_rfl) (fun _ _ _ h => h) (Or.inl ⟨by rfl, ?hk221⟩) (T7.old U214 HS8.out) ?rk221
                          case hk221 => (intro wz hSw; (try dsimp only at hSw); go_simp; try with_reducible rfl)
                          (try simp only [Act.put]); (try simp only [List.setIfInBounds_toArray]); (try simp only [List.set_cons_succ]); (try simp only [List.set_cons_zero])
                          refine wpAnyH_ready (rs := [12]) (by kernel_rfl) (by simp) ?_
                          refine AllReadyH.cons (o := { dst := some 78, op := Op.call { callee := Callee.value (Operand.func 11), args := #[Operand.tmp 77], argTypes := #[23] }, type := 3, pos := "law.go:63", after := #[{ on := 11, ground := Ground.data }, { on := 10, ground := Ground.chain }, { on := 10, ground := Ground.guard }], guard := some (10, false) }) rfl (fun K hK => ?_) AllReadyH.nil
                          refine wantCall1 ?_ 11 (.tmp 77) #[23] ?_ (.pointer (some ⟨nb, 0, none⟩)) ?_ ?_ ((enters_of Try.func11 (by kernel_rfl) rfl) _ _) ?_
                          · rfl
                          · rfl
                          · rfl
                          · rfl
                          refine (HLn8.out _ U214).mono ?_
                          rintro o x222 ⟨rfl, b222⟩
                          refine ⟨_, rfl, ?_⟩
                          have U222 := U214.trans b222
                          refine hK.out _ _ (T7.old U222 HS8.out) (fun _ => ?_)
                          clear hK K
                          (try simp only [Act.put]); (try simp only [List.setIfInBounds_toArray]); (try simp only [List.set_cons_succ]); (try simp only [List.set_cons_zero])
                          refine wpAnyH_take (i := 16) (oi := { dst := some 82, op := Op.binOp BinOp.neq 3 (Operand.tmp 78) (Operand.tmp 81) 3, type := 4, pos := "law.go:63", after := #[{ on := 12, ground := Ground.data }, { on := 15, ground := Ground.data }, { on := 10, ground := Ground.guard }], guard := some (10, false) }) (v := ?vk223) rfl (by kernel_rfl) (by kernel_rfl) (by kernel_rfl) (fun _ _ _ h => h) (Or.inl ⟨by rfl, ?hk223⟩) (T7.old U222 HS8.out) ?rk223
                          case hk223 => (intro wz hSw; (try dsimp only at hSw); go_simp; try with_reducible rfl)
                          (try simp only [Act.put]); (try simp only [List.setIfInBounds_toArray]); (try simp only [List.set_cons_succ]); (try simp only [List.set_cons_zero])
                          refine wpAnyH_take (i := 17) (oi := { dst := some 83, op := Op.pick (Operand.tmp 76) (Operand.const (Value.bool true)) (Operand.tmp 82), type := 4, pos := "law.go:63", after := #[{ on := 10, ground := Ground.data }, { on := 16, ground := Ground.data }], guard := none }) (v := ?vk224) rfl (by kernel_rfl) (by kernel_rfl) (by kernel_rfl) (fun _ _ _ h => h) (Or.inl ⟨by rfl, ?hk224⟩) (T7.old U222 HS8.out) ?rk224
                          case hk224 => (intro wz hSw; (try dsimp only at hSw); go_simp; try with_reducible rfl)
                          (try simp only [Act.put]); (try simp only [List.setIfInBounds_toArray]); (try simp only [List.set_cons_succ]); (try simp only [List.set_cons_zero])
                          refine wpAnyH_done (by kernel_rfl) ?_ _
                          refine NoPanic.normal ?_
                          have UY := hid U222
                          go_wp2
                          go_roundw
                          case rel => exact ⟨i + 1, a7, c7, Z, P5, hlt, by go_num, M8.out.old UY.out⟩
                          case measure => simp [intOf]; omega
              · skip
                refine stepAllocR ?_ ?_ ?_
                · rfl
                · rfl
                intro m34 y34 hm34 hy34
                have nn34 : y34.heap[m34]? = some (.cells #[.int .i64 0, .int .i64 0, .slice none 0 0] 48 (0, 0)) := by rw [hy34, hm34]; exact alloc_at _ _
                have b34 : Old (y25) y34 := by rw [hy34]; exact (Old.refl _).alloc _
                have Z34 : w6.heap.size ≤ m34 := by rw [hm34]; exact (U25).size
                clear hm34 hy34
                have U34 := (U25).trans b34
                have n11_34 := (b34).block nn25
                refine hK.out _ _ (PS.old U34 HPS.out) (fun _ => ?_)
                clear hK K
                (try simp only [Act.put]); (try simp only [List.setIfInBounds_toArray]); (try simp only [List.set_cons_succ]); (try simp only [List.set_cons_zero])
                refine wpAnyH_ready (rs := [11]) (by kernel_rfl) (by simp) ?_
                refine AllReadyH.cons (o := { dst := some 61, op := Op.call { callee := Callee.value (Operand.func 16), args := #[Operand.tmp 50, Operand.tmp 60], argTypes := #[46, 53] }, type := 49, pos := "law.go:61", after := #[{ on := 0, ground := Ground.data }, { on := 10, ground := Ground.data }, { on := 9, ground := Ground.chain }], guard := none }) rfl (fun K hK => ?_) AllReadyH.nil
                · skip
                  refine wantCall2 ?_ 16 (.tmp 50) (.tmp 60) #[46, 53] ?_ (.agg #[.int .i64 (most : Nat), .slice a Y.length cp]) (.agg #[.int .i64 ok, .int .i64 oi, .int .i64 om, .int .i64 of, .int .i64 ot, .slice pB oL.length cB]) ?_ ?_ ?_ ((enters_of Try.func16 (by kernel_rfl) rfl) _ _) ?_
                  · rfl
                  · rfl
                  · rfl
                  · rfl
                  · rfl
                  refine (HDc.out _ U34).mono ?_
                  rintro o x35 ⟨a7, c7, Z, x7, rfl, d35, hZ35, hx35, s35, b35, nw35⟩
                  refine ⟨_, rfl, ?_⟩
                  have HZ7 := hid hZ35
                  have HX7 := hid hx35
                  have Nm11 := hid (show ∀ g, (Value.slice a7 Z.length c7).ownBlock = some g → g ≠ m25 from fun g e => by rcases nw35 g e with h | h; (have := (D6.out.row.lt g h).2; have := Z25; omega); (have := blk_lt n11_34; omega))
                  have Nm12 := hid (show ∀ g, (Value.slice a7 Z.length c7).ownBlock = some g → g ≠ m34 from fun g e => by rcases nw35 g e with h | h; (have := (D6.out.row.lt g h).2; have := Z34; omega); (have := blk_lt nn34; omega))
                  clear hZ35 hx35 nw35
                  have U35 := (U34).trans b35
                  have n11_35 := (b35).block n11_34
                  have n12_35 := (b35).block nn34
                  refine hK.out _ _ (PS.old U35 HPS.out) (fun _ => ?_)
                  clear hK K
                  (try simp only [Act.put]); (try simp only [List.setIfInBounds_toArray]); (try simp only [List.set_cons_succ]); (try simp only [List.set_cons_zero])
                  refine wpAnyH_take (i := 12) (oi := { dst := some 49, op := Op.move (Operand.tmp 61), type := 49, pos := "law.go:61", after := #[{ on := 11, ground := Ground.data }], guard := none }) (v := ?vk36) rfl (by kernel_rfl) (by kernel_rfl) (by kernel_rfl) (fun _ _ _ h => h) (Or.inl ⟨by rfl, ?hk36⟩) (PS.old U35 HPS.out) ?rk36
                  case hk36 => (intro wz hSw; (try dsimp only at hSw); go_simp; try with_reducible rfl)
                  (try simp only [Act.put]); (try simp only [List.setIfInBounds_toArray]); (try simp only [List.set_cons_succ]); (try simp only [List.set_cons_zero])
                  refine wpAnyH_take (i := 13) (oi := { dst := some 62, op := Op.extract (Operand.tmp 49) 0, type := 46, pos := "law.go:61", after := #[{ on := 12, ground := Ground.data }], guard := none }) (v := ?vk37) rfl (by kernel_rfl) (by kernel_rfl) (by kernel_rfl) (fun _ _ _ h => h) (Or.inl ⟨by rfl, ?hk37⟩) (PS.old U35 HPS.out) ?rk37
                  case hk37 => (intro wz hSw; (try dsimp only at hSw); go_simp; try with_reducible rfl)
                  (try simp only [Act.put]); (try simp only [List.setIfInBounds_toArray]); (try simp only [List.set_cons_succ]); (try simp only [List.set_cons_zero])
                  refine wpAnyH_take (i := 14) (oi := { dst := some 63, op := Op.extract (Operand.tmp 49) 1, type := 48, pos := "law.go:61", after := #[{ on := 12, ground := Ground.data }, { on := 18, ground := Ground.gcOnly Departure.lateStores }], guard := none }) (v := ?vk38) rfl (by kernel_rfl) (by kernel_rfl) (by kernel_rfl) (fun _ _ _ h => h) (Or.inl ⟨by rfl, ?hk38⟩) (PS.old U35 HPS.out) ?rk38
                  case hk38 => (intro wz hSw; (try dsimp only at hSw); go_simp; try with_reducible rfl)
                  (try simp only [Act.put]); (try simp only [List.setIfInBounds_toArray]); (try simp only [List.set_cons_succ]); (try simp only [List.set_cons_zero])
                  refine wpAnyH_take (i := 15) (oi := { dst := some 64, op := Op.extract (Operand.tmp 49) 2, type := 4, pos := "law.go:61", after := #[{ on := 12, ground := Ground.data }, { on := 19, ground := Ground.gcOnly Departure.lateStores }], guard := none }) (v := ?vk39) rfl (by kernel_rfl) (by kernel_rfl) (by kernel_rfl) (fun _ _ _ h => h) (Or.inl ⟨by rfl, ?hk39⟩) (PS.old U35 HPS.out) ?rk39
                  case hk39 => (intro wz hSw; (try dsimp only at hSw); go_simp; try with_reducible rfl)
                  (try simp only [Act.put]); (try simp only [List.setIfInBounds_toArray]); (try simp only [List.set_cons_succ]); (try simp only [List.set_cons_zero])
                  refine wpAnyH_ready (rs := [18]) (by kernel_rfl) (by simp) ?_
                  refine AllReadyH.cons (o := { dst := none, op := Op.store 46 (Operand.tmp 11) (Operand.tmp 62), type := 0, pos := "law.go:61", after := #[{ on := 16, ground := Ground.data }, { on := 13, ground := Ground.data }, { on := 11, ground := Ground.chain }, { on := 0, ground := Ground.phase }, { on := 1, ground := Ground.phase }, { on := 2, ground := Ground.phase }, { on := 3, ground := Ground.phase }, { on := 4, ground := Ground.phase }, { on := 5, ground := Ground.phase }, { on := 6, ground := Ground.phase }, { on := 7, ground := Ground.phase }, { on := 8, ground := Ground.phase }, { on := 9, ground := Ground.phase }, { on := 10, ground := Ground.phase }, { on := 11, ground := Ground.phase }, { on := 12, ground := Ground.phase }, { on := 13, ground := Ground.phase }, { on := 14, ground := Ground.textOnly Departure.lateStores }, { on := 15, ground := Ground.textOnly Departure.lateStores }, { on := 16, ground := Ground.phase }, { on := 17, ground := Ground.phase }], guard := none }) rfl (fun K hK => ?_) AllReadyH.nil
                  · skip
                    refine stepStoreN2 ?_ (.tmp 11) (.tmp 62) ?_ m25 (.int .i64 (most : Nat)) (.slice a7 Z.length c7) ?_ ?_ (there2 n11_35) ⟨rfl, rfl⟩ ?_
                    · rfl
                    · rfl
                    · rfl
                    · rfl
                    have ne40 : m34 ≠ m25 := fun e => by have h1 := n11_35; have h2 := n12_35; rw [e, h1] at h2; simp at h2
                    have q40 := set_other (v := .slice a7 Z.length c7) (i := 1) (set_other (v := .int .i64 (most : Nat)) (i := 0) n12_35 ne40) ne40
                    have U40 := ((U35).setCell (p := ⟨m25, 0, none⟩) Z25 (.int .i64 (most : Nat))).setCell (p := ⟨m25, 1, none⟩) Z25 (.slice a7 Z.length c7)
                    refine hK.out _ _ (PS.old U40 HPS.out) (fun _ => ?_)
                    clear hK K
                    (try simp only [Act.put]); (try simp only [List.setIfInBounds_toArray]); (try simp only [List.set_cons_succ]); (try simp only [List.set_cons_zero])
                    refine wpAnyH_ready (rs := [19]) (by kernel_rfl) (by simp) ?_
                    refine AllReadyH.cons (o := { dst := none, op := Op.store 48 (Operand.tmp 12) (Operand.tmp 63), type := 0, pos := "law.go:61", after := #[{ on := 17, ground := Ground.data }, { on := 14, ground := Ground.data }, { on := 18, ground := Ground.chain }, { on := 0, ground := Ground.phase }, { on := 1, ground := Ground.phase }, { on := 2, ground := Ground.phase }, { on := 3, ground := Ground.phase }, { on := 4, ground := Ground.phase }, { on := 5, ground := Ground.phase }, { on := 6, ground := Ground.phase }, { on := 7, ground := Ground.phase }, { on := 8, ground := Ground.phase }, { on := 9, ground := Ground.phase }, { on := 10, ground := Ground.phase }, { on := 11, ground := Ground.phase }, { on := 12, ground := Ground.phase }, { on := 13, ground := Ground.phase }, { on := 14, ground := Ground.phase }, { on := 15, ground := Ground.textOnly Departure.lateStores }, { on := 16, ground := Ground.phase }, { on := 17, ground := Ground.phase }, { on := 18, ground := Ground.phase }], guard := none }) rfl (fun K hK => ?_) AllReadyH.nil
                    · skip
                      refine stepStoreR3 ?_ (.tmp 12) (.tmp 63) ?_ m34 (.int .i64 x7.f) (.int .i64 x7.t) (.slice x7.a x7.L.length x7.c) ?_ ?_ (there3 q40) ⟨rfl, rfl, rfl⟩ ?_
                      · rfl
                      · rfl
                      · rfl
                      · rfl
                      have U41 := (((U40).setCell (p := ⟨m34, 0, none⟩) Z34 (.int .i64 x7.f)).setCell (p := ⟨m34, 1, none⟩) Z34 (.int .i64 x7.t)).setCell (p := ⟨m34, 2, none⟩) Z34 (.slice x7.a x7.L.length x7.c)
                      refine hK.out _ _ (PS.old U41 HPS.out) (fun _ => ?_)
                      clear hK K
                      (try simp only [Act.put]); (try simp only [List.setIfInBounds_toArray]); (try simp only [List.set_cons_succ]); (try simp only [List.set_cons_zero])
                      refine wpAnyH_ready (rs := [20]) (by kernel_rfl) (by simp) ?_
                      refine AllReadyH.cons (o := { dst := some 13, op := Op.assign (Operand.tmp 64), type := 4, pos := "law.go:61", after := #[{ on := 15, ground := Ground.data }, { on := 19, ground := Ground.chain }, { on := 0, ground := Ground.phase }, { on := 1, ground := Ground.phase }, { on := 2, ground := Ground.phase }, { on := 3, ground := Ground.phase }, { on := 4, ground := Ground.phase }, { on := 5, ground := Ground.phase }, { on := 6, ground := Ground.phase }, { on := 7, ground := Ground.phase }, { on := 8, ground := Ground.phase }, { on := 9, ground := Ground.phase }, { on := 10, ground := Ground.phase }, { on := 11, ground := Ground.phase }, { on := 12, ground := Ground.phase }, { on := 13, ground := Ground.phase }, { on := 14, ground := Ground.phase }, { on := 15, ground := Ground.phase }, { on := 16, ground := Ground.phase }, { on := 17, ground := Ground.phase }, { on := 18, ground := Ground.phase }, { on := 19, ground := Ground.phase }], guard := none }) rfl (fun K hK => ?_) AllReadyH.nil
                      · skip
                        go_simp
                        refine hK.out _ _ (PS.old U41 HPS.out) (fun _ => ?_)
                        clear hK K
                        (try simp only [Act.put]); (try simp only [List.setIfInBounds_toArray]); (try simp only [List.set_cons_succ]); (try simp only [List.set_cons_zero])
                        refine wpAnyH_done (by kernel_rfl) ?_ _
                        refine NoPanic.normal ?_
                        have FF := hid (rfin (p := .int .i64 (most : Nat)) (q := .slice a7 Z.length c7) (x := .int .i64 x7.f) (y := .int .i64 x7.t) (z := .slice x7.a x7.L.length x7.c) n11_35 n12_35)
                        have D7 := hid (show DocAt w (((((x35.setCell ⟨m25, 0, none⟩ (.int .i64 (most : Nat))).setCell ⟨m25, 1, none⟩ (.slice a7 Z.length c7)).setCell ⟨m34, 0, none⟩ (.int .i64 x7.f)).setCell ⟨m34, 1, none⟩ (.int .i64 x7.t)).setCell ⟨m34, 2, none⟩ (.slice x7.a x7.L.length x7.c)) (.slice a7 Z.length c7) Z from DocAt.chg2 (B := 0) d35 FF.out.2.2 n11_35 n12_35 (fun g e => ⟨Nm11.out g e, Nm12.out g e⟩))
                        have S7 := hid (show Sr w (((((x35.setCell ⟨m25, 0, none⟩ (.int .i64 (most : Nat))).setCell ⟨m25, 1, none⟩ (.slice a7 Z.length c7)).setCell ⟨m34, 0, none⟩ (.int .i64 x7.f)).setCell ⟨m34, 1, none⟩ (.int .i64 x7.t)).setCell ⟨m34, 2, none⟩ (.slice x7.a x7.L.length x7.c)) x7.v x7.L from Sr.chg2 s35 FF.out.2.2 n11_35 n12_35)
                        have F11 := hid (show (((((x35.setCell ⟨m25, 0, none⟩ (.int .i64 (most : Nat))).setCell ⟨m25, 1, none⟩ (.slice a7 Z.length c7)).setCell ⟨m34, 0, none⟩ (.int .i64 x7.f)).setCell ⟨m34, 1, none⟩ (.int .i64 x7.t)).setCell ⟨m34, 2, none⟩ (.slice x7.a x7.L.length x7.c)).heap[m25]? = some (.cells #[.int .i64 (most : Nat), .slice a7 Z.length c7] 46 (0, 0)) from FF.out.1)
                        have F12 := hid (show (((((x35.setCell ⟨m25, 0, none⟩ (.int .i64 (most : Nat))).setCell ⟨m25, 1, none⟩ (.slice a7 Z.length c7)).setCell ⟨m34, 0, none⟩ (.int .i64 x7.f)).setCell ⟨m34, 1, none⟩ (.int .i64 x7.t)).setCell ⟨m34, 2, none⟩ (.slice x7.a x7.L.length x7.c)).heap[m34]? = some (.cells #[.int .i64 x7.f, .int .i64 x7.t, .slice x7.a x7.L.length x7.c] 48 (0, 0)) from FF.out.2.1)
                        have UZ := hid (show Old w6 (((((x35.setCell ⟨m25, 0, none⟩ (.int .i64 (most : Nat))).setCell ⟨m25, 1, none⟩ (.slice a7 Z.length c7)).setCell ⟨m34, 0, none⟩ (.int .i64 x7.f)).setCell ⟨m34, 1, none⟩ (.int .i64 x7.t)).setCell ⟨m34, 2, none⟩ (.slice x7.a x7.L.length x7.c)) from U41)
                        clear FF Nm11 Nm12 n11_35 n12_35 q40 d35 s35 U41
                        generalize (((((x35.setCell ⟨m25, 0, none⟩ (.int .i64 (most : Nat))).setCell ⟨m25, 1, none⟩ (.slice a7 Z.length c7)).setCell ⟨m34, 0, none⟩ (.int .i64 x7.f)).setCell ⟨m34, 1, none⟩ (.int .i64 x7.t)).setCell ⟨m34, 2, none⟩ (.slice x7.a x7.L.length x7.c)) = w7 at *
                        generalize m25 = b11 at *
                        generalize m34 = b12 at *
                        have N7 := hid (N6.out.old UZ.out)
                        have HBm7 := hid (UZ.out.block HBm6.out)
                        have HB97 := hid (UZ.out.block HB9.out)
                        have O7 := hid (O6.out.old UZ.out)
                        clear N6 HBm6 HB9 O6 D6 HBo6 HPS HOf HDc UZ
                        obtain ⟨xf7, xt7, xa7, xc7, xL7⟩ := x7
                        obtain ⟨e1, e2, e3⟩ : xf7 = xf ∧ xt7 = xt ∧ xL7 = xL := by
                          have h := HX7.out
                          unfold Lt.p at h
                          simp only [Prod.mk.injEq] at h
                          exact h
                        clear HX7
                        subst e1 e2 e3
                        dsimp only at S7 F12
                        unfold Lt.v at S7
                        dsimp only at S7
                        obtain ⟨r0, r1, -, -⟩ := box2 F11.out
                        obtain ⟨s0, s1, sf0, sf1⟩ := box2 HBm7.out
                        go_upto_region 12 with (fail)
                        have M8 := hid (PA.set (cs := #[]) (most := most) N7.out HBm7.out HNw.out D7.out HZ7.out)
                        have ne12 : b12 ≠ bm := fun e => by have h1 := F12.out; rw [e, HBm7.out] at h1; simp at h1
                        have ne9 : b9 ≠ bm := fun e => by have h1 := HB97.out; rw [e, HBm7.out] at h1; simp at h1
                        have G12 := hid (set_other (v := .slice a7 Z.length c7) (i := 1) (set_other (v := .int .i64 (most : Nat)) (i := 0) F12.out ne12) ne12)
                        have G9 := hid (set_other (v := .slice a7 Z.length c7) (i := 1) (set_other (v := .int .i64 (most : Nat)) (i := 0) HB97.out ne9) ne9)
                        have O8 := hid (O7.out.chg (chg2 w7 bm (.int .i64 (most : Nat)) (.slice a7 Z.length c7)) (O7.out.offT HBm7.out (by decide)))
                        have S8 := hid (S7.out.chgT (chg2 w7 bm (.int .i64 (most : Nat)) (.slice a7 Z.length c7)) HBm7.out)
                        clear r0 r1 s0 s1 sf0 sf1 F11 F12 HBm7 HB97 O7 N7 S7 D7 ne12 ne9
                        generalize (w7.setCell ⟨bm, 0, none⟩ (.int .i64 (most : Nat))).setCell ⟨bm, 1, none⟩ (.slice a7 Z.length c7) = w8 at *
                        have HS8 := hid (show (fun wz => (wz.cell? ⟨b9, 0, none⟩ = some (.int .i64 xf7) ∧ wz.cell? ⟨b9, 1, none⟩ = some (.int .i64 xt7) ∧ wz.cell? ⟨b9, 2, none⟩ = some (.slice a5 xL7.length c5)) ∧ (wz.cell? ⟨b12, 0, none⟩ = some (.int .i64 xf7) ∧ wz.cell? ⟨b12, 1, none⟩ = some (.int .i64 xt7) ∧ wz.cell? ⟨b12, 2, none⟩ = some (.slice xa7 xL7.length xc7)) ∧ wz.cell? ⟨bm, 1, none⟩ = some (.slice a7 Z.length c7)) w8 from ⟨⟨(box3 G9.out).1, (box3 G9.out).2.1, (box3 G9.out).2.2.1⟩, ⟨(box3 G12.out).1, (box3 G12.out).2.1, (box3 G12.out).2.2.1⟩, (box2 M8.out.box).2.1⟩)
                        dsimp only at HS8
                        have HOf8 := hid (fun (W : World) (u : Old w8 W) => rof_any xf7 xt7 a5 xL7.length c5 W)
                        have HSm8 := hid (fun (W : World) (u : Old w8 W) => rsame_any xf7 xt7 a5 xa7 c5 xc7 xL7 W ((O8.out.old u).row) ((S8.out.old u).row (M8.out.net.base.trans u)))
                        have HLn8 := hid (show ∀ W, Old w8 W → Calls Try.prog 11 #[.pointer (some ⟨nb, 0, none⟩)] W fun e w' => e = .returned (.int .i64 (Z.length : Nat)) ∧ Old W w' from fun W u => (lenN w W nb most P5 [] (M8.out.net.old u)).mono fun e w' q => ⟨by rw [q.1, ← HZ7.out, List.length_map], by rw [q.2]; exact Old.refl _⟩)
                        clear G12 G9 O8 S8
                        cases b5
                        case false =>
                          refine wp_region_noPanic ?_
                          refine wp_region_held_drew (S := fun wz => (wz.cell? ⟨b9, 0, none⟩ = some (.int .i64 xf7) ∧ wz.cell? ⟨b9, 1, none⟩ = some (.int .i64 xt7) ∧ wz.cell? ⟨b9, 2, none⟩ = some (.slice a5 xL7.length c5)) ∧ (wz.cell? ⟨b12, 0, none⟩ = some (.int .i64 xf7) ∧ wz.cell? ⟨b12, 1, none⟩ = some (.int .i64 xt7) ∧ wz.cell? ⟨b12, 2, none⟩ = some (.slice xa7 xL7.length xc7)) ∧ wz.cell? ⟨bm, 1, none⟩ = some (.slice a7 Z.length c7)) (by kernel_rfl) ?_ (fun hHeld => ?_)
                          · exact T7.old ((Old.refl _).drew) HS8.out
                          (try simp only [Act.put]); (try simp only [List.setIfInBounds_toArray]); (try simp only [List.set_cons_succ]); (try simp only [List.set_cons_zero])
                          clear hHeld
                          refine wpAnyH_take (i := 0) (oi := { dst := some 66, op := Op.move (Operand.tmp 10), type := 4, pos := "law.go:63", after := #[], guard := none }) (v := ?vk225) rfl (by kernel_rfl) (by kernel_rfl) (by kernel_rfl) (fun _ _ _ h => h) (Or.inl ⟨by rfl, ?hk225⟩) (T7.old ((Old.refl w8).drew) HS8.out) ?rk225
                          case hk225 => (intro wz hSw; (try dsimp only at hSw); go_simp; try with_reducible rfl)
                          (try simp only [Act.put]); (try simp only [List.setIfInBounds_toArray]); (try simp only [List.set_cons_succ]); (try simp only [List.set_cons_zero])
                          refine wpAnyH_take (i := 1) (oi := { dst := some 67, op := Op.move (Operand.tmp 13), type := 4, pos := "law.go:63", after := #[], guard := none }) (v := ?vk226) rfl (by kernel_rfl) (by kernel_rfl) (by kernel_rfl) (fun _ _ _ h => h) (Or.inl ⟨by rfl, ?hk226⟩) (T7.old ((Old.refl w8).drew) HS8.out) ?rk226
                          case hk226 => (intro wz hSw; (try dsimp only at hSw); go_simp; try with_reducible rfl)
                          (try simp only [Act.put]); (try simp only [List.setIfInBounds_toArray]); (try simp only [List.set_cons_succ]); (try simp only [List.set_cons_zero])
                          refine wpAnyH_take (i := 2) (oi := { dst := some 68, op := Op.binOp BinOp.neq 4 (Operand.tmp 66) (Operand.tmp 67) 4, type := 4, pos := "law.go:63", after := #[{ on := 0, ground := Ground.data }, { on := 1, ground := Ground.data }], guard := none }) (v := ?vk227) rfl (by kernel_rfl) (by kernel_rfl) (by kernel_rfl) (fun _ _ _ h => h) (Or.inl ⟨by rfl, ?hk227⟩) (T7.old ((Old.refl w8).drew) HS8.out) ?rk227
                          case hk227 => (intro wz hSw; (try dsimp only at hSw); go_simp; try with_reducible rfl)
                          (try simp only [Act.put]); (try simp only [List.setIfInBounds_toArray]); (try simp only [List.set_cons_succ]); (try simp only [List.set_cons_zero])
                          refine wpAnyH_take (i := 3) (oi := { dst := some 69, op := Op.move (Operand.tmp 68), type := 4, pos := "law.go:63", after := #[{ on := 2, ground := Ground.data }], guard := none }) (v := ?vk228) rfl (by kernel_rfl) (by kernel_rfl) (by kernel_rfl) (fun _ _ _ h => h) (Or.inl ⟨by rfl, ?hk228⟩) (T7.old ((Old.refl w8).drew) HS8.out) ?rk228
                          case hk228 => (intro wz hSw; (try dsimp only at hSw); go_simp; try with_reducible rfl)
                          (try simp only [Act.put]); (try simp only [List.setIfInBounds_toArray]); (try simp only [List.set_cons_succ]); (try simp only [List.set_cons_zero])
                          refine wpAnyH_take (i := 4) (oi := { dst := some 70, op := Op.load 30 (Operand.tmp 9), type := 30, pos := "law.go:63", after := #[{ on := 3, ground := Ground.guard }], guard := some (3, false) }) (v := ?vk229) rfl (by kernel_rfl) (by kernel_rfl) (by kernel_rfl) (fun _ _ _ h => h) (Or.inl ⟨by rfl, ?hk229⟩) (T7.old ((Old.refl w8).drew) HS8.out) ?rk229
                          case hk229 => (intro wz hSw; (try dsimp only at hSw); go_simp; try with_reducible rfl)
                          (try simp only [Act.put]); (try simp only [List.setIfInBounds_toArray]); (try simp only [List.set_cons_succ]); (try simp only [List.set_cons_zero])
                          refine wpAnyH_take (i := 6) (oi := { dst := some 72, op := Op.load 48 (Operand.tmp 12), type := 48, pos := "law.go:63", after := #[{ on := 3, ground := Ground.guard }], guard := some (3, false) }) (v := ?vk230) rfl (by kernel_rfl) (by kernel_rfl) (by kernel_rfl) (fun _ _ _ h => h) (Or.inl ⟨by rfl, ?hk230⟩) (T7.old ((Old.refl w8).drew) HS8.out) ?rk230
                          case hk230 => (intro wz hSw; (try dsimp only at hSw); go_simp; try with_reducible rfl)
                          (try simp only [Act.put]); (try simp only [List.setIfInBounds_toArray]); (try simp only [List.set_cons_succ]); (try simp only [List.set_cons_zero])
                          refine wpAnyH_ready (rs := [5]) (by kernel_rfl) (by simp) ?_
                          refine AllReadyH.cons (o := { dst := some 71, op := Op.call { callee := Callee.value (Operand.func 17), args := #[Operand.tmp 70], argTypes := #[30] }, type := 48, pos := "law.go:63", after := #[{ on := 4, ground := Ground.data }, { on := 3, ground := Ground.chain }, { on := 3, ground := Ground.guard }], guard := some (3, false) }) rfl (fun K hK => ?_) AllReadyH.nil
                          refine wantCall1 ?_ 17 (.tmp 70) #[30] ?_ (.agg #[.int .i64 xf7, .int .i64 xt7, .slice a5 xL7.length c5]) ?_ ?_ ((enters_of Try.func17 (by kernel_rfl) rfl) _ _) ?_
                          · rfl
                          · rfl
                          · rfl
                          · rfl
                          refine (HOf8.out _ ((Old.refl w8).drew)).mono ?_
                          rintro o x231 ⟨rfl, b231⟩
                          refine ⟨_, rfl, ?_⟩
                          have U231 := ((Old.refl w8).drew).trans b231
                          refine hK.out _ _ (T7.old U231 HS8.out) (fun _ => ?_)
                          clear hK K
                          (try simp only [Act.put]); (try simp only [List.setIfInBounds_toArray]); (try simp only [List.set_cons_succ]); (try simp only [List.set_cons_zero])
                          refine wpAnyH_ready (rs := [7]) (by kernel_rfl) (by simp) ?_
                          refine AllReadyH.cons (o := { dst := some 73, op := Op.call { callee := Callee.value (Operand.func 18), args := #[Operand.tmp 71, Operand.tmp 72], argTypes := #[48, 48] }, type := 4, pos := "law.go:63", after := #[{ on := 5, ground := Ground.data }, { on := 6, ground := Ground.data }, { on := 5, ground := Ground.chain }, { on := 3, ground := Ground.guard }], guard := some (3, false) }) rfl (fun K hK => ?_) AllReadyH.nil
                          refine wantCall2 ?_ 18 (.tmp 71) (.tmp 72) #[48, 48] ?_ (.agg #[.int .i64 xf7, .int .i64 xt7, .slice a5 xL7.length c5]) (.agg #[.int .i64 xf7, .int .i64 xt7, .slice xa7 xL7.length xc7]) ?_ ?_ ?_ ((enters_of Try.func18 (by kernel_rfl) rfl) _ _) ?_
                          · rfl
                          · rfl
                          · rfl
                          · rfl
                          · rfl
                          refine (HSm8.out _ U231).mono ?_
                          rintro o x232 ⟨rfl, b232⟩
                          refine ⟨_, rfl, ?_⟩
                          have U232 := U231.trans b232
                          refine hK.out _ _ (T7.old U232 HS8.out) (fun _ => ?_)
                          clear hK K
                          (try simp only [Act.put]); (try simp only [List.setIfInBounds_toArray]); (try simp only [List.set_cons_succ]); (try simp only [List.set_cons_zero])
                          refine wpAnyH_take (i := 8) (oi := { dst := some 74, op := Op.unOp UnOp.not 4 (Operand.tmp 73), type := 4, pos := "law.go:63", after := #[{ on := 7, ground := Ground.data }, { on := 3, ground := Ground.guard }], guard := some (3, false) }) (v := ?vk233) rfl (by kernel_rfl) (by kernel_rfl) (by kernel_rfl) (fun _ _ _ h => h) (Or.inl ⟨by rfl, ?hk233⟩) (T7.old U232 HS8.out) ?rk233
                          case hk233 => (intro wz hSw; (try dsimp only at hSw); go_simp; try with_reducible rfl)
                          (try simp only [Act.put]); (try simp only [List.setIfInBounds_toArray]); (try simp only [List.set_cons_succ]); (try simp only [List.set_cons_zero])
                          refine wpAnyH_take (i := 9) (oi := { dst := some 75, op := Op.pick (Operand.tmp 69) (Operand.const (Value.bool true)) (Operand.tmp 74), type := 4, pos := "law.go:63", after := #[{ on := 3, ground := Ground.data }, { on := 8, ground := Ground.data }], guard := none }) (v := ?vk234) rfl (by kernel_rfl) (by kernel_rfl) (by kernel_rfl) (fun _ _ _ h => h) (Or.inl ⟨by rfl, ?hk234⟩) (T7.old U232 HS8.out) ?rk234
                          case hk234 => (intro wz hSw; (try dsimp only at hSw); go_simp; try with_reducible rfl)
                          (try simp only [Act.put]); (try simp only [List.setIfInBounds_toArray]); (try simp only [List.set_cons_succ]); (try simp only [List.set_cons_zero])
                          refine wpAnyH_take (i := 10) (oi := { dst := some 76, op := Op.move (Operand.tmp 75), type := 4, pos := "law.go:63", after := #[{ on := 9, ground := Ground.data }, { on := 7, ground := Ground.chain }], guard := none }) (v := ?vk235) rfl (by kernel_rfl) (by kernel_rfl) (by kernel_rfl) (fun _ _ _ h => h) (Or.inl ⟨by rfl, ?hk235⟩) (T7.old U232 HS8.out) ?rk235
                          case hk235 => (intro wz hSw; (try dsimp only at hSw); go_simp; try with_reducible rfl)
                          (try simp only [Act.put]); (try simp only [List.setIfInBounds_toArray]); (try simp only [List.set_cons_succ]); (try simp only [List.set_cons_zero])
                          refine wpAnyH_take (i := 11) (oi := { dst := some 77, op := Op.move (Operand.tmp 5), type := 23, pos := "law.go:63", after := #[{ on := 10, ground := Ground.guard }], guard := some (10, false) }) (v := ?vk236) rfl (by kernel_rfl) (by kernel_rfl) (by kernel_rfl) (fun _ _ _ h => h) (Or.inl ⟨by rfl, ?hk236⟩) (T7.old U232 HS8.out) ?rk236
                          case hk236 => (intro wz hSw; (try dsimp only at hSw); go_simp; try with_reducible rfl)
                          (try simp only [Act.put]); (try simp only [List.setIfInBounds_toArray]); (try simp only [List.set_cons_succ]); (try simp only [List.set_cons_zero])
                          refine wpAnyH_take (i := 13) (oi := { dst := some 79, op := Op.fieldAddr 46 (Operand.tmp 6) 1, type := 0, pos := "law.go:63", after := #[{ on := 10, ground := Ground.guard }], guard := some (10, false) }) (v := ?vk237) rfl (by kernel_rfl) (by kernel_rfl) (by kernel_rfl) (fun _ _ _ h => h) (Or.inl ⟨by rfl, ?hk237⟩) (T7.old U232 HS8.out) ?rk237
                          case hk237 => (intro wz hSw; (try dsimp only at hSw); go_simp; try with_reducible rfl)
                          (try simp only [Act.put]); (try simp only [List.setIfInBounds_toArray]); (try simp only [List.set_cons_succ]); (try simp only [List.set_cons_zero])
                          refine wpAnyH_take (i := 14) (oi := { dst := some 80, op := Op.load 44 (Operand.tmp 79), type := 44, pos := "law.go:63", after := #[{ on := 13, ground := Ground.data }, { on := 10, ground := Ground.guard }], guard := some (10, false) }) (v := ?vk238) rfl (by kernel_rfl) (by kernel_rfl) (by kernel_rfl) (fun _ _ _ h => h) (Or.inl ⟨by rfl, ?hk238⟩) (T7.old U232 HS8.out) ?rk238
                          case hk238 => (intro wz hSw; (try dsimp only at hSw); go_simp; try with_reducible rfl)
                          (try simp only [Act.put]); (try simp only [List.setIfInBounds_toArray]); (try simp only [List.set_cons_succ]); (try simp only [List.set_cons_zero])
                          refine wpAnyH_take (i := 15) (oi := { dst := some 81, op := Op.call { callee := Callee.builtin Builtin.len, args := #[Operand.tmp 80], argTypes := #[44] }, type := 3, pos := "law.go:63", after := #[{ on := 14, ground := Ground.data }, { on := 10, ground := Ground.guard }], guard := some (10, false) }) (v := ?vk239) rfl (by kernel_rfl) (by kernel_rfl) (by kernel_rfl) (fun _ _ _ h => h) (Or.inl ⟨by rfl, ?hk239⟩) (T7.old U232 HS8.out) ?rk239
                          case hk239 => (intro wz hSw; (try dsimp only at hSw); go_simp; try with_reducible rfl)
                          (try simp only [Act.put]); (try simp only [List.setIfInBounds_toArray]); (try simp only [List.set_cons_succ]); (try simp only [List.set_cons_zero])
                          refine wpAnyH_ready (rs := [12]) (by kernel_rfl) (by simp) ?_
                          refine AllReadyH.cons (o := { dst := some 78, op := Op.call { callee := Callee.value (Operand.func 11), args := #[Operand.tmp 77], argTypes := #[23] }, type := 3, pos := "law.go:63", after := #[{ on := 11, ground := Ground.data }, { on := 10, ground := Ground.chain }, { on := 10, ground := Ground.guard }], guard := some (10, false) }) rfl (fun K hK => ?_) AllReadyH.nil
                          refine wantCall1 ?_ 11 (.tmp 77) #[23] ?_ (.pointer (some ⟨nb, 0, none⟩)) ?_ ?_ ((enters_of Try.func11 (by kernel_rfl) rfl) _ _) ?_
                          · rfl
                          · rfl
                          · rfl
                          · rfl
                          refine (HLn8.out _ U232).mono ?_
                          rintro o x240 ⟨rfl, b240⟩
                          refine ⟨_, rfl, ?_⟩
                          have U240 := U232.trans b240
                          refine hK.out _ _ (T7.old U240 HS8.out) (fun _ => ?_)
                          clear hK K
                          (try simp only [Act.put]); (try simp only [List.setIfInBounds_toArray]); (try simp only [List.set_cons_succ]); (try simp only [List.set_cons_zero])
                          refine wpAnyH_take (i := 16) (oi := { dst := some 82, op := Op.binOp BinOp.neq 3 (Operand.tmp 78) (Operand.tmp 81) 3, type := 4, pos := "law.go:63", after := #[{ on := 12, ground := Ground.data }, { on := 15, ground := Ground.data }, { on := 10, ground := Ground.guard }], guard := some (10, false) }) (v := ?vk241) rfl (by kernel_rfl) (by kernel_rfl) (by kernel_rfl) (fun _ _ _ h => h) (Or.inl ⟨by rfl, ?hk241⟩) (T7.old U240 HS8.out) ?rk241
                          case hk241 => (intro wz hSw; (try dsimp only at hSw); go_simp; try with_reducible rfl)
                          (try simp only [Act.put]); (try simp only [List.setIfInBounds_toArray]); (try simp only [List.set_cons_succ]); (try simp only [List.set_cons_zero])
                          refine wpAnyH_take (i := 17) (oi := { dst := some 83, op := Op.pick (Operand.tmp 76) (Operand.const (Value.bool true)) (Operand.tmp 82), type := 4, pos := "law.go:63", after := #[{ on := 10, ground := Ground.data }, { on := 16, ground := Ground.data }], guard := none }) (v := ?vk242) rfl (by kernel_rfl) (by kernel_rfl) (by kernel_rfl) (fun _ _ _ h => h) (Or.inl ⟨by rfl, ?hk242⟩) (T7.old U240 HS8.out) ?rk242
                          case hk242 => (intro wz hSw; (try dsimp only at hSw); go_simp; try with_reducible rfl)
                          (try simp only [Act.put]); (try simp only [List.setIfInBounds_toArray]); (try simp only [List.set_cons_succ]); (try simp only [List.set_cons_zero])
                          refine wpAnyH_done (by kernel_rfl) ?_ _
                          refine NoPanic.normal ?_
                          have UY := hid U240
                          go_wp2
                          go_roundw
                          case rel => exact ⟨i + 1, a7, c7, Z, P5, hlt, by go_num, M8.out.old UY.out⟩
                          case measure => simp [intOf]; omega
                        case true =>
                          refine wp_region_noPanic ?_
                          refine wp_region_held_drew (S := fun wz => (wz.cell? ⟨b9, 0, none⟩ = some (.int .i64 xf7) ∧ wz.cell? ⟨b9, 1, none⟩ = some (.int .i64 xt7) ∧ wz.cell? ⟨b9, 2, none⟩ = some (.slice a5 xL7.length c5)) ∧ (wz.cell? ⟨b12, 0, none⟩ = some (.int .i64 xf7) ∧ wz.cell? ⟨b12, 1, none⟩ = some (.int .i64 xt7) ∧ wz.cell? ⟨b12, 2, none⟩ = some (.slice xa7 xL7.length xc7)) ∧ wz.cell? ⟨bm, 1, none⟩ = some (.slice a7 Z.length c7)) (by kernel_rfl) ?_ (fun hHeld => ?_)
                          · exact T7.old ((Old.refl _).drew) HS8.out
                          (try simp only [Act.put]); (try simp only [List.setIfInBounds_toArray]); (try simp only [List.set_cons_succ]); (try simp only [List.set_cons_zero])
                          clear hHeld
                          refine wpAnyH_take (i := 0) (oi := { dst := some 66, op := Op.move (Operand.tmp 10), type := 4, pos := "law.go:63", after := #[], guard := none }) (v := ?vk243) rfl (by kernel_rfl) (by kernel_rfl) (by kernel_rfl) (fun _ _ _ h => h) (Or.inl ⟨by rfl, ?hk243⟩) (T7.old ((Old.refl w8).drew) HS8.out) ?rk243
                          case hk243 => (intro wz hSw; (try dsimp only at hSw); go_simp; try with_reducible rfl)
                          (try simp only [Act.put]); (try simp only [List.setIfInBounds_toArray]); (try simp only [List.set_cons_succ]); (try simp only [List.set_cons_zero])
                          refine wpAnyH_take (i := 1) (oi := { dst := some 67, op := Op.move (Operand.tmp 13), type := 4, pos := "law.go:63", after := #[], guard := none }) (v := ?vk244) rfl (by kernel_rfl) (by kernel_rfl) (by kernel_rfl) (fun _ _ _ h => h) (Or.inl ⟨by rfl, ?hk244⟩) (T7.old ((Old.refl w8).drew) HS8.out) ?rk244
                          case hk244 => (intro wz hSw; (try dsimp only at hSw); go_simp; try with_reducible rfl)
                          (try simp only [Act.put]); (try simp only [List.setIfInBounds_toArray]); (try simp only [List.set_cons_succ]); (try simp only [List.set_cons_zero])
                          refine wpAnyH_take (i := 2) (oi := { dst := some 68, op := Op.binOp BinOp.neq 4 (Operand.tmp 66) (Operand.tmp 67) 4, type := 4, pos := "law.go:63", after := #[{ on := 0, ground := Ground.data }, { on := 1, ground := Ground.data }], guard := none }) (v := ?vk245) rfl (by kernel_rfl) (by kernel_rfl) (by kernel_rfl) (fun _ _ _ h => h) (Or.inl ⟨by rfl, ?hk245⟩) (T7.old ((Old.refl w8).drew) HS8.out) ?rk245
                          case hk245 => (intro wz hSw; (try dsimp only at hSw); go_simp; try with_reducible rfl)
                          (try simp only [Act.put]); (try simp only [List.setIfInBounds_toArray]); (try simp only [List.set_cons_succ]); (try simp only [List.set_cons_zero])
                          refine wpAnyH_take (i := 3) (oi := { dst := some 69, op := Op.move (Operand.tmp 68), type := 4, pos := "law.go:63", after := #[{ on := 2, ground := Ground.data }], guard := none }) (v := ?vk246) rfl (by kernel_rfl) (by kernel_rfl) (by kernel_rfl) (fun _ _ _ h => h) (Or.inl ⟨by rfl, ?hk246⟩) (T7.old ((Old.refl w8).drew) HS8.out) ?rk246
                          case hk246 => (intro wz hSw; (try dsimp only at hSw); go_simp; try with_reducible rfl)
                          (try simp only [Act.put]); (try simp only [List.setIfInBounds_toArray]); (try simp only [List.set_cons_succ]); (try simp only [List.set_cons_zero])
                          refine wpAnyH_take (i := 4) (oi := { dst := some 70, op := Op.load 30 (Operand.tmp 9), type := 30, pos := "law.go:63", after := #[{ on := 3, ground := Ground.guard }], guard := some (3, false) }) (v := ?vk247) rfl (by kernel_rfl) (by kernel_rfl) (by kernel_rfl) (fun _ _ _ h => h) (Or.inl ⟨by rfl, ?hk247⟩) (T7.old ((Old.refl w8).drew) HS8.out) ?rk247
                          case hk247 => (intro wz hSw; (try dsimp only at hSw); go_simp; try with_reducible rfl)
                          (try simp only [Act.put]); (try simp only [List.setIfInBounds_toArray]); (try simp only [List.set_cons_succ]); (try simp only [List.set_cons_zero])
                          refine wpAnyH_take (i := 6) (oi := { dst := some 72, op := Op.load 48 (Operand.tmp 12), type := 48, pos := "law.go:63", after := #[{ on := 3, ground := Ground.guard }], guard := some (3, false) }) (v := ?vk248) rfl (by kernel_rfl) (by kernel_rfl) (by kernel_rfl) (fun _ _ _ h => h) (Or.inl ⟨by rfl, ?hk248⟩) (T7.old ((Old.refl w8).drew) HS8.out) ?rk248
                          case hk248 => (intro wz hSw; (try dsimp only at hSw); go_simp; try with_reducible rfl)
                          (try simp only [Act.put]); (try simp only [List.setIfInBounds_toArray]); (try simp only [List.set_cons_succ]); (try simp only [List.set_cons_zero])
                          refine wpAnyH_ready (rs := [5]) (by kernel_rfl) (by simp) ?_
                          refine AllReadyH.cons (o := { dst := some 71, op := Op.call { callee := Callee.value (Operand.func 17), args := #[Operand.tmp 70], argTypes := #[30] }, type := 48, pos := "law.go:63", after := #[{ on := 4, ground := Ground.data }, { on := 3, ground := Ground.chain }, { on := 3, ground := Ground.guard }], guard := some (3, false) }) rfl (fun K hK => ?_) AllReadyH.nil
                          refine wantCall1 ?_ 17 (.tmp 70) #[30] ?_ (.agg #[.int .i64 xf7, .int .i64 xt7, .slice a5 xL7.length c5]) ?_ ?_ ((enters_of Try.func17 (by kernel_rfl) rfl) _ _) ?_
                          · rfl
                          · rfl
                          · rfl
                          · rfl
                          refine (HOf8.out _ ((Old.refl w8).drew)).mono ?_
                          rintro o x249 ⟨rfl, b249⟩
                          refine ⟨_, rfl, ?_⟩
                          have U249 := ((Old.refl w8).drew).trans b249
                          refine hK.out _ _ (T7.old U249 HS8.out) (fun _ => ?_)
                          clear hK K
                          (try simp only [Act.put]); (try simp only [List.setIfInBounds_toArray]); (try simp only [List.set_cons_succ]); (try simp only [List.set_cons_zero])
                          refine wpAnyH_ready (rs := [7]) (by kernel_rfl) (by simp) ?_
                          refine AllReadyH.cons (o := { dst := some 73, op := Op.call { callee := Callee.value (Operand.func 18), args := #[Operand.tmp 71, Operand.tmp 72], argTypes := #[48, 48] }, type := 4, pos := "law.go:63", after := #[{ on := 5, ground := Ground.data }, { on := 6, ground := Ground.data }, { on := 5, ground := Ground.chain }, { on := 3, ground := Ground.guard }], guard := some (3, false) }) rfl (fun K hK => ?_) AllReadyH.nil
                          refine wantCall2 ?_ 18 (.tmp 71) (.tmp 72) #[48, 48] ?_ (.agg #[.int .i64 xf7, .int .i64 xt7, .slice a5 xL7.length c5]) (.agg #[.int .i64 xf7, .int .i64 xt7, .slice xa7 xL7.length xc7]) ?_ ?_ ?_ ((enters_of Try.func18 (by kernel_rfl) rfl) _ _) ?_
                          · rfl
                          · rfl
                          · rfl
                          · rfl
                          · rfl
                          refine (HSm8.out _ U249).mono ?_
                          rintro o x250 ⟨rfl, b250⟩
                          refine ⟨_, rfl, ?_⟩
                          have U250 := U249.trans b250
                          refine hK.out _ _ (T7.old U250 HS8.out) (fun _ => ?_)
                          clear hK K
                          (try simp only [Act.put]); (try simp only [List.setIfInBounds_toArray]); (try simp only [List.set_cons_succ]); (try simp only [List.set_cons_zero])
                          refine wpAnyH_take (i := 8) (oi := { dst := some 74, op := Op.unOp UnOp.not 4 (Operand.tmp 73), type := 4, pos := "law.go:63", after := #[{ on := 7, ground := Ground.data }, { on := 3, ground := Ground.guard }], guard := some (3, false) }) (v := ?vk251) rfl (by kernel_rfl) (by kernel_rfl) (by kernel_rfl) (fun _ _ _ h => h) (Or.inl ⟨by rfl, ?hk251⟩) (T7.old U250 HS8.out) ?rk251
                          case hk251 => (intro wz hSw; (try dsimp only at hSw); go_simp; try with_reducible rfl)
                          (try simp only [Act.put]); (try simp only [List.setIfInBounds_toArray]); (try simp only [List.set_cons_succ]); (try simp only [List.set_cons_zero])
                          refine wpAnyH_take (i := 9) (oi := { dst := some 75, op := Op.pick (Operand.tmp 69) (Operand.const (Value.bool true)) (Operand.tmp 74), type := 4, pos := "law.go:63", after := #[{ on := 3, ground := Ground.data }, { on := 8, ground := Ground.data }], guard := none }) (v := ?vk252) rfl (by kernel_rfl) (by kernel_rfl) (by kernel_rfl) (fun _ _ _ h => h) (Or.inl ⟨by rfl, ?hk252⟩) (T7.old U250 HS8.out) ?rk252
                          case hk252 => (intro wz hSw; (try dsimp only at hSw); go_simp; try with_reducible rfl)
                          (try simp only [Act.put]); (try simp only [List.setIfInBounds_toArray]); (try simp only [List.set_cons_succ]); (try simp only [List.set_cons_zero])
                          refine wpAnyH_take (i := 10) (oi := { dst := some 76, op := Op.move (Operand.tmp 75), type := 4, pos := "law.go:63", after := #[{ on := 9, ground := Ground.data }, { on := 7, ground := Ground.chain }], guard := none }) (v := ?vk253) rfl (by kernel_rfl) (by kernel_rfl) (by kernel_rfl) (fun _ _ _ h => h) (Or.inl ⟨by rfl, ?hk253⟩) (T7.old U250 HS8.out) ?rk253
                          case hk253 => (intro wz hSw; (try dsimp only at hSw); go_simp; try with_reducible rfl)
                          (try simp only [Act.put]); (try simp only [List.setIfInBounds_toArray]); (try simp only [List.set_cons_succ]); (try simp only [List.set_cons_zero])
                          refine wpAnyH_take (i := 11) (oi := { dst := some 77, op := Op.move (Operand.tmp 5), type := 23, pos := "law.go:63", after := #[{ on := 10, ground := Ground.guard }], guard := some (10, false) }) (v := ?vk254) rfl (by kernel_rfl) (by kernel_rfl) (by kernel_rfl) (fun _ _ _ h => h) (Or.inl ⟨by rfl, ?hk254⟩) (T7.old U250 HS8.out) ?rk254
                          case hk254 => (intro wz hSw; (try dsimp only at hSw); go_simp; try with_reducible rfl)
                          (try simp only [Act.put]); (try simp only [List.setIfInBounds_toArray]); (try simp only [List.set_cons_succ]); (try simp only [List.set_cons_zero])
                          refine wpAnyH_take (i := 13) (oi := { dst := some 79, op := Op.fieldAddr 46 (Operand.tmp 6) 1, type := 0, pos := "law.go:63", after := #[{ on := 10, ground := Ground.guard }], guard := some (10, false) }) (v := ?vk255) rfl (by kernel_rfl) (by kernel_rfl) (by kernel_rfl) (fun _ _ _ h => h) (Or.inl ⟨by rfl, ?hk255⟩) (T7.old U250 HS8.out) ?rk255
                          case hk255 => (intro wz hSw; (try dsimp only at hSw); go_simp; try with_reducible rfl)
                          (try simp only [Act.put]); (try simp only [List.setIfInBounds_toArray]); (try simp only [List.set_cons_succ]); (try simp only [List.set_cons_zero])
                          refine wpAnyH_take (i := 14) (oi := { dst := some 80, op := Op.load 44 (Operand.tmp 79), type := 44, pos := "law.go:63", after := #[{ on := 13, ground := Ground.data }, { on := 10, ground := Ground.guard }], guard := some (10, false) }) (v := ?vk256) rfl (by kernel_rfl) (by kernel_rfl) (by kernel_rfl) (fun _ _ _ h => h) (Or.inl ⟨by rfl, ?hk256⟩) (T7.old U250 HS8.out) ?rk256
                          case hk256 => (intro wz hSw; (try dsimp only at hSw); go_simp; try with_reducible rfl)
                          (try simp only [Act.put]); (try simp only [List.setIfInBounds_toArray]); (try simp only [List.set_cons_succ]); (try simp only [List.set_cons_zero])
                          refine wpAnyH_take (i := 15) (oi := { dst := some 81, op := Op.call { callee := Callee.builtin Builtin.len, args := #[Operand.tmp 80], argTypes := #[44] }, type := 3, pos := "law.go:63", after := #[{ on := 14, ground := Ground.data }, { on := 10, ground := Ground.guard }], guard := some (10, false) }) (v := ?vk257) rfl (by kernel_rfl) (by kernel_rfl) (by kernel_rfl) (fun _ _ _ h => h) (Or.inl ⟨by rfl, ?hk257⟩) (T7.old U250 HS8.out) ?rk257
                          case hk257 => (intro wz hSw; (try dsimp only at hSw); go_simp; try with_reducible rfl)
                          (try simp only [Act.put]); (try simp only [List.setIfInBounds_toArray]); (try simp only [List.set_cons_succ]); (try simp only [List.set_cons_zero])
                          refine wpAnyH_ready (rs := [12]) (by kernel_rfl) (by simp) ?_
                          refine AllReadyH.cons (o := { dst := some 78, op := Op.call { callee := Callee.value (Operand.func 11), args := #[Operand.tmp 77], argTypes := #[23] }, type := 3, pos := "law.go:63", after := #[{ on := 11, ground := Ground.data }, { on := 10, ground := Ground.chain }, { on := 10, ground := Ground.guard }], guard := some (10, false) }) rfl (fun K hK => ?_) AllReadyH.nil
                          refine wantCall1 ?_ 11 (.tmp 77) #[23] ?_ (.pointer (some ⟨nb, 0, none⟩)) ?_ ?_ ((enters_of Try.func11 (by kernel_rfl) rfl) _ _) ?_
                          · rfl
                          · rfl
                          · rfl
                          · rfl
                          refine (HLn8.out _ U250).mono ?_
                          rintro o x258 ⟨rfl, b258⟩
                          refine ⟨_, rfl, ?_⟩
                          have U258 := U250.trans b258
                          refine hK.out _ _ (T7.old U258 HS8.out) (fun _ => ?_)
                          clear hK K
                          (try simp only [Act.put]); (try simp only [List.setIfInBounds_toArray]); (try simp only [List.set_cons_succ]); (try simp only [List.set_cons_zero])
                          refine wpAnyH_take (i := 16) (oi := { dst := some 82, op := Op.binOp BinOp.neq 3 (Operand.tmp 78) (Operand.tmp 81) 3, type := 4, pos := "law.go:63", after := #[{ on := 12, ground := Ground.data }, { on := 15, ground := Ground.data }, { on := 10, ground := Ground.guard }], guard := some (10, false) }) (v := ?vk259) rfl (by kernel_rfl) (by kernel_rfl) (by kernel_rfl) (fun _ _ _ h => h) (Or.inl ⟨by rfl, ?hk259⟩) (T7.old U258 HS8.out) ?rk259
                          case hk259 => (intro wz hSw; (try dsimp only at hSw); go_simp; try with_reducible rfl)
                          (try simp only [Act.put]); (try simp only [List.setIfInBounds_toArray]); (try simp only [List.set_cons_succ]); (try simp only [List.set_cons_zero])
                          refine wpAnyH_take (i := 17) (oi := { dst := some 83, op := Op.pick (Operand.tmp 76) (Operand.const (Value.bool true)) (Operand.tmp 82), type := 4, pos := "law.go:63", after := #[{ on := 10, ground := Ground.data }, { on := 16, ground := Ground.data }], guard := none }) (v := ?vk260) rfl (by kernel_rfl) (by kernel_rfl) (by kernel_rfl) (fun _ _ _ h => h) (Or.inl ⟨by rfl, ?hk260⟩) (T7.old U258 HS8.out) ?rk260
                          case hk260 => (intro wz hSw; (try dsimp only at hSw); go_simp; try with_reducible rfl)
                          (try simp only [Act.put]); (try simp only [List.setIfInBounds_toArray]); (try simp only [List.set_cons_succ]); (try simp only [List.set_cons_zero])
                          refine wpAnyH_done (by kernel_rfl) ?_ _
                          refine NoPanic.normal ?_
                          have UY := hid U258
                          go_wp2
                          go_roundw
                          case rel => exact ⟨i + 1, a7, c7, Z, P5, hlt, by go_num, M8.out.old UY.out⟩
                          case measure => simp [intOf]; omega
            · skip
              refine stepAllocR ?_ ?_ ?_
              · rfl
              · rfl
              intro m42 y42 hm42 hy42
              have nn42 : y42.heap[m42]? = some (.cells #[.int .i64 0, .int .i64 0, .slice none 0 0] 48 (0, 0)) := by rw [hy42, hm42]; exact alloc_at _ _
              have b42 : Old (x10) y42 := by rw [hy42]; exact (Old.refl _).alloc _
              have Z42 : w6.heap.size ≤ m42 := by rw [hm42]; exact (U10).size
              clear hm42 hy42
              have U42 := (U10).trans b42
              refine hK.out _ _ (PS.old U42 HPS.out) (fun _ => ?_)
              clear hK K
              (try simp only [Act.put]); (try simp only [List.setIfInBounds_toArray]); (try simp only [List.set_cons_succ]); (try simp only [List.set_cons_zero])
              refine wpAnyH_ready (rs := [11, 16]) (by kernel_rfl) (by simp) ?_
              refine AllReadyH.cons (o := { dst := some 61, op := Op.call { callee := Callee.value (Operand.func 16), args := #[Operand.tmp 50, Operand.tmp 60], argTypes := #[46, 53] }, type := 49, pos := "law.go:61", after := #[{ on := 0, ground := Ground.data }, { on := 10, ground := Ground.data }, { on := 9, ground := Ground.chain }], guard := none }) rfl (fun K hK => ?_) (AllReadyH.cons (o := { dst := some 11, op := Op.alloc 46, type := 0, pos := "law.go:61", after := #[], guard := none }) rfl (fun K hK => ?_) AllReadyH.nil)
              · skip
                refine wantCall2 ?_ 16 (.tmp 50) (.tmp 60) #[46, 53] ?_ (.agg #[.int .i64 (most : Nat), .slice a Y.length cp]) (.agg #[.int .i64 ok, .int .i64 oi, .int .i64 om, .int .i64 of, .int .i64 ot, .slice pB oL.length cB]) ?_ ?_ ?_ ((enters_of Try.func16 (by kernel_rfl) rfl) _ _) ?_
                · rfl
                · rfl
                · rfl
                · rfl
                · rfl
                refine (HDc.out _ U42).mono ?_
                rintro o x43 ⟨a7, c7, Z, x7, rfl, d43, hZ43, hx43, s43, b43, nw43⟩
                refine ⟨_, rfl, ?_⟩
                have HZ7 := hid hZ43
                have HX7 := hid hx43
                have Nm12 := hid (show ∀ g, (Value.slice a7 Z.length c7).ownBlock = some g → g ≠ m42 from fun g e => by rcases nw43 g e with h | h; (have := (D6.out.row.lt g h).2; have := Z42; omega); (have := blk_lt nn42; omega))
                clear hZ43 hx43 nw43
                have U43 := (U42).trans b43
                have n12_43 := (b43).block nn42
                refine hK.out _ _ (PS.old U43 HPS.out) (fun _ => ?_)
                clear hK K
                (try simp only [Act.put]); (try simp only [List.setIfInBounds_toArray]); (try simp only [List.set_cons_succ]); (try simp only [List.set_cons_zero])
                refine wpAnyH_take (i := 12) (oi := { dst := some 49, op := Op.move (Operand.tmp 61), type := 49, pos := "law.go:61", after := #[{ on := 11, ground := Ground.data }], guard := none }) (v := ?vk44) rfl (by kernel_rfl) (by kernel_rfl) (by kernel_rfl) (fun _ _ _ h => h) (Or.inl ⟨by rfl, ?hk44⟩) (PS.old U43 HPS.out) ?rk44
                case hk44 => (intro wz hSw; (try dsimp only at hSw); go_simp; try with_reducible rfl)
                (try simp only [Act.put]); (try simp only [List.setIfInBounds_toArray]); (try simp only [List.set_cons_succ]); (try simp only [List.set_cons_zero])
                refine wpAnyH_take (i := 13) (oi := { dst := some 62, op := Op.extract (Operand.tmp 49) 0, type := 46, pos := "law.go:61", after := #[{ on := 12, ground := Ground.data }], guard := none }) (v := ?vk45) rfl (by kernel_rfl) (by kernel_rfl) (by kernel_rfl) (fun _ _ _ h => h) (Or.inl ⟨by rfl, ?hk45⟩) (PS.old U43 HPS.out) ?rk45
                case hk45 => (intro wz hSw; (try dsimp only at hSw); go_simp; try with_reducible rfl)
                (try simp only [Act.put]); (try simp only [List.setIfInBounds_toArray]); (try simp only [List.set_cons_succ]); (try simp only [List.set_cons_zero])
                refine wpAnyH_take (i := 14) (oi := { dst := some 63, op := Op.extract (Operand.tmp 49) 1, type := 48, pos := "law.go:61", after := #[{ on := 12, ground := Ground.data }, { on := 18, ground := Ground.gcOnly Departure.lateStores }], guard := none }) (v := ?vk46) rfl (by kernel_rfl) (by kernel_rfl) (by kernel_rfl) (fun _ _ _ h => h) (Or.inl ⟨by rfl, ?hk46⟩) (PS.old U43 HPS.out) ?rk46
                case hk46 => (intro wz hSw; (try dsimp only at hSw); go_simp; try with_reducible rfl)
                (try simp only [Act.put]); (try simp only [List.setIfInBounds_toArray]); (try simp only [List.set_cons_succ]); (try simp only [List.set_cons_zero])
                refine wpAnyH_take (i := 15) (oi := { dst := some 64, op := Op.extract (Operand.tmp 49) 2, type := 4, pos := "law.go:61", after := #[{ on := 12, ground := Ground.data }, { on := 19, ground := Ground.gcOnly Departure.lateStores }], guard := none }) (v := ?vk47) rfl (by kernel_rfl) (by kernel_rfl) (by kernel_rfl) (fun _ _ _ h => h) (Or.inl ⟨by rfl, ?hk47⟩) (PS.old U43 HPS.out) ?rk47
                case hk47 => (intro wz hSw; (try dsimp only at hSw); go_simp; try with_reducible rfl)
                (try simp only [Act.put]); (try simp only [List.setIfInBounds_toArray]); (try simp only [List.set_cons_succ]); (try simp only [List.set_cons_zero])
                refine wpAnyH_ready (rs := [16]) (by kernel_rfl) (by simp) ?_
                refine AllReadyH.cons (o := { dst := some 11, op := Op.alloc 46, type := 0, pos := "law.go:61", after := #[], guard := none }) rfl (fun K hK => ?_) AllReadyH.nil
                · skip
                  refine stepAllocN ?_ ?_ ?_
                  · rfl
                  · rfl
                  intro m48 y48 hm48 hy48
                  have nn48 : y48.heap[m48]? = some (.cells #[.int .i64 0, .slice none 0 0] 46 (0, 0)) := by rw [hy48, hm48]; exact alloc_at _ _
                  have b48 : Old (x43) y48 := by rw [hy48]; exact (Old.refl _).alloc _
                  have Z48 : w6.heap.size ≤ m48 := by rw [hm48]; exact (U43).size
                  have Nm11 := hid (show ∀ g, (Value.slice a7 Z.length c7).ownBlock = some g → g ≠ m48 from fun g e => by have := ((d43).row.lt g e).2; omega)
                  clear hm48 hy48
                  have U48 := (U43).trans b48
                  have n12_48 := (b48).block n12_43
                  have dz48 := DocAt.old d43 b48
                  have sx48 := Sr.old s43 b48
                  refine hK.out _ _ (PS.old U48 HPS.out) (fun _ => ?_)
                  clear hK K
                  (try simp only [Act.put]); (try simp only [List.setIfInBounds_toArray]); (try simp only [List.set_cons_succ]); (try simp only [List.set_cons_zero])
                  refine wpAnyH_ready (rs := [18]) (by kernel_rfl) (by simp) ?_
                  refine AllReadyH.cons (o := { dst := none, op := Op.store 46 (Operand.tmp 11) (Operand.tmp 62), type := 0, pos := "law.go:61", after := #[{ on := 16, ground := Ground.data }, { on := 13, ground := Ground.data }, { on := 11, ground := Ground.chain }, { on := 0, ground := Ground.phase }, { on := 1, ground := Ground.phase }, { on := 2, ground := Ground.phase }, { on := 3, ground := Ground.phase }, { on := 4, ground := Ground.phase }, { on := 5, ground := Ground.phase }, { on := 6, ground := Ground.phase }, { on := 7, ground := Ground.phase }, { on := 8, ground := Ground.phase }, { on := 9, ground := Ground.phase }, { on := 10, ground := Ground.phase }, { on := 11, ground := Ground.phase }, { on := 12, ground := Ground.phase }, { on := 13, ground := Ground.phase }, { on := 14, ground := Ground.textOnly Departure.lateStores }, { on := 15, ground := Ground.textOnly Departure.lateStores }, { on := 16, ground := Ground.phase }, { on := 17, ground := Ground.phase }], guard := none }) rfl (fun K hK => ?_) AllReadyH.nil
                  · skip
                    refine stepStoreN2 ?_ (.tmp 11) (.tmp 62) ?_ m48 (.int .i64 (most : Nat)) (.slice a7 Z.length c7) ?_ ?_ (there2 nn48) ⟨rfl, rfl⟩ ?_
                    · rfl
                    · rfl
                    · rfl
                    · rfl
                    have ne49 : m42 ≠ m48 := fun e => by have h1 := nn48; have h2 := n12_48; rw [e, h1] at h2; simp at h2
                    have q49 := set_other (v := .slice a7 Z.length c7) (i := 1) (set_other (v := .int .i64 (most : Nat)) (i := 0) n12_48 ne49) ne49
                    have U49 := ((U48).setCell (p := ⟨m48, 0, none⟩) Z48 (.int .i64 (most : Nat))).setCell (p := ⟨m48, 1, none⟩) Z48 (.slice a7 Z.length c7)
                    refine hK.out _ _ (PS.old U49 HPS.out) (fun _ => ?_)
                    clear hK K
                    (try simp only [Act.put]); (try simp only [List.setIfInBounds_toArray]); (try simp only [List.set_cons_succ]); (try simp only [List.set_cons_zero])
                    refine wpAnyH_ready (rs := [19]) (by kernel_rfl) (by simp) ?_
                    refine AllReadyH.cons (o := { dst := none, op := Op.store 48 (Operand.tmp 12) (Operand.tmp 63), type := 0, pos := "law.go:61", after := #[{ on := 17, ground := Ground.data }, { on := 14, ground := Ground.data }, { on := 18, ground := Ground.chain }, { on := 0, ground := Ground.phase }, { on := 1, ground := Ground.phase }, { on := 2, ground := Ground.phase }, { on := 3, ground := Ground.phase }, { on := 4, ground := Ground.phase }, { on := 5, ground := Ground.phase }, { on := 6, ground := Ground.phase }, { on := 7, ground := Ground.phase }, { on := 8, ground := Ground.phase }, { on := 9, ground := Ground.phase }, { on := 10, ground := Ground.phase }, { on := 11, ground := Ground.phase }, { on := 12, ground := Ground.phase }, { on := 13, ground := Ground.phase }, { on := 14, ground := Ground.phase }, { on := 15, ground := Ground.textOnly Departure.lateStores }, { on := 16, ground := Ground.phase }, { on := 17, ground := Ground.phase }, { on := 18, ground := Ground.phase }], guard := none }) rfl (fun K hK => ?_) AllReadyH.nil
                    · skip
                      refine stepStoreR3 ?_ (.tmp 12) (.tmp 63) ?_ m42 (.int .i64 x7.f) (.int .i64 x7.t) (.slice x7.a x7.L.length x7.c) ?_ ?_ (there3 q49) ⟨rfl, rfl, rfl⟩ ?_
                      · rfl
                      · rfl
                      · rfl
                      · rfl
                      have U50 := (((U49).setCell (p := ⟨m42, 0, none⟩) Z42 (.int .i64 x7.f)).setCell (p := ⟨m42, 1, none⟩) Z42 (.int .i64 x7.t)).setCell (p := ⟨m42, 2, none⟩) Z42 (.slice x7.a x7.L.length x7.c)
                      refine hK.out _ _ (PS.old U50 HPS.out) (fun _ => ?_)
                      clear hK K
                      (try simp only [Act.put]); (try simp only [List.setIfInBounds_toArray]); (try simp only [List.set_cons_succ]); (try simp only [List.set_cons_zero])
                      refine wpAnyH_ready (rs := [20]) (by kernel_rfl) (by simp) ?_
                      refine AllReadyH.cons (o := { dst := some 13, op := Op.assign (Operand.tmp 64), type := 4, pos := "law.go:61", after := #[{ on := 15, ground := Ground.data }, { on := 19, ground := Ground.chain }, { on := 0, ground := Ground.phase }, { on := 1, ground := Ground.phase }, { on := 2, ground := Ground.phase }, { on := 3, ground := Ground.phase }, { on := 4, ground := Ground.phase }, { on := 5, ground := Ground.phase }, { on := 6, ground := Ground.phase }, { on := 7, ground := Ground.phase }, { on := 8, ground := Ground.phase }, { on := 9, ground := Ground.phase }, { on := 10, ground := Ground.phase }, { on := 11, ground := Ground.phase }, { on := 12, ground := Ground.phase }, { on := 13, ground := Ground.phase }, { on := 14, ground := Ground.phase }, { on := 15, ground := Ground.phase }, { on := 16, ground := Ground.phase }, { on := 17, ground := Ground.phase }, { on := 18, ground := Ground.phase }, { on := 19, ground := Ground.phase }], guard := none }) rfl (fun K hK => ?_) AllReadyH.nil
                      · skip
                        go_simp
                        refine hK.out _ _ (PS.old U50 HPS.out) (fun _ => ?_)
                        clear hK K
                        (try simp only [Act.put]); (try simp only [List.setIfInBounds_toArray]); (try simp only [List.set_cons_succ]); (try simp only [List.set_cons_zero])
                        refine wpAnyH_done (by kernel_rfl) ?_ _
                        refine NoPanic.normal ?_
                        have FF := hid (rfin (p := .int .i64 (most : Nat)) (q := .slice a7 Z.length c7) (x := .int .i64 x7.f) (y := .int .i64 x7.t) (z := .slice x7.a x7.L.length x7.c) nn48 n12_48)
                        have D7 := hid (show DocAt w (((((y48.setCell ⟨m48, 0, none⟩ (.int .i64 (most : Nat))).setCell ⟨m48, 1, none⟩ (.slice a7 Z.length c7)).setCell ⟨m42, 0, none⟩ (.int .i64 x7.f)).setCell ⟨m42, 1, none⟩ (.int .i64 x7.t)).setCell ⟨m42, 2, none⟩ (.slice x7.a x7.L.length x7.c)) (.slice a7 Z.length c7) Z from DocAt.chg2 (B := 0) dz48 FF.out.2.2 nn48 n12_48 (fun g e => ⟨Nm11.out g e, Nm12.out g e⟩))
                        have S7 := hid (show Sr w (((((y48.setCell ⟨m48, 0, none⟩ (.int .i64 (most : Nat))).setCell ⟨m48, 1, none⟩ (.slice a7 Z.length c7)).setCell ⟨m42, 0, none⟩ (.int .i64 x7.f)).setCell ⟨m42, 1, none⟩ (.int .i64 x7.t)).setCell ⟨m42, 2, none⟩ (.slice x7.a x7.L.length x7.c)) x7.v x7.L from Sr.chg2 sx48 FF.out.2.2 nn48 n12_48)
                        have F11 := hid (show (((((y48.setCell ⟨m48, 0, none⟩ (.int .i64 (most : Nat))).setCell ⟨m48, 1, none⟩ (.slice a7 Z.length c7)).setCell ⟨m42, 0, none⟩ (.int .i64 x7.f)).setCell ⟨m42, 1, none⟩ (.int .i64 x7.t)).setCell ⟨m42, 2, none⟩ (.slice x7.a x7.L.length x7.c)).heap[m48]? = some (.cells #[.int .i64 (most : Nat), .slice a7 Z.length c7] 46 (0, 0)) from FF.out.1)
                        have F12 := hid (show (((((y48.setCell ⟨m48, 0, none⟩ (.int .i64 (most : Nat))).setCell ⟨m48, 1, none⟩ (.slice a7 Z.length c7)).setCell ⟨m42, 0, none⟩ (.int .i64 x7.f)).setCell ⟨m42, 1, none⟩ (.int .i64 x7.t)).setCell ⟨m42, 2, none⟩ (.slice x7.a x7.L.length x7.c)).heap[m42]? = some (.cells #[.int .i64 x7.f, .int .i64 x7.t, .slice x7.a x7.L.length x7.c] 48 (0, 0)) from FF.out.2.1)
                        have UZ := hid (show Old w6 (((((y48.setCell ⟨m48, 0, none⟩ (.int .i64 (most : Nat))).setCell ⟨m48, 1, none⟩ (.slice a7 Z.length c7)).setCell ⟨m42, 0, none⟩ (.int .i64 x7.f)).setCell ⟨m42, 1, none⟩ (.int .i64 x7.t)).setCell ⟨m42, 2, none⟩ (.slice x7.a x7.L.length x7.c)) from U50)
                        clear FF Nm11 Nm12 nn48 n12_48 q49 dz48 sx48 U50
                        generalize (((((y48.setCell ⟨m48, 0, none⟩ (.int .i64 (most : Nat))).setCell ⟨m48, 1, none⟩ (.slice a7 Z.length c7)).setCell ⟨m42, 0, none⟩ (.int .i64 x7.f)).setCell ⟨m42, 1, none⟩ (.int .i64 x7.t)).setCell ⟨m42, 2, none⟩ (.slice x7.a x7.L.length x7.c)) = w7 at *
                        generalize m48 = b11 at *
                        generalize m42 = b12 at *
                        have N7 := hid (N6.out.old UZ.out)
                        have HBm7 := hid (UZ.out.block HBm6.out)
                        have HB97 := hid (UZ.out.block HB9.out)
                        have O7 := hid (O6.out.old UZ.out)
                        clear N6 HBm6 HB9 O6 D6 HBo6 HPS HOf HDc UZ
                        obtain ⟨xf7, xt7, xa7, xc7, xL7⟩ := x7
                        obtain ⟨e1, e2, e3⟩ : xf7 = xf ∧ xt7 = xt ∧ xL7 = xL := by
                          have h := HX7.out
                          unfold Lt.p at h
                          simp only [Prod.mk.injEq] at h
                          exact h
                        clear HX7
                        subst e1 e2 e3
                        dsimp only at S7 F12
                        unfold Lt.v at S7
                        dsimp only at S7
                        obtain ⟨r0, r1, -, -⟩ := box2 F11.out
                        obtain ⟨s0, s1, sf0, sf1⟩ := box2 HBm7.out
                        go_upto_region 12 with (fail)
                        have M8 := hid (PA.set (cs := #[]) (most := most) N7.out HBm7.out HNw.out D7.out HZ7.out)
                        have ne12 : b12 ≠ bm := fun e => by have h1 := F12.out; rw [e, HBm7.out] at h1; simp at h1
                        have ne9 : b9 ≠ bm := fun e => by have h1 := HB97.out; rw [e, HBm7.out] at h1; simp at h1
                        have G12 := hid (set_other (v := .slice a7 Z.length c7) (i := 1) (set_other (v := .int .i64 (most : Nat)) (i := 0) F12.out ne12) ne12)
                        have G9 := hid (set_other (v := .slice a7 Z.length c7) (i := 1) (set_other (v := .int .i64 (most : Nat)) (i := 0) HB97.out ne9) ne9)
                        have O8 := hid (O7.out.chg (chg2 w7 bm (.int .i64 (most : Nat)) (.slice a7 Z.length c7)) (O7.out.offT HBm7.out (by decide)))
                        have S8 := hid (S7.out.chgT (chg2 w7 bm (.int .i64 (most : Nat)) (.slice a7 Z.length c7)) HBm7.out)
                        clear r0 r1 s0 s1 sf0 sf1 F11 F12 HBm7 HB97 O7 N7 S7 D7 ne12 ne9
                        generalize (w7.setCell ⟨bm, 0, none⟩ (.int .i64 (most : Nat))).setCell ⟨bm, 1, none⟩ (.slice a7 Z.length c7) = w8 at *
                        have HS8 := hid (show (fun wz => (wz.cell? ⟨b9, 0, none⟩ = some (.int .i64 xf7) ∧ wz.cell? ⟨b9, 1, none⟩ = some (.int .i64 xt7) ∧ wz.cell? ⟨b9, 2, none⟩ = some (.slice a5 xL7.length c5)) ∧ (wz.cell? ⟨b12, 0, none⟩ = some (.int .i64 xf7) ∧ wz.cell? ⟨b12, 1, none⟩ = some (.int .i64 xt7) ∧ wz.cell? ⟨b12, 2, none⟩ = some (.slice xa7 xL7.length xc7)) ∧ wz.cell? ⟨bm, 1, none⟩ = some (.slice a7 Z.length c7)) w8 from ⟨⟨(box3 G9.out).1, (box3 G9.out).2.1, (box3 G9.out).2.2.1⟩, ⟨(box3 G12.out).1, (box3 G12.out).2.1, (box3 G12.out).2.2.1⟩, (box2 M8.out.box).2.1⟩)
                        dsimp only at HS8
                        have HOf8 := hid (fun (W : World) (u : Old w8 W) => rof_any xf7 xt7 a5 xL7.length c5 W)
                        have HSm8 := hid (fun (W : World) (u : Old w8 W) => rsame_any xf7 xt7 a5 xa7 c5 xc7 xL7 W ((O8.out.old u).row) ((S8.out.old u).row (M8.out.net.base.trans u)))
                        have HLn8 := hid (show ∀ W, Old w8 W → Calls Try.prog 11 #[.pointer (some ⟨nb, 0, none⟩)] W fun e w' => e = .returned (.int .i64 (Z.length : Nat)) ∧ Old W w' from fun W u => (lenN w W nb most P5 [] (M8.out.net.old u)).mono fun e w' q => ⟨by rw [q.1, ← HZ7.out, List.length_map], by rw [q.2]; exact Old.refl _⟩)
                        clear G12 G9 O8 S8
                        cases b5
                        case false =>
                          refine wp_region_noPanic ?_
                          refine wp_region_held_drew (S := fun wz => (wz.cell? ⟨b9, 0, none⟩ = some (.int .i64 xf7) ∧ wz.cell? ⟨b9, 1, none⟩ = some (.int .i64 xt7) ∧ wz.cell? ⟨b9, 2, none⟩ = some (.slice a5 xL7.length c5)) ∧ (wz.cell? ⟨b12, 0, none⟩ = some (.int .i64 xf7) ∧ wz.cell? ⟨b12, 1, none⟩ = some (.int .i64 xt7) ∧ wz.cell? ⟨b12, 2, none⟩ = some (.slice xa7 xL7.length xc7)) ∧ wz.cell? ⟨bm, 1, none⟩ = some (.slice a7 Z.length c7)) (by kernel_rfl) ?_ (fun hHeld => ?_)
                          · exact T7.old ((Old.refl _).drew) HS8.out
                          (try simp only [Act.put]); (try simp only [List.setIfInBounds_toArray]); (try simp only [List.set_cons_succ]); (try simp only [List.set_cons_zero])
                          clear hHeld
                          refine wpAnyH_take (i := 0) (oi := { dst := some 66, op := Op.move (Operand.tmp 10), type := 4, pos := "law.go:63", after := #[], guard := none }) (v := ?vk261) rfl (by kernel_rfl) (by kernel_rfl) (by kernel_rfl) (fun _ _ _ h => h) (Or.inl ⟨by rfl, ?hk261⟩) (T7.old ((Old.refl w8).drew) HS8.out) ?rk261
                          case hk261 => (intro wz hSw; (try dsimp only at hSw); go_simp; try with_reducible rfl)
                          (try simp only [Act.put]); (try simp only [List.setIfInBounds_toArray]); (try simp only [List.set_cons_succ]); (try simp only [List.set_cons_zero])
                          refine wpAnyH_take (i := 1) (oi := { dst := some 67, op := Op.move (Operand.tmp 13), type := 4, pos := "law.go:63", after := #[], guard := none }) (v := ?vk262) rfl (by kernel_rfl) (by kernel_rfl) (by kernel_rfl) (fun _ _ _ h => h) (Or.inl ⟨by rfl, ?hk262⟩) (T7.old ((Old.refl w8).drew) HS8.out) ?rk262
                          case hk262 => (intro wz hSw; (try dsimp only at hSw); go_simp; try with_reducible rfl)
                          (try simp only [Act.put]); (try simp only [List.setIfInBounds_toArray]); (try simp only [List.set_cons_succ]); (try simp only [List.set_cons_zero])
                          refine wpAnyH_take (i := 2) (oi := { dst := some 68, op := Op.binOp BinOp.neq 4 (Operand.tmp 66) (Operand.tmp 67) 4, type := 4, pos := "law.go:63", after := #[{ on := 0, ground := Ground.data }, { on := 1, ground := Ground.data }], guard := none }) (v := ?vk263) rfl (by kernel_rfl) (by kernel_rfl) (by kernel_rfl) (fun _ _ _ h => h) (Or.inl ⟨by rfl, ?hk263⟩) (T7.old ((Old.refl w8).drew) HS8.out) ?rk263
                          case hk263 => (intro wz hSw; (try dsimp only at hSw); go_simp; try with_reducible rfl)
                          (try simp only [Act.put]); (try simp only [List.setIfInBounds_toArray]); (try simp only [List.set_cons_succ]); (try simp only [List.set_cons_zero])
                          refine wpAnyH_take (i := 3) (oi := { dst := some 69, op := Op.move (Operand.tmp 68), type := 4, pos := "law.go:63", after := #[{ on := 2, ground := Ground.data }], guard := none }) (v := ?vk264) rfl (by kernel_rfl) (by kernel_rfl) (by kernel_rfl) (fun _ _ _ h => h) (Or.inl ⟨by rfl, ?hk264⟩) (T7.old ((Old.refl w8).drew) HS8.out) ?rk264
                          case hk264 => (intro wz hSw; (try dsimp only at hSw); go_simp; try with_reducible rfl)
                          (try simp only [Act.put]); (try simp only [List.setIfInBounds_toArray]); (try simp only [List.set_cons_succ]); (try simp only [List.set_cons_zero])
                          refine wpAnyH_take (i := 4) (oi := { dst := some 70, op := Op.load 30 (Operand.tmp 9), type := 30, pos := "law.go:63", after := #[{ on := 3, ground := Ground.guard }], guard := some (3, false) }) (v := ?vk265) rfl (by kernel_rfl) (by kernel_rfl) (by kernel_rfl) (fun _ _ _ h => h) (Or.inl ⟨by rfl, ?hk265⟩) (T7.old ((Old.refl w8).drew) HS8.out) ?rk265
                          case hk265 => (intro wz hSw; (try dsimp only at hSw); go_simp; try with_reducible rfl)
                          (try simp only [Act.put]); (try simp only [List.setIfInBounds_toArray]); (try simp only [List.set_cons_succ]); (try simp only [List.set_cons_zero])
                          refine wpAnyH_take (i := 6) (oi := { dst := some 72, op := Op.load 48 (Operand.tmp 12), type := 48, pos := "law.go:63", after := #[{ on := 3, ground := Ground.guard }], guard := some (3, false) }) (v := ?vk266) rfl (by kernel_rfl) (by kernel_rfl) (by kernel_rfl) (fun _ _ _ h => h) (Or.inl ⟨by rfl, ?hk266⟩) (T7.old ((Old.refl w8).drew) HS8.out) ?rk266
                          case hk266 => (intro wz hSw; (try dsimp only at hSw); go_simp; try with_reducible rfl)
                          (try simp only [Act.put]); (try simp only [List.setIfInBounds_toArray]); (try simp only [List.set_cons_succ]); (try simp only [List.set_cons_zero])
                          refine wpAnyH_ready (rs := [5]) (by kernel_rfl) (by simp) ?_
                          refine AllReadyH.cons (o := { dst := some 71, op := Op.call { callee := Callee.value (Operand.func 17), args := #[Operand.tmp 70], argTypes := #[30] }, type := 48, pos := "law.go:63", after := #[{ on := 4, ground := Ground.data }, { on := 3, ground := Ground.chain }, { on := 3, ground := Ground.guard }], guard := some (3, false) }) rfl (fun K hK => ?_) AllReadyH.nil
                          refine wantCall1 ?_ 17 (.tmp 70) #[30] ?_ (.agg #[.int .i64 xf7, .int .i64 xt7, .slice a5 xL7.length c5]) ?_ ?_ ((enters_of Try.func17 (by kernel_rfl) rfl) _ _) ?_
                          · rfl
                          · rfl
                          · rfl
                          · rfl
                          refine (HOf8.out _ ((Old.refl w8).drew)).mono ?_
                          rintro o x267 ⟨rfl, b267⟩
                          refine ⟨_, rfl, ?_⟩
                          have U267 := ((Old.refl w8).drew).trans b267
                          refine hK.out _ _ (T7.old U267 HS8.out) (fun _ => ?_)
                          clear hK K
                          (try simp only [Act.put]); (try simp only [List.setIfInBounds_toArray]); (try simp only [List.set_cons_succ]); (try simp only [List.set_cons_zero])
                          refine wpAnyH_ready (rs := [7]) (by kernel_rfl) (by simp) ?_
                          refine AllReadyH.cons (o := { dst := some 73, op := Op.call { callee := Callee.value (Operand.func 18), args := #[Operand.tmp 71, Operand.tmp 72], argTypes := #[48, 48] }, type := 4, pos := "law.go:63", after := #[{ on := 5, ground := Ground.data }, { on := 6, ground := Ground.data }, { on := 5, ground := Ground.chain }, { on := 3, ground := Ground.guard }], guard := some (3, false) }) rfl (fun K hK => ?_) AllReadyH.nil
                          refine wantCall2 ?_ 18 (.tmp 71) (.tmp 72) #[48, 48] ?_ (.agg #[.int .i64 xf7, .int .i64 xt7, .slice a5 xL7.length c5]) (.agg #[.int .i64 xf7, .int .i64 xt7, .slice xa7 xL7.length xc7]) ?_ ?_ ?_ ((enters_of Try.func18 (by kernel_rfl) rfl) _ _) ?_
                          · rfl
                          · rfl
                          · rfl
                          · rfl
                          · rfl
                          refine (HSm8.out _ U267).mono ?_
                          rintro o x268 ⟨rfl, b268⟩
                          refine ⟨_, rfl, ?_⟩
                          have U268 := U267.trans b268
                          refine hK.out _ _ (T7.old U268 HS8.out) (fun _ => ?_)
                          clear hK K
                          (try simp only [Act.put]); (try simp only [List.setIfInBounds_toArray]); (try simp only [List.set_cons_succ]); (try simp only [List.set_cons_zero])
                          refine wpAnyH_take (i := 8) (oi := { dst := some 74, op := Op.unOp UnOp.not 4 (Operand.tmp 73), type := 4, pos := "law.go:63", after := #[{ on := 7, ground := Ground.data }, { on := 3, ground := Ground.guard }], guard := some (3, false) }) (v := ?vk269) rfl (by kernel_rfl) (by kernel_rfl) (by kernel_rfl) (fun _ _ _ h => h) (Or.inl ⟨by rfl, ?hk269⟩) (T7.old U268 HS8.out) ?rk269
                          case hk269 => (intro wz hSw; (try dsimp only at hSw); go_simp; try with_reducible rfl)
                          (try simp only [Act.put]); (try simp only [List.setIfInBounds_toArray]); (try simp only [List.set_cons_succ]); (try simp only [List.set_cons_zero])
                          refine wpAnyH_take (i := 9) (oi := { dst := some 75, op := Op.pick (Operand.tmp 69) (Operand.const (Value.bool true)) (Operand.tmp 74), type := 4, pos := "law.go:63", after := #[{ on := 3, ground := Ground.data }, { on := 8, ground := Ground.data }], guard := none }) (v := ?vk270) rfl (by kernel_rfl) (by kernel_rfl) (by kernel_rfl) (fun _ _ _ h => h) (Or.inl ⟨by rfl, ?hk270⟩) (T7.old U268 HS8.out) ?rk270
                          case hk270 => (intro wz hSw; (try dsimp only at hSw); go_simp; try with_reducible rfl)
                          (try simp only [Act.put]); (try simp only [List.setIfInBounds_toArray]); (try simp only [List.set_cons_succ]); (try simp only [List.set_cons_zero])
                          refine wpAnyH_take (i := 10) (oi := { dst := some 76, op := Op.move (Operand.tmp 75), type := 4, pos := "law.go:63", after := #[{ on := 9, ground := Ground.data }, { on := 7, ground := Ground.chain }], guard := none }) (v := ?vk271) rfl (by kernel_rfl) (by kernel_rfl) (by kernel_rfl) (fun _ _ _ h => h) (Or.inl ⟨by rfl, ?hk271⟩) (T7.old U268 HS8.out) ?rk271
                          case hk271 => (intro wz hSw; (try dsimp only at hSw); go_simp; try with_reducible rfl)
                          (try simp only [Act.put]); (try simp only [List.setIfInBounds_toArray]); (try simp only [List.set_cons_succ]); (try simp only [List.set_cons_zero])
                          refine wpAnyH_take (i := 11) (oi := { dst := some 77, op := Op.move (Operand.tmp 5), type := 23, pos := "law.go:63", after := #[{ on := 10, ground := Ground.guard }], guard := some (10, false) }) (v := ?vk272) rfl (by kernel_rfl) (by kernel_rfl) (by kernel_rfl) (fun _ _ _ h => h) (Or.inl ⟨by rfl, ?hk272⟩) (T7.old U268 HS8.out) ?rk272
                          case hk272 => (intro wz hSw; (try dsimp only at hSw); go_simp; try with_reducible rfl)
                          (try simp only [Act.put]); (try simp only [List.setIfInBounds_toArray]); (try simp only [List.set_cons_succ]); (try simp only [List.set_cons_zero])
                          refine wpAnyH_take (i := 13) (oi := { dst := some 79, op := Op.fieldAddr 46 (Operand.tmp 6) 1, type := 0, pos := "law.go:63", after := #[{ on := 10, ground := Ground.guard }], guard := some (10, false) }) (v := ?vk273) rfl (by kernel_rfl) (by kernel_rfl) (by kernel_rfl) (fun _ _ _ h => h) (Or.inl ⟨by rfl, ?hk273⟩) (T7.old U268 HS8.out) ?rk273
                          case hk273 => (intro wz hSw; (try dsimp only at hSw); go_simp; try with_reducible rfl)
                          (try simp only [Act.put]); (try simp only [List.setIfInBounds_toArray]); (try simp only [List.set_cons_succ]); (try simp only [List.set_cons_zero])
                          refine wpAnyH_take (i := 14) (oi := { dst := some 80, op := Op.load 44 (Operand.tmp 79), type := 44, pos := "law.go:63", after := #[{ on := 13, ground := Ground.data }, { on := 10, ground := Ground.guard }], guard := some (10, false) }) (v := ?vk274) rfl (by kernel_rfl) (by kernel_rfl) (by kernel_rfl) (fun _ _ _ h => h) (Or.inl ⟨by rfl, ?hk274⟩) (T7.old U268 HS8.out) ?rk274
                          case hk274 => (intro wz hSw; (try dsimp only at hSw); go_simp; try with_reducible rfl)
                          (try simp only [Act.put]); (try simp only [List.setIfInBounds_toArray]); (try simp only [List.set_cons_succ]); (try simp only [List.set_cons_zero])
                          refine wpAnyH_take (i := 15) (oi := { dst := some 81, op := Op.call { callee := Callee.builtin Builtin.len, args := #[Operand.tmp 80], argTypes := #[44] }, type := 3, pos := "law.go:63", after := #[{ on := 14, ground := Ground.data }, { on := 10, ground := Ground.guard }], guard := some (10, false) }) (v := ?vk275) rfl (by kernel_rfl) (by kernel_rfl) (by kernel_rfl) (fun _ _ _ h => h) (Or.inl ⟨by rfl, ?hk275⟩) (T7.old U268 HS8.out) ?rk275
                          case hk275 => (intro wz hSw; (try dsimp only at hSw); go_simp; try with_reducible rfl)
                          (try simp only [Act.put]); (try simp only [List.setIfInBounds_toArray]); (try simp only [List.set_cons_succ]); (try simp only [List.set_cons_zero])
                          refine wpAnyH_ready (rs := [12]) (by kernel_rfl) (by simp) ?_
                          refine AllReadyH.cons (o := { dst := some 78, op := Op.call { callee := Callee.value (Operand.func 11), args := #[Operand.tmp 77], argTypes := #[23] }, type := 3, pos := "law.go:63", after := #[{ on := 11, ground := Ground.data }, { on := 10, ground := Ground.chain }, { on := 10, ground := Ground.guard }], guard := some (10, false) }) rfl (fun K hK => ?_) AllReadyH.nil
                          refine wantCall1 ?_ 11 (.tmp 77) #[23] ?_ (.pointer (some ⟨nb, 0, none⟩)) ?_ ?_ ((enters_of Try.func11 (by kernel_rfl) rfl) _ _) ?_
                          · rfl
                          · rfl
                          · rfl
                          · rfl
                          refine (HLn8.out _ U268).mono ?_
                          rintro o x276 ⟨rfl, b276⟩
                          refine ⟨_, rfl, ?_⟩
                          have U276 := U268.trans b276
                          refine hK.out _ _ (T7.old U276 HS8.out) (fun _ => ?_)
                          clear hK K
                          (try simp only [Act.put]); (try simp only [List.setIfInBounds_toArray]); (try simp only [List.set_cons_succ]); (try simp only [List.set_cons_zero])
                          refine wpAnyH_take (i := 16) (oi := { dst := some 82, op := Op.binOp BinOp.neq 3 (Operand.tmp 78) (Operand.tmp 81) 3, type := 4, pos := "law.go:63", after := #[{ on := 12, ground := Ground.data }, { on := 15, ground := Ground.data }, { on := 10, ground := Ground.guard }], guard := some (10, false) }) (v := ?vk277) rfl (by kernel_rfl) (by kernel_rfl) (by kernel_rfl) (fun _ _ _ h => h) (Or.inl ⟨by rfl, ?hk277⟩) (T7.old U276 HS8.out) ?rk277
                          case hk277 => (intro wz hSw; (try dsimp only at hSw); go_simp; try with_reducible rfl)
                          (try simp only [Act.put]); (try simp only [List.setIfInBounds_toArray]); (try simp only [List.set_cons_succ]); (try simp only [List.set_cons_zero])
                          refine wpAnyH_take (i := 17) (oi := { dst := some 83, op := Op.pick (Operand.tmp 76) (Operand.const (Value.bool true)) (Operand.tmp 82), type := 4, pos := "law.go:63", after := #[{ on := 10, ground := Ground.data }, { on := 16, ground := Ground.data }], guard := none }) (v := ?vk278) rfl (by kernel_rfl) (by kernel_rfl) (by kernel_rfl) (fun _ _ _ h => h) (Or.inl ⟨by rfl, ?hk278⟩) (T7.old U276 HS8.out) ?rk278
                          case hk278 => (intro wz hSw; (try dsimp only at hSw); go_simp; try with_reducible rfl)
                          (try simp only [Act.put]); (try simp only [List.setIfInBounds_toArray]); (try simp only [List.set_cons_succ]); (try simp only [List.set_cons_zero])
                          refine wpAnyH_done (by kernel_rfl) ?_ _
                          refine NoPanic.normal ?_
                          have UY := hid U276
                          go_wp2
                          go_roundw
                          case rel => exact ⟨i + 1, a7, c7, Z, P5, hlt, by go_num, M8.out.old UY.out⟩
                          case measure => simp [intOf]; omega
                        case true =>
                          refine wp_region_noPanic ?_
                          refine wp_region_held_drew (S := fun wz => (wz.cell? ⟨b9, 0, none⟩ = some (.int .i64 xf7) ∧ wz.cell? ⟨b9, 1, none⟩ = some (.int .i64 xt7) ∧ wz.cell? ⟨b9, 2, none⟩ = some (.slice a5 xL7.length c5)) ∧ (wz.cell? ⟨b12, 0, none⟩ = some (.int .i64 xf7) ∧ wz.cell? ⟨b12, 1, none⟩ = some (.int .i64 xt7) ∧ wz.cell? ⟨b12, 2, none⟩ = some (.slice xa7 xL7.length xc7)) ∧ wz.cell? ⟨bm, 1, none⟩ = some (.slice a7 Z.length c7)) (by kernel_rfl) ?_ (fun hHeld => ?_)
                          · exact T7.old ((Old.refl _).drew) HS8.out
                          (try simp only [Act.put]); (try simp only [List.setIfInBounds_toArray]); (try simp only [List.set_cons_succ]); (try simp only [List.set_cons_zero])
                          clear hHeld
                          refine wpAnyH_take (i := 0) (oi := { dst := some 66, op := Op.move (Operand.tmp 10), type := 4, pos := "law.go:63", after := #[], guard := none }) (v := ?vk279) rfl (by kernel_rfl) (by kernel_rfl) (by kernel_rfl) (fun _ _ _ h => h) (Or.inl ⟨by rfl, ?hk279⟩) (T7.old ((Old.refl w8).drew) HS8.out) ?rk279
                          case hk279 => (intro wz hSw; (try dsimp only at hSw); go_simp; try with_reducible rfl)
                          (try simp only [Act.put]); (try simp only [List.setIfInBounds_toArray]); (try simp only [List.set_cons_succ]); (try simp only [List.set_cons_zero])
                          refine wpAnyH_take (i := 1) (oi := { dst := some 67, op := Op.move (Operand.tmp 13), type := 4, pos := "law.go:63", after := #[], guard := none }) (v := ?vk280) rfl (by kernel_rfl) (by kernel_rfl) (by kernel_rfl) (fun _ _ _ h => h) (Or.inl ⟨by rfl, ?hk280⟩) (T7.old ((Old.refl w8).drew) HS8.out) ?rk280
                          case hk280 => (intro wz hSw; (try dsimp only at hSw); go_simp; try with_reducible rfl)
                          (try simp only [Act.put]); (try simp only [List.setIfInBounds_toArray]); (try simp only [List.set_cons_succ]); (try simp only [List.set_cons_zero])
                          refine wpAnyH_take (i := 2) (oi := { dst := some 68, op := Op.binOp BinOp.neq 4 (Operand.tmp 66) (Operand.tmp 67) 4, type := 4, pos := "law.go:63", after := #[{ on := 0, ground := Ground.data }, { on := 1, ground := Ground.data }], guard := none }) (v := ?vk281) rfl (by kernel_rfl) (by kernel_rfl) (by kernel_rfl) (fun _ _ _ h => h) (Or.inl ⟨by rfl, ?hk281⟩) (T7.old ((Old.refl w8).drew) HS8.out) ?rk281
                          case hk281 => (intro wz hSw; (try dsimp only at hSw); go_simp; try with_reducible rfl)
                          (try simp only [Act.put]); (try simp only [List.setIfInBounds_toArray]); (try simp only [List.set_cons_succ]); (try simp only [List.set_cons_zero])
                          refine wpAnyH_take (i := 3) (oi := { dst := some 69, op := Op.move (Operand.tmp 68), type := 4, pos := "law.go:63", after := #[{ on := 2, ground := Ground.data }], guard := none }) (v := ?vk282) rfl (by kernel_rfl) (by kernel_rfl) (by kernel_rfl) (fun _ _ _ h => h) (Or.inl ⟨by rfl, ?hk282⟩) (T7.old ((Old.refl w8).drew) HS8.out) ?rk282
                          case hk282 => (intro wz hSw; (try dsimp only at hSw); go_simp; try with_reducible rfl)
                          (try simp only [Act.put]); (try simp only [List.setIfInBounds_toArray]); (try simp only [List.set_cons_succ]); (try simp only [List.set_cons_zero])
                          refine wpAnyH_take (i := 4) (oi := { dst := some 70, op := Op.load 30 (Operand.tmp 9), type := 30, pos := "law.go:63", after := #[{ on := 3, ground := Ground.guard }], guard := some (3, false) }) (v := ?vk283) rfl (by kernel_rfl) (by kernel_rfl) (by kernel_rfl) (fun _ _ _ h => h) (Or.inl ⟨by rfl, ?hk283⟩) (T7.old ((Old.refl w8).drew) HS8.out) ?rk283
                          case hk283 => (intro wz hSw; (try dsimp only at hSw); go_simp; try with_reducible rfl)
                          (try simp only [Act.put]); (try simp only [List.setIfInBounds_toArray]); (try simp only [List.set_cons_succ]); (try simp only [List.set_cons_zero])
                          refine wpAnyH_take (i := 6) (oi := { dst := some 72, op := Op.load 48 (Operand.tmp 12), type := 48, pos := "law.go:63", after := #[{ on := 3, ground := Ground.guard }], guard := some (3, false) }) (v := ?vk284) rfl (by kernel_rfl) (by kernel_rfl) (by kernel_rfl) (fun _ _ _ h => h) (Or.inl ⟨by rfl, ?hk284⟩) (T7.old ((Old.refl w8).drew) HS8.out) ?rk284
                          case hk284 => (intro wz hSw; (try dsimp only at hSw); go_simp; try with_reducible rfl)
                          (try simp only [Act.put]); (try simp only [List.setIfInBounds_toArray]); (try simp only [List.set_cons_succ]); (try simp only [List.set_cons_zero])
                          refine wpAnyH_ready (rs := [5]) (by kernel_rfl) (by simp) ?_
                          refine AllReadyH.cons (o := { dst := some 71, op := Op.call { callee := Callee.value (Operand.func 17), args := #[Operand.tmp 70], argTypes := #[30] }, type := 48, pos := "law.go:63", after := #[{ on := 4, ground := Ground.data }, { on := 3, ground := Ground.chain }, { on := 3, ground := Ground.guard }], guard := some (3, false) }) rfl (fun K hK => ?_) AllReadyH.nil
                          refine wantCall1 ?_ 17 (.tmp 70) #[30] ?_ (.agg #[.int .i64 xf7, .int .i64 xt7, .slice a5 xL7.length c5]) ?_ ?_ ((enters_of Try.func17 (by kernel_rfl) rfl) _ _) ?_
                          · rfl
                          · rfl
                          · rfl
                          · rfl
                          refine (HOf8.out _ ((Old.refl w8).drew)).mono ?_
                          rintro o x285 ⟨rfl, b285⟩
                          refine ⟨_, rfl, ?_⟩
                          have U285 := ((Old.refl w8).drew).trans b285
                          refine hK.out _ _ (T7.old U285 HS8.out) (fun _ => ?_)
                          clear hK K
                          (try simp only [Act.put]); (try simp only [List.setIfInBounds_toArray]); (try simp only [List.set_cons_succ]); (try simp only [List.set_cons_zero])
                          refine wpAnyH_ready (rs := [7]) (by kernel_rfl) (by simp) ?_
                          refine AllReadyH.cons (o := { dst := some 73, op := Op.call { callee := Callee.value (Operand.func 18), args := #[Operand.tmp 71, Operand.tmp 72], argTypes := #[48, 48] }, type := 4, pos := "law.go:63", after := #[{ on := 5, ground := Ground.data }, { on := 6, ground := Ground.data }, { on := 5, ground := Ground.chain }, { on := 3, ground := Ground.guard }], guard := some (3, false) }) rfl (fun K hK => ?_) AllReadyH.nil
                          refine wantCall2 ?_ 18 (.tmp 71) (.tmp 72) #[48, 48] ?_ (.agg #[.int .i64 xf7, .int .i64 xt7, .slice a5 xL7.length c5]) (.agg #[.int .i64 xf7, .int .i64 xt7, .slice xa7 xL7.length xc7]) ?_ ?_ ?_ ((enters_of Try.func18 (by kernel_rfl) rfl) _ _) ?_
                          · rfl
                          · rfl
                          · rfl
                          · rfl
                          · rfl
                          refine (HSm8.out _ U285).mono ?_
                          rintro o x286 ⟨rfl, b286⟩
                          refine ⟨_, rfl, ?_⟩
                          have U286 := U285.trans b286
                          refine hK.out _ _ (T7.old U286 HS8.out) (fun _ => ?_)
                          clear hK K
                          (try simp only [Act.put]); (try simp only [List.setIfInBounds_toArray]); (try simp only [List.set_cons_succ]); (try simp only [List.set_cons_zero])
                          refine wpAnyH_take (i := 8) (oi := { dst := some 74, op := Op.unOp UnOp.not 4 (Operand.tmp 73), type := 4, pos := "law.go:63", after := #[{ on := 7, ground := Ground.data }, { on := 3, ground := Ground.guard }], guard := some (3, false) }) (v := ?vk287) rfl (by kernel_rfl) (by kernel_rfl) (by kernel_rfl) (fun _ _ _ h => h) (Or.inl ⟨by rfl, ?hk287⟩) (T7.old U286 HS8.out) ?rk287
                          case hk287 => (intro wz hSw; (try dsimp only at hSw); go_simp; try with_reducible rfl)
                          (try simp only [Act.put]); (try simp only [List.setIfInBounds_toArray]); (try simp only [List.set_cons_succ]); (try simp only [List.set_cons_zero])
                          refine wpAnyH_take (i := 9) (oi := { dst := some 75, op := Op.pick (Operand.tmp 69) (Operand.const (Value.bool true)) (Operand.tmp 74), type := 4, pos := "law.go:63", after := #[{ on := 3, ground := Ground.data }, { on := 8, ground := Ground.data }], guard := none }) (v := ?vk288) rfl (by kernel_rfl) (by kernel_rfl) (by kernel_rfl) (fun _ _ _ h => h) (Or.inl ⟨by rfl, ?hk288⟩) (T7.old U286 HS8.out) ?rk288
                          case hk288 => (intro wz hSw; (try dsimp only at hSw); go_simp; try with_reducible rfl)
                          (try simp only [Act.put]); (try simp only [List.setIfInBounds_toArray]); (try simp only [List.set_cons_succ]); (try simp only [List.set_cons_zero])
                          refine wpAnyH_take (i := 10) (oi := { dst := some 76, op := Op.move (Operand.tmp 75), type := 4, pos := "law.go:63", after := #[{ on := 9, ground := Ground.data }, { on := 7, ground := Ground.chain }], guard := none }) (v := ?vk289) rfl (by kernel_rfl) (by kernel_rfl) (by kernel_rfl) (fun _ _ _ h => h) (Or.inl ⟨by rfl, ?hk289⟩) (T7.old U286 HS8.out) ?rk289
                          case hk289 => (intro wz hSw; (try dsimp only at hSw); go_simp; try with_reducible rfl)
                          (try simp only [Act.put]); (try simp only [List.setIfInBounds_toArray]); (try simp only [List.set_cons_succ]); (try simp only [List.set_cons_zero])
                          refine wpAnyH_take (i := 11) (oi := { dst := some 77, op := Op.move (Operand.tmp 5), type := 23, pos := "law.go:63", after := #[{ on := 10, ground := Ground.guard }], guard := some (10, false) }) (v := ?vk290) rfl (by kernel_rfl) (by kernel_rfl) (by kernel_rfl) (fun _ _ _ h => h) (Or.inl ⟨by rfl, ?hk290⟩) (T7.old U286 HS8.out) ?rk290
                          case hk290 => (intro wz hSw; (try dsimp only at hSw); go_simp; try with_reducible rfl)
                          (try simp only [Act.put]); (try simp only [List.setIfInBounds_toArray]); (try simp only [List.set_cons_succ]); (try simp only [List.set_cons_zero])
                          refine wpAnyH_take (i := 13) (oi := { dst := some 79, op := Op.fieldAddr 46 (Operand.tmp 6) 1, type := 0, pos := "law.go:63", after := #[{ on := 10, ground := Ground.guard }], guard := some (10, false) }) (v := ?vk291) rfl (by kernel_rfl) (by kernel_rfl) (by kernel_rfl) (fun _ _ _ h => h) (Or.inl ⟨by rfl, ?hk291⟩) (T7.old U286 HS8.out) ?rk291
                          case hk291 => (intro wz hSw; (try dsimp only at hSw); go_simp; try with_reducible rfl)
                          (try simp only [Act.put]); (try simp only [List.setIfInBounds_toArray]); (try simp only [List.set_cons_succ]); (try simp only [List.set_cons_zero])
                          refine wpAnyH_take (i := 14) (oi := { dst := some 80, op := Op.load 44 (Operand.tmp 79), type := 44, pos := "law.go:63", after := #[{ on := 13, ground := Ground.data }, { on := 10, ground := Ground.guard }], guard := some (10, false) }) (v := ?vk292) rfl (by kernel_rfl) (by kernel_rfl) (by kernel_rfl) (fun _ _ _ h => h) (Or.inl ⟨by rfl, ?hk292⟩) (T7.old U286 HS8.out) ?rk292
                          case hk292 => (intro wz hSw; (try dsimp only at hSw); go_simp; try with_reducible rfl)
                          (try simp only [Act.put]); (try simp only [List.setIfInBounds_toArray]); (try simp only [List.set_cons_succ]); (try simp only [List.set_cons_zero])
                          refine wpAnyH_take (i := 15) (oi := { dst := some 81, op := Op.call { callee := Callee.builtin Builtin.len, args := #[Operand.tmp 80], argTypes := #[44] }, type := 3, pos := "law.go:63", after := #[{ on := 14, ground := Ground.data }, { on := 10, ground := Ground.guard }], guard := some (10, false) }) (v := ?vk293) rfl (by kernel_rfl) (by kernel_rfl) (by kernel_rfl) (fun _ _ _ h => h) (Or.inl ⟨by rfl, ?hk293⟩) (T7.old U286 HS8.out) ?rk293
                          case hk293 => (intro wz hSw; (try dsimp only at hSw); go_simp; try with_reducible rfl)
                          (try simp only [Act.put]); (try simp only [List.setIfInBounds_toArray]); (try simp only [List.set_cons_succ]); (try simp only [List.set_cons_zero])
                          refine wpAnyH_ready (rs := [12]) (by kernel_rfl) (by simp) ?_
                          refine AllReadyH.cons (o := { dst := some 78, op := Op.call { callee := Callee.value (Operand.func 11), args := #[Operand.tmp 77], argTypes := #[23] }, type := 3, pos := "law.go:63", after := #[{ on := 11, ground := Ground.data }, { on := 10, ground := Ground.chain }, { on := 10, ground := Ground.guard }], guard := some (10, false) }) rfl (fun K hK => ?_) AllReadyH.nil
                          refine wantCall1 ?_ 11 (.tmp 77) #[23] ?_ (.pointer (some ⟨nb, 0, none⟩)) ?_ ?_ ((enters_of Try.func11 (by kernel_rfl) rfl) _ _) ?_
                          · rfl
                          · rfl
                          · rfl
                          · rfl
                          refine (HLn8.out _ U286).mono ?_
                          rintro o x294 ⟨rfl, b294⟩
                          refine ⟨_, rfl, ?_⟩
                          have U294 := U286.trans b294
                          refine hK.out _ _ (T7.old U294 HS8.out) (fun _ => ?_)
                          clear hK K
                          (try simp only [Act.put]); (try simp only [List.setIfInBounds_toArray]); (try simp only [List.set_cons_succ]); (try simp only [List.set_cons_zero])
                          refine wpAnyH_take (i := 16) (oi := { dst := some 82, op := Op.binOp BinOp.neq 3 (Operand.tmp 78) (Operand.tmp 81) 3, type := 4, pos := "law.go:63", after := #[{ on := 12, ground := Ground.data }, { on := 15, ground := Ground.data }, { on := 10, ground := Ground.guard }], guard := some (10, false) }) (v := ?vk295) rfl (by kernel_rfl) (by kernel_rfl) (by kernel_rfl) (fun _ _ _ h => h) (Or.inl ⟨by rfl, ?hk295⟩) (T7.old U294 HS8.out) ?rk295
                          case hk295 => (intro wz hSw; (try dsimp only at hSw); go_simp; try with_reducible rfl)
                          (try simp only [Act.put]); (try simp only [List.setIfInBounds_toArray]); (try simp only [List.set_cons_succ]); (try simp only [List.set_cons_zero])
                          refine wpAnyH_take (i := 17) (oi := { dst := some 83, op := Op.pick (Operand.tmp 76) (Operand.const (Value.bool true)) (Operand.tmp 82), type := 4, pos := "law.go:63", after := #[{ on := 10, ground := Ground.data }, { on := 16, ground := Ground.data }], guard := none }) (v := ?vk296) rfl (by kernel_rfl) (by kernel_rfl) (by kernel_rfl) (fun _ _ _ h => h) (Or.inl ⟨by rfl, ?hk296⟩) (T7.old U294 HS8.out) ?rk296
                          case hk296 => (intro wz hSw; (try dsimp only at hSw); go_simp; try with_reducible rfl)
                          (try simp only [Act.put]); (try simp only [List.setIfInBounds_toArray]); (try simp only [List.set_cons_succ]); (try simp only [List.set_cons_zero])
                          refine wpAnyH_done (by kernel_rfl) ?_ _
                          refine NoPanic.normal ?_
                          have UY := hid U294
                          go_wp2
                          go_roundw
                          case rel => exact ⟨i + 1, a7, c7, Z, P5, hlt, by go_num, M8.out.old UY.out⟩
                          case measure => simp [intOf]; omega
              · skip
                refine stepAllocN ?_ ?_ ?_
                · rfl
                · rfl
                intro m51 y51 hm51 hy51
                have nn51 : y51.heap[m51]? = some (.cells #[.int .i64 0, .slice none 0 0] 46 (0, 0)) := by rw [hy51, hm51]; exact alloc_at _ _
                have b51 : Old (y42) y51 := by rw [hy51]; exact (Old.refl _).alloc _
                have Z51 : w6.heap.size ≤ m51 := by rw [hm51]; exact (U42).size
                clear hm51 hy51
                have U51 := (U42).trans b51
                have n12_51 := (b51).block nn42
                refine hK.out _ _ (PS.old U51 HPS.out) (fun _ => ?_)
                clear hK K
                (try simp only [Act.put]); (try simp only [List.setIfInBounds_toArray]); (try simp only [List.set_cons_succ]); (try simp only [List.set_cons_zero])
                refine wpAnyH_ready (rs := [11]) (by kernel_rfl) (by simp) ?_
                refine AllReadyH.cons (o := { dst := some 61, op := Op.call { callee := Callee.value (Operand.func 16), args := #[Operand.tmp 50, Operand.tmp 60], argTypes := #[46, 53] }, type := 49, pos := "law.go:61", after := #[{ on := 0, ground := Ground.data }, { on := 10, ground := Ground.data }, { on := 9, ground := Ground.chain }], guard := none }) rfl (fun K hK => ?_) AllReadyH.nil
                · skip
                  refine wantCall2 ?_ 16 (.tmp 50) (.tmp 60) #[46, 53] ?_ (.agg #[.int .i64 (most : Nat), .slice a Y.length cp]) (.agg #[.int .i64 ok, .int .i64 oi, .int .i64 om, .int .i64 of, .int .i64 ot, .slice pB oL.length cB]) ?_ ?_ ?_ ((enters_of Try.func16 (by kernel_rfl) rfl) _ _) ?_
                  · rfl
                  · rfl
                  · rfl
                  · rfl
                  · rfl
                  refine (HDc.out _ U51).mono ?_
                  rintro o x52 ⟨a7, c7, Z, x7, rfl, d52, hZ52, hx52, s52, b52, nw52⟩
                  refine ⟨_, rfl, ?_⟩
                  have HZ7 := hid hZ52
                  have HX7 := hid hx52
                  have Nm11 := hid (show ∀ g, (Value.slice a7 Z.length c7).ownBlock = some g → g ≠ m51 from fun g e => by rcases nw52 g e with h | h; (have := (D6.out.row.lt g h).2; have := Z51; omega); (have := blk_lt nn51; omega))
                  have Nm12 := hid (show ∀ g, (Value.slice a7 Z.length c7).ownBlock = some g → g ≠ m42 from fun g e => by rcases nw52 g e with h | h; (have := (D6.out.row.lt g h).2; have := Z42; omega); (have := blk_lt n12_51; omega))
                  clear hZ52 hx52 nw52
                  have U52 := (U51).trans b52
                  have n11_52 := (b52).block nn51
                  have n12_52 := (b52).block n12_51
                  refine hK.out _ _ (PS.old U52 HPS.out) (fun _ => ?_)
                  clear hK K
                  (try simp only [Act.put]); (try simp only [List.setIfInBounds_toArray]); (try simp only [List.set_cons_succ]); (try simp only [List.set_cons_zero])
                  refine wpAnyH_take (i := 12) (oi := { dst := some 49, op := Op.move (Operand.tmp 61), type := 49, pos := "law.go:61", after := #[{ on := 11, ground := Ground.data }], guard := none }) (v := ?vk53) rfl (by kernel_rfl) (by kernel_rfl) (by kernel_rfl) (fun _ _ _ h => h) (Or.inl ⟨by rfl, ?hk53⟩) (PS.old U52 HPS.out) ?rk53
                  case hk53 => (intro wz hSw; (try dsimp only at hSw); go_simp; try with_reducible rfl)
                  (try simp only [Act.put]); (try simp only [List.setIfInBounds_toArray]); (try simp only [List.set_cons_succ]); (try simp only [List.set_cons_zero])
                  refine wpAnyH_take (i := 13) (oi := { dst := some 62, op := Op.extract (Operand.tmp 49) 0, type := 46, pos := "law.go:61", after := #[{ on := 12, ground := Ground.data }], guard := none }) (v := ?vk54) rfl (by kernel_rfl) (by kernel_rfl) (by kernel_rfl) (fun _ _ _ h => h) (Or.inl ⟨by rfl, ?hk54⟩) (PS.old U52 HPS.out) ?rk54
                  case hk54 => (intro wz hSw; (try dsimp only at hSw); go_simp; try with_reducible rfl)
                  (try simp only [Act.put]); (try simp only [List.setIfInBounds_toArray]); (try simp only [List.set_cons_succ]); (try simp only [List.set_cons_zero])
                  refine wpAnyH_take (i := 14) (oi := { dst := some 63, op := Op.extract (Operand.tmp 49) 1, type := 48, pos := "law.go:61", after := #[{ on := 12, ground := Ground.data }, { on := 18, ground := Ground.gcOnly Departure.lateStores }], guard := none }) (v := ?vk55) rfl (by kernel_rfl) (by kernel_rfl) (by kernel_rfl) (fun _ _ _ h => h) (Or.inl ⟨by rfl, ?hk55⟩) (PS.old U52 HPS.out) ?rk55
                  case hk55 => (intro wz hSw; (try dsimp only at hSw); go_simp; try with_reducible rfl)
                  (try simp only [Act.put]); (try simp only [List.setIfInBounds_toArray]); (try simp only [List.set_cons_succ]); (try simp only [List.set_cons_zero])
                  refine wpAnyH_take (i := 15) (oi := { dst := some 64, op := Op.extract (Operand.tmp 49) 2, type := 4, pos := "law.go:61", after := #[{ on := 12, ground := Ground.data }, { on := 19, ground := Ground.gcOnly Departure.lateStores }], guard := none }) (v := ?vk56) rfl (by kernel_rfl) (by kernel_rfl) (by kernel_rfl) (fun _ _ _ h => h) (Or.inl ⟨by rfl, ?hk56⟩) (PS.old U52 HPS.out) ?rk56
                  case hk56 => (intro wz hSw; (try dsimp only at hSw); go_simp; try with_reducible rfl)
                  (try simp only [Act.put]); (try simp only [List.setIfInBounds_toArray]); (try simp only [List.set_cons_succ]); (try simp only [List.set_cons_zero])
                  refine wpAnyH_ready (rs := [18]) (by kernel_rfl) (by simp) ?_
                  refine AllReadyH.cons (o := { dst := none, op := Op.store 46 (Operand.tmp 11) (Operand.tmp 62), type := 0, pos := "law.go:61", after := #[{ on := 16, ground := Ground.data }, { on := 13, ground := Ground.data }, { on := 11, ground := Ground.chain }, { on := 0, ground := Ground.phase }, { on := 1, ground := Ground.phase }, { on := 2, ground := Ground.phase }, { on := 3, ground := Ground.phase }, { on := 4, ground := Ground.phase }, { on := 5, ground := Ground.phase }, { on := 6, ground := Ground.phase }, { on := 7, ground := Ground.phase }, { on := 8, ground := Ground.phase }, { on := 9, ground := Ground.phase }, { on := 10, ground := Ground.phase }, { on := 11, ground := Ground.phase }, { on := 12, ground := Ground.phase }, { on := 13, ground := Ground.phase }, { on := 14, ground := Ground.textOnly Departure.lateStores }, { on := 15, ground := Ground.textOnly Departure.lateStores }, { on := 16, ground := Ground.phase }, { on := 17, ground := Ground.phase }], guard := none }) rfl (fun K hK => ?_) AllReadyH.nil
                  · skip
                    refine stepStoreN2 ?_ (.tmp 11) (.tmp 62) ?_ m51 (.int .i64 (most : Nat)) (.slice a7 Z.length c7) ?_ ?_ (there2 n11_52) ⟨rfl, rfl⟩ ?_
                    · rfl
                    · rfl
                    · rfl
                    · rfl
                    have ne57 : m42 ≠ m51 := fun e => by have h1 := n11_52; have h2 := n12_52; rw [e, h1] at h2; simp at h2
                    have q57 := set_other (v := .slice a7 Z.length c7) (i := 1) (set_other (v := .int .i64 (most : Nat)) (i := 0) n12_52 ne57) ne57
                    have U57 := ((U52).setCell (p := ⟨m51, 0, none⟩) Z51 (.int .i64 (most : Nat))).setCell (p := ⟨m51, 1, none⟩) Z51 (.slice a7 Z.length c7)
                    refine hK.out _ _ (PS.old U57 HPS.out) (fun _ => ?_)
                    clear hK K
                    (try simp only [Act.put]); (try simp only [List.setIfInBounds_toArray]); (try simp only [List.set_cons_succ]); (try simp only [List.set_cons_zero])
                    refine wpAnyH_ready (rs := [19]) (by kernel_rfl) (by simp) ?_
                    refine AllReadyH.cons (o := { dst := none, op := Op.store 48 (Operand.tmp 12) (Operand.tmp 63), type := 0, pos := "law.go:61", after := #[{ on := 17, ground := Ground.data }, { on := 14, ground := Ground.data }, { on := 18, ground := Ground.chain }, { on := 0, ground := Ground.phase }, { on := 1, ground := Ground.phase }, { on := 2, ground := Ground.phase }, { on := 3, ground := Ground.phase }, { on := 4, ground := Ground.phase }, { on := 5, ground := Ground.phase }, { on := 6, ground := Ground.phase }, { on := 7, ground := Ground.phase }, { on := 8, ground := Ground.phase }, { on := 9, ground := Ground.phase }, { on := 10, ground := Ground.phase }, { on := 11, ground := Ground.phase }, { on := 12, ground := Ground.phase }, { on := 13, ground := Ground.phase }, { on := 14, ground := Ground.phase }, { on := 15, ground := Ground.textOnly Departure.lateStores }, { on := 16, ground := Ground.phase }, { on := 17, ground := Ground.phase }, { on := 18, ground := Ground.phase }], guard := none }) rfl (fun K hK => ?_) AllReadyH.nil
                    · skip
                      refine stepStoreR3 ?_ (.tmp 12) (.tmp 63) ?_ m42 (.int .i64 x7.f) (.int .i64 x7.t) (.slice x7.a x7.L.length x7.c) ?_ ?_ (there3 q57) ⟨rfl, rfl, rfl⟩ ?_
                      · rfl
                      · rfl
                      · rfl
                      · rfl
                      have U58 := (((U57).setCell (p := ⟨m42, 0, none⟩) Z42 (.int .i64 x7.f)).setCell (p := ⟨m42, 1, none⟩) Z42 (.int .i64 x7.t)).setCell (p := ⟨m42, 2, none⟩) Z42 (.slice x7.a x7.L.length x7.c)
                      refine hK.out _ _ (PS.old U58 HPS.out) (fun _ => ?_)
                      clear hK K
                      (try simp only [Act.put]); (try simp only [List.setIfInBounds_toArray]); (try simp only [List.set_cons_succ]); (try simp only [List.set_cons_zero])
                      refine wpAnyH_ready (rs := [20]) (by kernel_rfl) (by simp) ?_
                      refine AllReadyH.cons (o := { dst := some 13, op := Op.assign (Operand.tmp 64), type := 4, pos := "law.go:61", after := #[{ on := 15, ground := Ground.data }, { on := 19, ground := Ground.chain }, { on := 0, ground := Ground.phase }, { on := 1, ground := Ground.phase }, { on := 2, ground := Ground.phase }, { on := 3, ground := Ground.phase }, { on := 4, ground := Ground.phase }, { on := 5, ground := Ground.phase }, { on := 6, ground := Ground.phase }, { on := 7, ground := Ground.phase }, { on := 8, ground := Ground.phase }, { on := 9, ground := Ground.phase }, { on := 10, ground := Ground.phase }, { on := 11, ground := Ground.phase }, { on := 12, ground := Ground.phase }, { on := 13, ground := Ground.phase }, { on := 14, ground := Ground.phase }, { on := 15, ground := Ground.phase }, { on := 16, ground := Ground.phase }, { on := 17, ground := Ground.phase }, { on := 18, ground := Ground.phase }, { on := 19, ground := Ground.phase }], guard := none }) rfl (fun K hK => ?_) AllReadyH.nil
                      · skip
                        go_simp
                        refine hK.out _ _ (PS.old U58 HPS.out) (fun _ => ?_)
                        clear hK K
                        (try simp only [Act.put]); (try simp only [List.setIfInBounds_toArray]); (try simp only [List.set_cons_succ]); (try simp only [List.set_cons_zero])
                        refine wpAnyH_done (by kernel_rfl) ?_ _
                        refine NoPanic.normal ?_
                        have FF := hid (rfin (p := .int .i64 (most : Nat)) (q := .slice a7 Z.length c7) (x := .int .i64 x7.f) (y := .int .i64 x7.t) (z := .slice x7.a x7.L.length x7.c) n11_52 n12_52)
                        have D7 := hid (show DocAt w (((((x52.setCell ⟨m51, 0, none⟩ (.int .i64 (most : Nat))).setCell ⟨m51, 1, none⟩ (.slice a7 Z.length c7)).setCell ⟨m42, 0, none⟩ (.int .i64 x7.f)).setCell ⟨m42, 1, none⟩ (.int .i64 x7.t)).setCell ⟨m42, 2, none⟩ (.slice x7.a x7.L.length x7.c)) (.slice a7 Z.length c7) Z from DocAt.chg2 (B := 0) d52 FF.out.2.2 n11_52 n12_52 (fun g e => ⟨Nm11.out g e, Nm12.out g e⟩))
                        have S7 := hid (show Sr w (((((x52.setCell ⟨m51, 0, none⟩ (.int .i64 (most : Nat))).setCell ⟨m51, 1, none⟩ (.slice a7 Z.length c7)).setCell ⟨m42, 0, none⟩ (.int .i64 x7.f)).setCell ⟨m42, 1, none⟩ (.int .i64 x7.t)).setCell ⟨m42, 2, none⟩ (.slice x7.a x7.L.length x7.c)) x7.v x7.L from Sr.chg2 s52 FF.out.2.2 n11_52 n12_52)
                        have F11 := hid (show (((((x52.setCell ⟨m51, 0, none⟩ (.int .i64 (most : Nat))).setCell ⟨m51, 1, none⟩ (.slice a7 Z.length c7)).setCell ⟨m42, 0, none⟩ (.int .i64 x7.f)).setCell ⟨m42, 1, none⟩ (.int .i64 x7.t)).setCell ⟨m42, 2, none⟩ (.slice x7.a x7.L.length x7.c)).heap[m51]? = some (.cells #[.int .i64 (most : Nat), .slice a7 Z.length c7] 46 (0, 0)) from FF.out.1)
                        have F12 := hid (show (((((x52.setCell ⟨m51, 0, none⟩ (.int .i64 (most : Nat))).setCell ⟨m51, 1, none⟩ (.slice a7 Z.length c7)).setCell ⟨m42, 0, none⟩ (.int .i64 x7.f)).setCell ⟨m42, 1, none⟩ (.int .i64 x7.t)).setCell ⟨m42, 2, none⟩ (.slice x7.a x7.L.length x7.c)).heap[m42]? = some (.cells #[.int .i64 x7.f, .int .i64 x7.t, .slice x7.a x7.L.length x7.c] 48 (0, 0)) from FF.out.2.1)
                        have UZ := hid (show Old w6 (((((x52.setCell ⟨m51, 0, none⟩ (.int .i64 (most : Nat))).setCell ⟨m51, 1, none⟩ (.slice a7 Z.length c7)).setCell ⟨m42, 0, none⟩ (.int .i64 x7.f)).setCell ⟨m42, 1, none⟩ (.int .i64 x7.t)).setCell ⟨m42, 2, none⟩ (.slice x7.a x7.L.length x7.c)) from U58)
                        clear FF Nm11 Nm12 n11_52 n12_52 q57 d52 s52 U58
                        generalize (((((x52.setCell ⟨m51, 0, none⟩ (.int .i64 (most : Nat))).setCell ⟨m51, 1, none⟩ (.slice a7 Z.length c7)).setCell ⟨m42, 0, none⟩ (.int .i64 x7.f)).setCell ⟨m42, 1, none⟩ (.int .i64 x7.t)).setCell ⟨m42, 2, none⟩ (.slice x7.a x7.L.length x7.c)) = w7 at *
                        generalize m51 = b11 at *
                        generalize m42 = b12 at *
                        have N7 := hid (N6.out.old UZ.out)
                        have HBm7 := hid (UZ.out.block HBm6.out)
                        have HB97 := hid (UZ.out.block HB9.out)
                        have O7 := hid (O6.out.old UZ.out)
                        clear N6 HBm6 HB9 O6 D6 HBo6 HPS HOf HDc UZ
                        obtain ⟨xf7, xt7, xa7, xc7, xL7⟩ := x7
                        obtain ⟨e1, e2, e3⟩ : xf7 = xf ∧ xt7 = xt ∧ xL7 = xL := by
                          have h := HX7.out
                          unfold Lt.p at h
                          simp only [Prod.mk.injEq] at h
                          exact h
                        clear HX7
                        subst e1 e2 e3
                        dsimp only at S7 F12
                        unfold Lt.v at S7
                        dsimp only at S7
                        obtain ⟨r0, r1, -, -⟩ := box2 F11.out
                        obtain ⟨s0, s1, sf0, sf1⟩ := box2 HBm7.out
                        go_upto_region 12 with (fail)
                        have M8 := hid (PA.set (cs := #[]) (most := most) N7.out HBm7.out HNw.out D7.out HZ7.out)
                        have ne12 : b12 ≠ bm := fun e => by have h1 := F12.out; rw [e, HBm7.out] at h1; simp at h1
                        have ne9 : b9 ≠ bm := fun e => by have h1 := HB97.out; rw [e, HBm7.out] at h1; simp at h1
                        have G12 := hid (set_other (v := .slice a7 Z.length c7) (i := 1) (set_other (v := .int .i64 (most : Nat)) (i := 0) F12.out ne12) ne12)
                        have G9 := hid (set_other (v := .slice a7 Z.length c7) (i := 1) (set_other (v := .int .i64 (most : Nat)) (i := 0) HB97.out ne9) ne9)
                        have O8 := hid (O7.out.chg (chg2 w7 bm (.int .i64 (most : Nat)) (.slice a7 Z.length c7)) (O7.out.offT HBm7.out (by decide)))
                        have S8 := hid (S7.out.chgT (chg2 w7 bm (.int .i64 (most : Nat)) (.slice a7 Z.length c7)) HBm7.out)
                        clear r0 r1 s0 s1 sf0 sf1 F11 F12 HBm7 HB97 O7 N7 S7 D7 ne12 ne9
                        generalize (w7.setCell ⟨bm, 0, none⟩ (.int .i64 (most : Nat))).setCell ⟨bm, 1, none⟩ (.slice a7 Z.length c7) = w8 at *
                        have HS8 := hid (show (fun wz => (wz.cell? ⟨b9, 0, none⟩ = some (.int .i64 xf7) ∧ wz.cell? ⟨b9, 1, none⟩ = some (.int .i64 xt7) ∧ wz.cell? ⟨b9, 2, none⟩ = some (.slice a5 xL7.length c5)) ∧ (wz.cell? ⟨b12, 0, none⟩ = some (.int .i64 xf7) ∧ wz.cell? ⟨b12, 1, none⟩ = some (.int .i64 xt7) ∧ wz.cell? ⟨b12, 2, none⟩ = some (.slice xa7 xL7.length xc7)) ∧ wz.cell? ⟨bm, 1, none⟩ = some (.slice a7 Z.length c7)) w8 from ⟨⟨(box3 G9.out).1, (box3 G9.out).2.1, (box3 G9.out).2.2.1⟩, ⟨(box3 G12.out).1, (box3 G12.out).2.1, (box3 G12.out).2.2.1⟩, (box2 M8.out.box).2.1⟩)
                        dsimp only at HS8
                        have HOf8 := hid (fun (W : World) (u : Old w8 W) => rof_any xf7 xt7 a5 xL7.length c5 W)
                        have HSm8 := hid (fun (W : World) (u : Old w8 W) => rsame_any xf7 xt7 a5 xa7 c5 xc7 xL7 W ((O8.out.old u).row) ((S8.out.old u).row (M8.out.net.base.trans u)))
                        have HLn8 := hid (show ∀ W, Old w8 W → Calls Try.prog 11 #[.pointer (some ⟨nb, 0, none⟩)] W fun e w' => e = .returned (.int .i64 (Z.length : Nat)) ∧ Old W w' from fun W u => (lenN w W nb most P5 [] (M8.out.net.old u)).mono fun e w' q => ⟨by rw [q.1, ← HZ7.out, List.length_map], by rw [q.2]; exact Old.refl _⟩)
                        clear G12 G9 O8 S8
                        cases b5
                        case false =>
                          refine wp_region_noPanic ?_
                          refine wp_region_held_drew (S := fun wz => (wz.cell? ⟨b9, 0, none⟩ = some (.int .i64 xf7) ∧ wz.cell? ⟨b9, 1, none⟩ = some (.int .i64 xt7) ∧ wz.cell? ⟨b9, 2, none⟩ = some (.slice a5 xL7.length c5)) ∧ (wz.cell? ⟨b12, 0, none⟩ = some (.int .i64 xf7) ∧ wz.cell? ⟨b12, 1, none⟩ = some (.int .i64 xt7) ∧ wz.cell? ⟨b12, 2, none⟩ = some (.slice xa7 xL7.length xc7)) ∧ wz.cell? ⟨bm, 1, none⟩ = some (.slice a7 Z.length c7)) (by kernel_rfl) ?_ (fun hHeld => ?_)
                          · exact T7.old ((Old.refl _).drew) HS8.out
                          (try simp only [Act.put]); (try simp only [List.setIfInBounds_toArray]); (try simp only [List.set_cons_succ]); (try simp only [List.set_cons_zero])
                          clear hHeld
                          refine wpAnyH_take (i := 0) (oi := { dst := some 66, op := Op.move (Operand.tmp 10), type := 4, pos := "law.go:63", after := #[], guard := none }) (v := ?vk297) rfl (by kernel_rfl) (by kernel_rfl) (by kernel_rfl) (fun _ _ _ h => h) (Or.inl ⟨by rfl, ?hk297⟩) (T7.old ((Old.refl w8).drew) HS8.out) ?rk297
                          case hk297 => (intro wz hSw; (try dsimp only at hSw); go_simp; try with_reducible rfl)
                          (try simp only [Act.put]); (try simp only [List.setIfInBounds_toArray]); (try simp only [List.set_cons_succ]); (try simp only [List.set_cons_zero])
                          refine wpAnyH_take (i := 1) (oi := { dst := some 67, op := Op.move (Operand.tmp 13), type := 4, pos := "law.go:63", after := #[], guard := none }) (v := ?vk298) rfl (by kernel_rfl) (by kernel_rfl) (by kernel_rfl) (fun _ _ _ h => h) (Or.inl ⟨by rfl, ?hk298⟩) (T7.old ((Old.refl w8).drew) HS8.out) ?rk298
                          case hk298 => (intro wz hSw; (try dsimp only at hSw); go_simp; try with_reducible rfl)
                          (try simp only [Act.put]); (try simp only [List.setIfInBounds_toArray]); (try simp only [List.set_cons_succ]); (try simp only [List.set_cons_zero])
                          refine wpAnyH_take (i := 2) (oi := { dst := some 68, op := Op.binOp BinOp.neq 4 (Operand.tmp 66) (Operand.tmp 67) 4, type := 4, pos := "law.go:63", after := #[{ on := 0, ground := Ground.data }, { on := 1, ground := Ground.data }], guard := none }) (v := ?vk299) rfl (by kernel_rfl) (by kernel_rfl) (by kernel_rfl) (fun _ _ _ h => h) (Or.inl ⟨by rfl, ?hk299⟩) (T7.old ((Old.refl w8).drew) HS8.out) ?rk299
                          case hk299 => (intro wz hSw; (try dsimp only at hSw); go_simp; try with_reducible rfl)
                          (try simp only [Act.put]); (try simp only [List.setIfInBounds_toArray]); (try simp only [List.set_cons_succ]); (try simp only [List.set_cons_zero])
                          refine wpAnyH_take (i := 3) (oi := { dst := some 69, op := Op.move (Operand.tmp 68), type := 4, pos := "law.go:63", after := #[{ on := 2, ground := Ground.data }], guard := none }) (v := ?vk300) rfl (by kernel_rfl) (by kernel_rfl) (by kernel_rfl) (fun _ _ _ h => h) (Or.inl ⟨by rfl, ?hk300⟩) (T7.old ((Old.refl w8).drew) HS8.out) ?rk300
                          case hk300 => (intro wz hSw; (try dsimp only at hSw); go_simp; try with_reducible rfl)
                          (try simp only [Act.put]); (try simp only [List.setIfInBounds_toArray]); (try simp only [List.set_cons_succ]); (try simp only [List.set_cons_zero])
                          refine wpAnyH_take (i := 4) (oi := { dst := some 70, op := Op.load 30 (Operand.tmp 9), type := 30, pos := "law.go:63", after := #[{ on := 3, ground := Ground.guard }], guard := some (3, false) }) (v := ?vk301) rfl (by kernel_rfl) (by kernel_rfl) (by kernel_rfl) (fun _ _ _ h => h) (Or.inl ⟨by rfl, ?hk301⟩) (T7.old ((Old.refl w8).drew) HS8.out) ?rk301
                          case hk301 => (intro wz hSw; (try dsimp only at hSw); go_simp; try with_reducible rfl)
                          (try simp only [Act.put]); (try simp only [List.setIfInBounds_toArray]); (try simp only [List.set_cons_succ]); (try simp only [List.set_cons_zero])
                          refine wpAnyH_take (i := 6) (oi := { dst := some 72, op := Op.load 48 (Operand.tmp 12), type := 48, pos := "law.go:63", after := #[{ on := 3, ground := Ground.guard }], guard := some (3, false) }) (v := ?vk302) rfl (by kernel_rfl) (by kernel_rfl) (by kernel_rfl) (fun _ _ _ h => h) (Or.inl ⟨by rfl, ?hk302⟩) (T7.old ((Old.refl w8).drew) HS8.out) ?rk302
                          case hk302 => (intro wz hSw; (try dsimp only at hSw); go_simp; try with_reducible rfl)
                          (try simp only [Act.put]); (try simp only [List.setIfInBounds_toArray]); (try simp only [List.set_cons_succ]); (try simp only [List.set_cons_zero])
                          refine wpAnyH_ready (rs := [5]) (by kernel_rfl) (by simp) ?_
                          refine AllReadyH.cons (o := { dst := some 71, op := Op.call { callee := Callee.value (Operand.func 17), args := #[Operand.tmp 70], argTypes := #[30] }, type := 48, pos := "law.go:63", after := #[{ on := 4, ground := Ground.data }, { on := 3, ground := Ground.chain }, { on := 3, ground := Ground.guard }], guard := some (3, false) }) rfl (fun K hK => ?_) AllReadyH.nil
                          refine wantCall1 ?_ 17 (.tmp 70) #[30] ?_ (.agg #[.int .i64 xf7, .int .i64 xt7, .slice a5 xL7.length c5]) ?_ ?_ ((enters_of Try.func17 (by kernel_rfl) rfl) _ _) ?_
                          · rfl
                          · rfl
                          · rfl
                          · rfl
                          refine (HOf8.out _ ((Old.refl w8).drew)).mono ?_
                          rintro o x303 ⟨rfl, b303⟩
                          refine ⟨_, rfl, ?_⟩
                          have U303 := ((Old.refl w8).drew).trans b303
                          refine hK.out _ _ (T7.old U303 HS8.out) (fun _ => ?_)
                          clear hK K
                          (try simp only [Act.put]); (try simp only [List.setIfInBounds_toArray]); (try simp only [List.set_cons_succ]); (try simp only [List.set_cons_zero])
                          refine wpAnyH_ready (rs := [7]) (by kernel_rfl) (by simp) ?_
                          refine AllReadyH.cons (o := { dst := some 73, op := Op.call { callee := Callee.value (Operand.func 18), args := #[Operand.tmp 71, Operand.tmp 72], argTypes := #[48, 48] }, type := 4, pos := "law.go:63", after := #[{ on := 5, ground := Ground.data }, { on := 6, ground := Ground.data }, { on := 5, ground := Ground.chain }, { on := 3, ground := Ground.guard }], guard := some (3, false) }) rfl (fun K hK => ?_) AllReadyH.nil
                          refine wantCall2 ?_ 18 (.tmp 71) (.tmp 72) #[48, 48] ?_ (.agg #[.int .i64 xf7, .int .i64 xt7, .slice a5 xL7.length c5]) (.agg #[.int .i64 xf7, .int .i64 xt7, .slice xa7 xL7.length xc7]) ?_ ?_ ?_ ((enters_of Try.func18 (by kernel_rfl) rfl) _ _) ?_
                          · rfl
                          · rfl
                          · rfl
                          · rfl
                          · rfl
                          refine (HSm8.out _ U303).mono ?_
                          rintro o x304 ⟨rfl, b304⟩
                          refine ⟨_, rfl, ?_⟩
                          have U304 := U303.trans b304
                          refine hK.out _ _ (T7.old U304 HS8.out) (fun _ => ?_)
                          clear hK K
                          (try simp only [Act.put]); (try simp only [List.setIfInBounds_toArray]); (try simp only [List.set_cons_succ]); (try simp only [List.set_cons_zero])
                          refine wpAnyH_take (i := 8) (oi := { dst := some 74, op := Op.unOp UnOp.not 4 (Operand.tmp 73), type := 4, pos := "law.go:63", after := #[{ on := 7, ground := Ground.data }, { on := 3, ground := Ground.guard }], guard := some (3, false) }) (v := ?vk305) rfl (by kernel_rfl) (by kernel_rfl) (by kernel_rfl) (fun _ _ _ h => h) (Or.inl ⟨by rfl, ?hk305⟩) (T7.old U304 HS8.out) ?rk305
                          case hk305 => (intro wz hSw; (try dsimp only at hSw); go_simp; try with_reducible rfl)
                          (try simp only [Act.put]); (try simp only [List.setIfInBounds_toArray]); (try simp only [List.set_cons_succ]); (try simp only [List.set_cons_zero])
                          refine wpAnyH_take (i := 9) (oi := { dst := some 75, op := Op.pick (Operand.tmp 69) (Operand.const (Value.bool true)) (Operand.tmp 74), type := 4, pos := "law.go:63", after := #[{ on := 3, ground := Ground.data }, { on := 8, ground := Ground.data }], guard := none }) (v := ?vk306) rfl (by kernel_rfl) (by kernel_rfl) (by kernel_rfl) (fun _ _ _ h => h) (Or.inl ⟨by rfl, ?hk306⟩) (T7.old U304 HS8.out) ?rk306
                          case hk306 => (intro wz hSw; (try dsimp only at hSw); go_simp; try with_reducible rfl)
                          (try simp only [Act.put]); (try simp only [List.setIfInBounds_toArray]); (try simp only [List.set_cons_succ]); (try simp only [List.set_cons_zero])
                          refine wpAnyH_take (i := 10) (oi := { dst := some 76, op := Op.move (Operand.tmp 75), type := 4, pos := "law.go:63", after := #[{ on := 9, ground := Ground.data }, { on := 7, ground := Ground.chain }], guard := none }) (v := ?vk307) rfl (by kernel_rfl) (by kernel_rfl) (by kernel_rfl) (fun _ _ _ h => h) (Or.inl ⟨by rfl, ?hk307⟩) (T7.old U304 HS8.out) ?rk307
                          case hk307 => (intro wz hSw; (try dsimp only at hSw); go_simp; try with_reducible rfl)
                          (try simp only [Act.put]); (try simp only [List.setIfInBounds_toArray]); (try simp only [List.set_cons_succ]); (try simp only [List.set_cons_zero])
                          refine wpAnyH_take (i := 11) (oi := { dst := some 77, op := Op.move (Operand.tmp 5), type := 23, pos := "law.go:63", after := #[{ on := 10, ground := Ground.guard }], guard := some (10, false) }) (v := ?vk308) rfl (by kernel_rfl) (by kernel_rfl) (by kernel_rfl) (fun _ _ _ h => h) (Or.inl ⟨by rfl, ?hk308⟩) (T7.old U304 HS8.out) ?rk308
                          case hk308 => (intro wz hSw; (try dsimp only at hSw); go_simp; try with_reducible rfl)
                          (try simp only [Act.put]); (try simp only [List.setIfInBounds_toArray]); (try simp only [List.set_cons_succ]); (try simp only [List.set_cons_zero])
                          refine wpAnyH_take (i := 13) (oi := { dst := some 79, op := Op.fieldAddr 46 (Operand.tmp 6) 1, type := 0, pos := "law.go:63", after := #[{ on := 10, ground := Ground.guard }], guard := some (10, false) }) (v := ?vk309) rfl (by kernel_rfl) (by kernel_rfl) (by kernel_rfl) (fun _ _ _ h => h) (Or.inl ⟨by rfl, ?hk309⟩) (T7.old U304 HS8.out) ?rk309
                          case hk309 => (intro wz hSw; (try dsimp only at hSw); go_simp; try with_reducible rfl)
                          (try simp only [Act.put]); (try simp only [List.setIfInBounds_toArray]); (try simp only [List.set_cons_succ]); (try simp only [List.set_cons_zero])
                          refine wpAnyH_take (i := 14) (oi := { dst := some 80, op := Op.load 44 (Operand.tmp 79), type := 44, pos := "law.go:63", after := #[{ on := 13, ground := Ground.data }, { on := 10, ground := Ground.guard }], guard := some (10, false) }) (v := ?vk310) rfl (by kernel_rfl) (by kernel_rfl) (by kernel_rfl) (fun _ _ _ h => h) (Or.inl ⟨by rfl, ?hk310⟩) (T7.old U304 HS8.out) ?rk310
                          case hk310 => (intro wz hSw; (try dsimp only at hSw); go_simp; try with_reducible rfl)
                          (try simp only [Act.put]); (try simp only [List.setIfInBounds_toArray]); (try simp only [List.set_cons_succ]); (try simp only [List.set_cons_zero])
                          refine wpAnyH_take (i := 15) (oi := { dst := some 81, op := Op.call { callee := Callee.builtin Builtin.len, args := #[Operand.tmp 80], argTypes := #[44] }, type := 3, pos := "law.go:63", after := #[{ on := 14, ground := Ground.data }, { on := 10, ground := Ground.guard }], guard := some (10, false) }) (v := ?vk311) rfl (by kernel_rfl) (by kernel_rfl) (by kernel_rfl) (fun _ _ _ h => h) (Or.inl ⟨by rfl, ?hk311⟩) (T7.old U304 HS8.out) ?rk311
                          case hk311 => (intro wz hSw; (try dsimp only at hSw); go_simp; try with_reducible rfl)
                          (try simp only [Act.put]); (try simp only [List.setIfInBounds_toArray]); (try simp only [List.set_cons_succ]); (try simp only [List.set_cons_zero])
                          refine wpAnyH_ready (rs := [12]) (by kernel_rfl) (by simp) ?_
                          refine AllReadyH.cons (o := { dst := some 78, op := Op.call { callee := Callee.value (Operand.func 11), args := #[Operand.tmp 77], argTypes := #[23] }, type := 3, pos := "law.go:63", after := #[{ on := 11, ground := Ground.data }, { on := 10, ground := Ground.chain }, { on := 10, ground := Ground.guard }], guard := some (10, false) }) rfl (fun K hK => ?_) AllReadyH.nil
                          refine wantCall1 ?_ 11 (.tmp 77) #[23] ?_ (.pointer (some ⟨nb, 0, none⟩)) ?_ ?_ ((enters_of Try.func11 (by kernel_rfl) rfl) _ _) ?_
                          · rfl
                          · rfl
                          · rfl
                          · rfl
                          refine (HLn8.out _ U304).mono ?_
                          rintro o x312 ⟨rfl, b312⟩
                          refine ⟨_, rfl, ?_⟩
                          have U312 := U304.trans b312
                          refine hK.out _ _ (T7.old U312 HS8.out) (fun _ => ?_)
                          clear hK K
                          (try simp only [Act.put]); (try simp only [List.setIfInBounds_toArray]); (try simp only [List.set_cons_succ]); (try simp only [List.set_cons_zero])
                          refine wpAnyH_take (i := 16) (oi := { dst := some 82, op := Op.binOp BinOp.neq 3 (Operand.tmp 78) (Operand.tmp 81) 3, type := 4, pos := "law.go:63", after := #[{ on := 12, ground := Ground.data }, { on := 15, ground := Ground.data }, { on := 10, ground := Ground.guard }], guard := some (10, false) }) (v := ?vk313) rfl (by kernel_rfl) (by kernel_rfl) (by kernel_rfl) (fun _ _ _ h => h) (Or.inl ⟨by rfl, ?hk313⟩) (T7.old U312 HS8.out) ?rk313
                          case hk313 => (intro wz hSw; (try dsimp only at hSw); go_simp; try with_reducible rfl)
                          (try simp only [Act.put]); (try simp only [List.setIfInBounds_toArray]); (try simp only [List.set_cons_succ]); (try simp only [List.set_cons_zero])
                          refine wpAnyH_take (i := 17) (oi := { dst := some 83, op := Op.pick (Operand.tmp 76) (Operand.const (Value.bool true)) (Operand.tmp 82), type := 4, pos := "law.go:63", after := #[{ on := 10, ground := Ground.data }, { on := 16, ground := Ground.data }], guard := none }) (v := ?vk314) rfl (by kernel_rfl) (by kernel_rfl) (by kernel_rfl) (fun _ _ _ h => h) (Or.inl ⟨by rfl, ?hk314⟩) (T7.old U312 HS8.out) ?rk314
                          case hk314 => (intro wz hSw; (try dsimp only at hSw); go_simp; try with_reducible rfl)
                          (try simp only [Act.put]); (try simp only [List.setIfInBounds_toArray]); (try simp only [List.set_cons_succ]); (try simp only [List.set_cons_zero])
                          refine wpAnyH_done (by kernel_rfl) ?_ _
                          refine NoPanic.normal ?_
                          have UY := hid U312
                          go_wp2
                          go_roundw
                          case rel => exact ⟨i + 1, a7, c7, Z, P5, hlt, by go_num, M8.out.old UY.out⟩
                          case measure => simp [intOf]; omega
                        case true =>
                          refine wp_region_noPanic ?_
                          refine wp_region_held_drew (S := fun wz => (wz.cell? ⟨b9, 0, none⟩ = some (.int .i64 xf7) ∧ wz.cell? ⟨b9, 1, none⟩ = some (.int .i64 xt7) ∧ wz.cell? ⟨b9, 2, none⟩ = some (.slice a5 xL7.length c5)) ∧ (wz.cell? ⟨b12, 0, none⟩ = some (.int .i64 xf7) ∧ wz.cell? ⟨b12, 1, none⟩ = some (.int .i64 xt7) ∧ wz.cell? ⟨b12, 2, none⟩ = some (.slice xa7 xL7.length xc7)) ∧ wz.cell? ⟨bm, 1, none⟩ = some (.slice a7 Z.length c7)) (by kernel_rfl) ?_ (fun hHeld => ?_)
                          · exact T7.old ((Old.refl _).drew) HS8.out
                          (try simp only [Act.put]); (try simp only [List.setIfInBounds_toArray]); (try simp only [List.set_cons_succ]); (try simp only [List.set_cons_zero])
                          clear hHeld
                          refine wpAnyH_take (i := 0) (oi := { dst := some 66, op := Op.move (Operand.tmp 10), type := 4, pos := "law.go:63", after := #[], guard := none }) (v := ?vk315) rfl (by kernel_rfl) (by kernel_rfl) (by kernel_rfl) (fun _ _ _ h => h) (Or.inl ⟨by rfl, ?hk315⟩) (T7.old ((Old.refl w8).drew) HS8.out) ?rk315
                          case hk315 => (intro wz hSw; (try dsimp only at hSw); go_simp; try with_reducible rfl)
                          (try simp only [Act.put]); (try simp only [List.setIfInBounds_toArray]); (try simp only [List.set_cons_succ]); (try simp only [List.set_cons_zero])
                          refine wpAnyH_take (i := 1) (oi := { dst := some 67, op := Op.move (Operand.tmp 13), type := 4, pos := "law.go:63", after := #[], guard := none }) (v := ?vk316) rfl (by kernel_rfl) (by kernel_rfl) (by kernel_rfl) (fun _ _ _ h => h) (Or.inl ⟨by rfl, ?hk316⟩) (T7.old ((Old.refl w8).drew) HS8.out) ?rk316
                          case hk316 => (intro wz hSw; (try dsimp only at hSw); go_simp; try with_reducible rfl)
                          (try simp only [Act.put]); (try simp only [List.setIfInBounds_toArray]); (try simp only [List.set_cons_succ]); (try simp only [List.set_cons_zero])
                          refine wpAnyH_take (i := 2) (oi := { dst := some 68, op := Op.binOp BinOp.neq 4 (Operand.tmp 66) (Operand.tmp 67) 4, type := 4, pos := "law.go:63", after := #[{ on := 0, ground := Ground.data }, { on := 1, ground := Ground.data }], guard := none }) (v := ?vk317) rfl (by kernel_rfl) (by kernel_rfl) (by kernel_rfl) (fun _ _ _ h => h) (Or.inl ⟨by rfl, ?hk317⟩) (T7.old ((Old.refl w8).drew) HS8.out) ?rk317
                          case hk317 => (intro wz hSw; (try dsimp only at hSw); go_simp; try with_reducible rfl)
                          (try simp only [Act.put]); (try simp only [List.setIfInBounds_toArray]); (try simp only [List.set_cons_succ]); (try simp only [List.set_cons_zero])
                          refine wpAnyH_take (i := 3) (oi := { dst := some 69, op := Op.move (Operand.tmp 68), type := 4, pos := "law.go:63", after := #[{ on := 2, ground := Ground.data }], guard := none }) (v := ?vk318) rfl (by kernel_rfl) (by kernel_rfl) (by kernel_rfl) (fun _ _ _ h => h) (Or.inl ⟨by rfl, ?hk318⟩) (T7.old ((Old.refl w8).drew) HS8.out) ?rk318
                          case hk318 => (intro wz hSw; (try dsimp only at hSw); go_simp; try with_reducible rfl)
                          (try simp only [Act.put]); (try simp only [List.setIfInBounds_toArray]); (try simp only [List.set_cons_succ]); (try simp only [List.set_cons_zero])
                          refine wpAnyH_take (i := 4) (oi := { dst := some 70, op := Op.load 30 (Operand.tmp 9), type := 30, pos := "law.go:63", after := #[{ on := 3, ground := Ground.guard }], guard := some (3, false) }) (v := ?vk319) rfl (by kernel_rfl) (by kernel_rfl) (by kernel_rfl) (fun _ _ _ h => h) (Or.inl ⟨by rfl, ?hk319⟩) (T7.old ((Old.refl w8).drew) HS8.out) ?rk319
                          case hk319 => (intro wz hSw; (try dsimp only at hSw); go_simp; try with_reducible rfl)
                          (try simp only [Act.put]); (try simp only [List.setIfInBounds_toArray]); (try simp only [List.set_cons_succ]); (try simp only [List.set_cons_zero])
                          refine wpAnyH_take (i := 6) (oi := { dst := some 72, op := Op.load 48 (Operand.tmp 12), type := 48, pos := "law.go:63", after := #[{ on := 3, ground := Ground.guard }], guard := some (3, false) }) (v := ?vk320) rfl (by kernel_rfl) (by kernel_rfl) (by kernel_rfl) (fun _ _ _ h => h) (Or.inl ⟨by rfl, ?hk320⟩) (T7.old ((Old.refl w8).drew) HS8.out) ?rk320
                          case hk320 => (intro wz hSw; (try dsimp only at hSw); go_simp; try with_reducible rfl)
                          (try simp only [Act.put]); (try simp only [List.setIfInBounds_toArray]); (try simp only [List.set_cons_succ]); (try simp only [List.set_cons_zero])
                          refine wpAnyH_ready (rs := [5]) (by kernel_rfl) (by simp) ?_
                          refine AllReadyH.cons (o := { dst := some 71, op := Op.call { callee := Callee.value (Operand.func 17), args := #[Operand.tmp 70], argTypes := #[30] }, type := 48, pos := "law.go:63", after := #[{ on := 4, ground := Ground.data }, { on := 3, ground := Ground.chain }, { on := 3, ground := Ground.guard }], guard := some (3, false) }) rfl (fun K hK => ?_) AllReadyH.nil
                          refine wantCall1 ?_ 17 (.tmp 70) #[30] ?_ (.agg #[.int .i64 xf7, .int .i64 xt7, .slice a5 xL7.length c5]) ?_ ?_ ((enters_of Try.func17 (by kernel_rfl) rfl) _ _) ?_
                          · rfl
                          · rfl
                          · rfl
                          · rfl
                          refine (HOf8.out _ ((Old.refl w8).drew)).mono ?_
                          rintro o x321 ⟨rfl, b321⟩
                          refine ⟨_, rfl, ?_⟩
                          have U321 := ((Old.refl w8).drew).trans b321
                          refine hK.out _ _ (T7.old U321 HS8.out) (fun _ => ?_)
                          clear hK K
                          (try simp only [Act.put]); (try simp only [List.setIfInBounds_toArray]); (try simp only [List.set_cons_succ]); (try simp only [List.set_cons_zero])
                          refine wpAnyH_ready (rs := [7]) (by kernel_rfl) (by simp) ?_
                          refine AllReadyH.cons (o := { dst := some 73, op := Op.call { callee := Callee.value (Operand.func 18), args := #[Operand.tmp 71, Operand.tmp 72], argTypes := #[48, 48] }, type := 4, pos := "law.go:63", after := #[{ on := 5, ground := Ground.data }, { on := 6, ground := Ground.data }, { on := 5, ground := Ground.chain }, { on := 3, ground := Ground.guard }], guard := some (3, false) }) rfl (fun K hK => ?_) AllReadyH.nil
                          refine wantCall2 ?_ 18 (.tmp 71) (.tmp 72) #[48, 48] ?_ (.agg #[.int .i64 xf7, .int .i64 xt7, .slice a5 xL7.length c5]) (.agg #[.int .i64 xf7, .int .i64 xt7, .slice xa7 xL7.length xc7]) ?_ ?_ ?_ ((enters_of Try.func18 (by kernel_rfl) rfl) _ _) ?_
                          · rfl
                          · rfl
                          · rfl
                          · rfl
                          · rfl
                          refine (HSm8.out _ U321).mono ?_
                          rintro o x322 ⟨rfl, b322⟩
                          refine ⟨_, rfl, ?_⟩
                          have U322 := U321.trans b322
                          refine hK.out _ _ (T7.old U322 HS8.out) (fun _ => ?_)
                          clear hK K
                          (try simp only [Act.put]); (try simp only [List.setIfInBounds_toArray]); (try simp only [List.set_cons_succ]); (try simp only [List.set_cons_zero])
                          refine wpAnyH_take (i := 8) (oi := { dst := some 74, op := Op.unOp UnOp.not 4 (Operand.tmp 73), type := 4, pos := "law.go:63", after := #[{ on := 7, ground := Ground.data }, { on := 3, ground := Ground.guard }], guard := some (3, false) }) (v := ?vk323) rfl (by kernel_rfl) (by kernel_rfl) (by kernel_rfl) (fun _ _ _ h => h) (Or.inl ⟨by rfl, ?hk323⟩) (T7.old U322 HS8.out) ?rk323
                          case hk323 => (intro wz hSw; (try dsimp only at hSw); go_simp; try with_reducible rfl)
                          (try simp only [Act.put]); (try simp only [List.setIfInBounds_toArray]); (try simp only [List.set_cons_succ]); (try simp only [List.set_cons_zero])
                          refine wpAnyH_take (i := 9) (oi := { dst := some 75, op := Op.pick (Operand.tmp 69) (Operand.const (Value.bool true)) (Operand.tmp 74), type := 4, pos := "law.go:63", after := #[{ on := 3, ground := Ground.data }, { on := 8, ground := Ground.data }], guard := none }) (v := ?vk324) rfl (by kernel_rfl) (by kernel_rfl) (by kernel_rfl) (fun _ _ _ h => h) (Or.inl ⟨by rfl, ?hk324⟩) (T7.old U322 HS8.out) ?rk324
                          case hk324 => (intro wz hSw; (try dsimp only at hSw); go_simp; try with_reducible rfl)
                          (try simp only [Act.put]); (try simp only [List.setIfInBounds_toArray]); (try simp only [List.set_cons_succ]); (try simp only [List.set_cons_zero])
                          refine wpAnyH_take (i := 10) (oi := { dst := some 76, op := Op.move (Operand.tmp 75), type := 4, pos := "law.go:63", after := #[{ on := 9, ground := Ground.data }, { on := 7, ground := Ground.chain }], guard := none }) (v := ?vk325) rfl (by kernel_rfl) (by kernel_rfl) (by kernel_rfl) (fun _ _ _ h => h) (Or.inl ⟨by rfl, ?hk325⟩) (T7.old U322 HS8.out) ?rk325
                          case hk325 => (intro wz hSw; (try dsimp only at hSw); go_simp; try with_reducible rfl)
                          (try simp only [Act.put]); (try simp only [List.setIfInBounds_toArray]); (try simp only [List.set_cons_succ]); (try simp only [List.set_cons_zero])
                          refine wpAnyH_take (i := 11) (oi := { dst := some 77, op := Op.move (Operand.tmp 5), type := 23, pos := "law.go:63", after := #[{ on := 10, ground := Ground.guard }], guard := some (10, false) }) (v := ?vk326) rfl (by kernel_rfl) (by kernel_rfl) (by kernel_rfl) (fun _ _ _ h => h) (Or.inl ⟨by rfl, ?hk326⟩) (T7.old U322 HS8.out) ?rk326
                          case hk326 => (intro wz hSw; (try dsimp only at hSw); go_simp; try with_reducible rfl)
                          (try simp only [Act.put]); (try simp only [List.setIfInBounds_toArray]); (try simp only [List.set_cons_succ]); (try simp only [List.set_cons_zero])
                          refine wpAnyH_take (i := 13) (oi := { dst := some 79, op := Op.fieldAddr 46 (Operand.tmp 6) 1, type := 0, pos := "law.go:63", after := #[{ on := 10, ground := Ground.guard }], guard := some (10, false) }) (v := ?vk327) rfl (by kernel_rfl) (by kernel_rfl) (by kernel_rfl) (fun _ _ _ h => h) (Or.inl ⟨by rfl, ?hk327⟩) (T7.old U322 HS8.out) ?rk327
                          case hk327 => (intro wz hSw; (try dsimp only at hSw); go_simp; try with_reducible rfl)
                          (try simp only [Act.put]); (try simp only [List.setIfInBounds_toArray]); (try simp only [List.set_cons_succ]); (try simp only [List.set_cons_zero])
                          refine wpAnyH_take (i := 14) (oi := { dst := some 80, op := Op.load 44 (Operand.tmp 79), type := 44, pos := "law.go:63", after := #[{ on := 13, ground := Ground.data }, { on := 10, ground := Ground.guard }], guard := some (10, false) }) (v := ?vk328) rfl (by kernel_rfl) (by kernel_rfl) (by kernel_rfl) (fun _ _ _ h => h) (Or.inl ⟨by rfl, ?hk328⟩) (T7.old U322 HS8.out) ?rk328
                          case hk328 => (intro wz hSw; (try dsimp only at hSw); go_simp; try with_reducible rfl)
                          (try simp only [Act.put]); (try simp only [List.setIfInBounds_toArray]); (try simp only [List.set_cons_succ]); (try simp only [List.set_cons_zero])
                          refine wpAnyH_take (i := 15) (oi := { dst := some 81, op := Op.call { callee := Callee.builtin Builtin.len, args := #[Operand.tmp 80], argTypes := #[44] }, type := 3, pos := "law.go:63", after := #[{ on := 14, ground := Ground.data }, { on := 10, ground := Ground.guard }], guard := some (10, false) }) (v := ?vk329) rfl (by kernel_rfl) (by kernel_rfl) (by kernel_rfl) (fun _ _ _ h => h) (Or.inl ⟨by rfl, ?hk329⟩) (T7.old U322 HS8.out) ?rk329
                          case hk329 => (intro wz hSw; (try dsimp only at hSw); go_simp; try with_reducible rfl)
                          (try simp only [Act.put]); (try simp only [List.setIfInBounds_toArray]); (try simp only [List.set_cons_succ]); (try simp only [List.set_cons_zero])
                          refine wpAnyH_ready (rs := [12]) (by kernel_rfl) (by simp) ?_
                          refine AllReadyH.cons (o := { dst := some 78, op := Op.call { callee := Callee.value (Operand.func 11), args := #[Operand.tmp 77], argTypes := #[23] }, type := 3, pos := "law.go:63", after := #[{ on := 11, ground := Ground.data }, { on := 10, ground := Ground.chain }, { on := 10, ground := Ground.guard }], guard := some (10, false) }) rfl (fun K hK => ?_) AllReadyH.nil
                          refine wantCall1 ?_ 11 (.tmp 77) #[23] ?_ (.pointer (some ⟨nb, 0, none⟩)) ?_ ?_ ((enters_of Try.func11 (by kernel_rfl) rfl) _ _) ?_
                          · rfl
                          · rfl
                          · rfl
                          · rfl
                          refine (HLn8.out _ U322).mono ?_
                          rintro o x330 ⟨rfl, b330⟩
                          refine ⟨_, rfl, ?_⟩
                          have U330 := U322.trans b330
                          refine hK.out _ _ (T7.old U330 HS8.out) (fun _ => ?_)
                          clear hK K
                          (try simp only [Act.put]); (try simp only [List.setIfInBounds_toArray]); (try simp only [List.set_cons_succ]); (try simp only [List.set_cons_zero])
                          refine wpAnyH_take (i := 16) (oi := { dst := some 82, op := Op.binOp BinOp.neq 3 (Operand.tmp 78) (Operand.tmp 81) 3, type := 4, pos := "law.go:63", after := #[{ on := 12, ground := Ground.data }, { on := 15, ground := Ground.data }, { on := 10, ground := Ground.guard }], guard := some (10, false) }) (v := ?vk331) rfl (by kernel_rfl) (by kernel_rfl) (by kernel_rfl) (fun _ _ _ h => h) (Or.inl ⟨by rfl, ?hk331⟩) (T7.old U330 HS8.out) ?rk331
                          case hk331 => (intro wz hSw; (try dsimp only at hSw); go_simp; try with_reducible rfl)
                          (try simp only [Act.put]); (try simp only [List.setIfInBounds_toArray]); (try simp only [List.set_cons_succ]); (try simp only [List.set_cons_zero])
                          refine wpAnyH_take (i := 17) (oi := { dst := some 83, op := Op.pick (Operand.tmp 76) (Operand.const (Value.bool true)) (Operand.tmp 82), type := 4, pos := "law.go:63", after := #[{ on := 10, ground := Ground.data }, { on := 16, ground := Ground.data }], guard := none }) (v := ?vk332) rfl (by kernel_rfl) (by kernel_rfl) (by kernel_rfl) (fun _ _ _ h => h) (Or.inl ⟨by rfl, ?hk332⟩) (T7.old U330 HS8.out) ?rk332
                          case hk332 => (intro wz hSw; (try dsimp only at hSw); go_simp; try with_reducible rfl)
                          (try simp only [Act.put]); (try simp only [List.setIfInBounds_toArray]); (try simp only [List.set_cons_succ]); (try simp only [List.set_cons_zero])
                          refine wpAnyH_done (by kernel_rfl) ?_ _
                          refine NoPanic.normal ?_
                          have UY := hid U330
                          go_wp2
                          go_roundw
                          case rel => exact ⟨i + 1, a7, c7, Z, P5, hlt, by go_num, M8.out.old UY.out⟩
                          case measure => simp [intOf]; omega
          · skip
            refine stepAllocN ?_ ?_ ?_
            · rfl
            · rfl
            intro m59 y59 hm59 hy59
            have nn59 : y59.heap[m59]? = some (.cells #[.int .i64 0, .slice none 0 0] 46 (0, 0)) := by rw [hy59, hm59]; exact alloc_at _ _
            have b59 : Old (w6.drew) y59 := by rw [hy59]; exact (Old.refl _).alloc _
            have Z59 : w6.heap.size ≤ m59 := by rw [hm59]; exact (((Old.refl w6).drew)).size
            clear hm59 hy59
            have U59 := (((Old.refl w6).drew)).trans b59
            refine hK.out _ _ (PS.old U59 HPS.out) (fun _ => ?_)
            clear hK K
            (try simp only [Act.put]); (try simp only [List.setIfInBounds_toArray]); (try simp only [List.set_cons_succ]); (try simp only [List.set_cons_zero])
            refine wpAnyH_ready (rs := [9, 17]) (by kernel_rfl) (by simp) ?_
            refine AllReadyH.cons (o := { dst := some 59, op := Op.call { callee := Callee.value (Operand.func 17), args := #[Operand.tmp 58], argTypes := #[30] }, type := 48, pos := "law.go:61", after := #[{ on := 8, ground := Ground.data }], guard := none }) rfl (fun K hK => ?_) (AllReadyH.cons (o := { dst := some 12, op := Op.alloc 48, type := 0, pos := "law.go:61", after := #[], guard := none }) rfl (fun K hK => ?_) AllReadyH.nil)
            · skip
              refine wantCall1 ?_ 17 (.tmp 58) #[30] ?_ (.agg #[.int .i64 of, .int .i64 ot, .slice pB oL.length cB]) ?_ ?_ ((enters_of Try.func17 (by kernel_rfl) rfl) _ _) ?_
              · rfl
              · rfl
              · rfl
              · rfl
              refine (HOf.out _).mono ?_
              rintro o x60 ⟨rfl, b60⟩
              refine ⟨_, rfl, ?_⟩
              have U60 := (U59).trans b60
              have n11_60 := (b60).block nn59
              refine hK.out _ _ (PS.old U60 HPS.out) (fun _ => ?_)
              clear hK K
              (try simp only [Act.put]); (try simp only [List.setIfInBounds_toArray]); (try simp only [List.set_cons_succ]); (try simp only [List.set_cons_zero])
              refine wpAnyH_take (i := 10) (oi := { dst := some 60, op := Op.build 53 #[(0, Operand.tmp 52), (1, Operand.tmp 54), (2, Operand.tmp 56), (3, Operand.tmp 59)], type := 53, pos := "law.go:61", after := #[{ on := 2, ground := Ground.data }, { on := 4, ground := Ground.data }, { on := 6, ground := Ground.data }, { on := 9, ground := Ground.data }], guard := none }) (v := ?vk61) rfl (by kernel_rfl) (by kernel_rfl) (by kernel_rfl) (fun _ _ _ h => h) (Or.inl ⟨by rfl, ?hk61⟩) (PS.old U60 HPS.out) ?rk61
              case hk61 => (intro wz hSw; (try dsimp only at hSw); go_simp; try with_reducible rfl)
              (try simp only [Act.put]); (try simp only [List.setIfInBounds_toArray]); (try simp only [List.set_cons_succ]); (try simp only [List.set_cons_zero])
              refine wpAnyH_ready (rs := [11, 17]) (by kernel_rfl) (by simp) ?_
              refine AllReadyH.cons (o := { dst := some 61, op := Op.call { callee := Callee.value (Operand.func 16), args := #[Operand.tmp 50, Operand.tmp 60], argTypes := #[46, 53] }, type := 49, pos := "law.go:61", after := #[{ on := 0, ground := Ground.data }, { on := 10, ground := Ground.data }, { on := 9, ground := Ground.chain }], guard := none }) rfl (fun K hK => ?_) (AllReadyH.cons (o := { dst := some 12, op := Op.alloc 48, type := 0, pos := "law.go:61", after := #[], guard := none }) rfl (fun K hK => ?_) AllReadyH.nil)
              · skip
                refine wantCall2 ?_ 16 (.tmp 50) (.tmp 60) #[46, 53] ?_ (.agg #[.int .i64 (most : Nat), .slice a Y.length cp]) (.agg #[.int .i64 ok, .int .i64 oi, .int .i64 om, .int .i64 of, .int .i64 ot, .slice pB oL.length cB]) ?_ ?_ ?_ ((enters_of Try.func16 (by kernel_rfl) rfl) _ _) ?_
                · rfl
                · rfl
                · rfl
                · rfl
                · rfl
                refine (HDc.out _ U60).mono ?_
                rintro o x62 ⟨a7, c7, Z, x7, rfl, d62, hZ62, hx62, s62, b62, nw62⟩
                refine ⟨_, rfl, ?_⟩
                have HZ7 := hid hZ62
                have HX7 := hid hx62
                have Nm11 := hid (show ∀ g, (Value.slice a7 Z.length c7).ownBlock = some g → g ≠ m59 from fun g e => by rcases nw62 g e with h | h; (have := (D6.out.row.lt g h).2; have := Z59; omega); (have := blk_lt n11_60; omega))
                clear hZ62 hx62 nw62
                have U62 := (U60).trans b62
                have n11_62 := (b62).block n11_60
                refine hK.out _ _ (PS.old U62 HPS.out) (fun _ => ?_)
                clear hK K
                (try simp only [Act.put]); (try simp only [List.setIfInBounds_toArray]); (try simp only [List.set_cons_succ]); (try simp only [List.set_cons_zero])
                refine wpAnyH_take (i := 12) (oi := { dst := some 49, op := Op.move (Operand.tmp 61), type := 49, pos := "law.go:61", after := #[{ on := 11, ground := Ground.data }], guard := none }) (v := ?vk63) rfl (by kernel_rfl) (by kernel_rfl) (by kernel_rfl) (fun _ _ _ h => h) (Or.inl ⟨by rfl, ?hk63⟩) (PS.old U62 HPS.out) ?rk63
                case hk63 => (intro wz hSw; (try dsimp only at hSw); go_simp; try with_reducible rfl)
                (try simp only [Act.put]); (try simp only [List.setIfInBounds_toArray]); (try simp only [List.set_cons_succ]); (try simp only [List.set_cons_zero])
                refine wpAnyH_take (i := 13) (oi := { dst := some 62, op := Op.extract (Operand.tmp 49) 0, type := 46, pos := "law.go:61", after := #[{ on := 12, ground := Ground.data }], guard := none }) (v := ?vk64) rfl (by kernel_rfl) (by kernel_rfl) (by kernel_rfl) (fun _ _ _ h => h) (Or.inl ⟨by rfl, ?hk64⟩) (PS.old U62 HPS.out) ?rk64
                case hk64 => (intro wz hSw; (try dsimp only at hSw); go_simp; try with_reducible rfl)
                (try simp only [Act.put]); (try simp only [List.setIfInBounds_toArray]); (try simp only [List.set_cons_succ]); (try simp only [List.set_cons_zero])
                refine wpAnyH_take (i := 14) (oi := { dst := some 63, op := Op.extract (Operand.tmp 49) 1, type := 48, pos := "law.go:61", after := #[{ on := 12, ground := Ground.data }, { on := 18, ground := Ground.gcOnly Departure.lateStores }], guard := none }) (v := ?vk65) rfl (by kernel_rfl) (by kernel_rfl) (by kernel_rfl) (fun _ _ _ h => h) (Or.inl ⟨by rfl, ?hk65⟩) (PS.old U62 HPS.out) ?rk65
                case hk65 => (intro wz hSw; (try dsimp only at hSw); go_simp; try with_reducible rfl)
                (try simp only [Act.put]); (try simp only [List.setIfInBounds_toArray]); (try simp only [List.set_cons_succ]); (try simp only [List.set_cons_zero])
                refine wpAnyH_take (i := 15) (oi := { dst := some 64, op := Op.extract (Operand.tmp 49) 2, type := 4, pos := "law.go:61", after := #[{ on := 12, ground := Ground.data }, { on := 19, ground := Ground.gcOnly Departure.lateStores }], guard := none }) (v := ?vk66) rfl (by kernel_rfl) (by kernel_rfl) (by kernel_rfl) (fun _ _ _ h => h) (Or.inl ⟨by rfl, ?hk66⟩) (PS.old U62 HPS.out) ?rk66
                case hk66 => (intro wz hSw; (try dsimp only at hSw); go_simp; try with_reducible rfl)
                (try simp only [Act.put]); (try simp only [List.setIfInBounds_toArray]); (try simp only [List.set_cons_succ]); (try simp only [List.set_cons_zero])
                refine wpAnyH_ready (rs := [17]) (by kernel_rfl) (by simp) ?_
                refine AllReadyH.cons (o := { dst := some 12, op := Op.alloc 48, type := 0, pos := "law.go:61", after := #[], guard := none }) rfl (fun K hK => ?_) AllReadyH.nil
                · skip
                  refine stepAllocR ?_ ?_ ?_
                  · rfl
                  · rfl
                  intro m67 y67 hm67 hy67
                  have nn67 : y67.heap[m67]? = some (.cells #[.int .i64 0, .int .i64 0, .slice none 0 0] 48 (0, 0)) := by rw [hy67, hm67]; exact alloc_at _ _
                  have b67 : Old (x62) y67 := by rw [hy67]; exact (Old.refl _).alloc _
                  have Z67 : w6.heap.size ≤ m67 := by rw [hm67]; exact (U62).size
                  have Nm12 := hid (show ∀ g, (Value.slice a7 Z.length c7).ownBlock = some g → g ≠ m67 from fun g e => by have := ((d62).row.lt g e).2; omega)
                  clear hm67 hy67
                  have U67 := (U62).trans b67
                  have n11_67 := (b67).block n11_62
                  have dz67 := DocAt.old d62 b67
                  have sx67 := Sr.old s62 b67
                  refine hK.out _ _ (PS.old U67 HPS.out) (fun _ => ?_)
                  clear hK K
                  (try simp only [Act.put]); (try simp only [List.setIfInBounds_toArray]); (try simp only [List.set_cons_succ]); (try simp only [List.set_cons_zero])
                  refine wpAnyH_ready (rs := [18]) (by kernel_rfl) (by simp) ?_
                  refine AllReadyH.cons (o := { dst := none, op := Op.store 46 (Operand.tmp 11) (Operand.tmp 62), type := 0, pos := "law.go:61", after := #[{ on := 16, ground := Ground.data }, { on := 13, ground := Ground.data }, { on := 11, ground := Ground.chain }, { on := 0, ground := Ground.phase }, { on := 1, ground := Ground.phase }, { on := 2, ground := Ground.phase }, { on := 3, ground := Ground.phase }, { on := 4, ground := Ground.phase }, { on := 5, ground := Ground.phase }, { on := 6, ground := Ground.phase }, { on := 7, ground := Ground.phase }, { on := 8, ground := Ground.phase }, { on := 9, ground := Ground.phase }, { on := 10, ground := Ground.phase }, { on := 11, ground := Ground.phase }, { on := 12, ground := Ground.phase }, { on := 13, ground := Ground.phase }, { on := 14, ground := Ground.textOnly Departure.lateStores }, { on := 15, ground := Ground.textOnly Departure.lateStores }, { on := 16, ground := Ground.phase }, { on := 17, ground := Ground.phase }], guard := none }) rfl (fun K hK => ?_) AllReadyH.nil
                  · skip
                    refine stepStoreN2 ?_ (.tmp 11) (.tmp 62) ?_ m59 (.int .i64 (most : Nat)) (.slice a7 Z.length c7) ?_ ?_ (there2 n11_67) ⟨rfl, rfl⟩ ?_
                    · rfl
                    · rfl
                    · rfl
                    · rfl
                    have ne68 : m67 ≠ m59 := fun e => by have h1 := n11_67; have h2 := nn67; rw [e, h1] at h2; simp at h2
                    have q68 := set_other (v := .slice a7 Z.length c7) (i := 1) (set_other (v := .int .i64 (most : Nat)) (i := 0) nn67 ne68) ne68
                    have U68 := ((U67).setCell (p := ⟨m59, 0, none⟩) Z59 (.int .i64 (most : Nat))).setCell (p := ⟨m59, 1, none⟩) Z59 (.slice a7 Z.length c7)
                    refine hK.out _ _ (PS.old U68 HPS.out) (fun _ => ?_)
                    clear hK K
                    (try simp only [Act.put]); (try simp only [List.setIfInBounds_toArray]); (try simp only [List.set_cons_succ]); (try simp only [List.set_cons_zero])
                    refine wpAnyH_ready (rs := [19]) (by kernel_rfl) (by simp) ?_
                    refine AllReadyH.cons (o := { dst := none, op := Op.store 48 (Operand.tmp 12) (Operand.tmp 63), type := 0, pos := "law.go:61", after := #[{ on := 17, ground := Ground.data }, { on := 14, ground := Ground.data }, { on := 18, ground := Ground.chain }, { on := 0, ground := Ground.phase }, { on := 1, ground := Ground.phase }, { on := 2, ground := Ground.phase }, { on := 3, ground := Ground.phase }, { on := 4, ground := Ground.phase }, { on := 5, ground := Ground.phase }, { on := 6, ground := Ground.phase }, { on := 7, ground := Ground.phase }, { on := 8, ground := Ground.phase }, { on := 9, ground := Ground.phase }, { on := 10, ground := Ground.phase }, { on := 11, ground := Ground.phase }, { on := 12, ground := Ground.phase }, { on := 13, ground := Ground.phase }, { on := 14, ground := Ground.phase }, { on := 15, ground := Ground.textOnly Departure.lateStores }, { on := 16, ground := Ground.phase }, { on := 17, ground := Ground.phase }, { on := 18, ground := Ground.phase }], guard := none }) rfl (fun K hK => ?_) AllReadyH.nil
                    · skip
                      refine stepStoreR3 ?_ (.tmp 12) (.tmp 63) ?_ m67 (.int .i64 x7.f) (.int .i64 x7.t) (.slice x7.a x7.L.length x7.c) ?_ ?_ (there3 q68) ⟨rfl, rfl, rfl⟩ ?_
                      · rfl
                      · rfl
                      · rfl
                      · rfl
                      have U69 := (((U68).setCell (p := ⟨m67, 0, none⟩) Z67 (.int .i64 x7.f)).setCell (p := ⟨m67, 1, none⟩) Z67 (.int .i64 x7.t)).setCell (p := ⟨m67, 2, none⟩) Z67 (.slice x7.a x7.L.length x7.c)
                      refine hK.out _ _ (PS.old U69 HPS.out) (fun _ => ?_)
                      clear hK K
                      (try simp only [Act.put]); (try simp only [List.setIfInBounds_toArray]); (try simp only [List.set_cons_succ]); (try simp only [List.set_cons_zero])
                      refine wpAnyH_ready (rs := [20]) (by kernel_rfl) (by simp) ?_
                      refine AllReadyH.cons (o := { dst := some 13, op := Op.assign (Operand.tmp 64), type := 4, pos := "law.go:61", after := #[{ on := 15, ground := Ground.data }, { on := 19, ground := Ground.chain }, { on := 0, ground := Ground.phase }, { on := 1, ground := Ground.phase }, { on := 2, ground := Ground.phase }, { on := 3, ground := Ground.phase }, { on := 4, ground := Ground.phase }, { on := 5, ground := Ground.phase }, { on := 6, ground := Ground.phase }, { on := 7, ground := Ground.phase }, { on := 8, ground := Ground.phase }, { on := 9, ground := Ground.phase }, { on := 10, ground := Ground.phase }, { on := 11, ground := Ground.phase }, { on := 12, ground := Ground.phase }, { on := 13, ground := Ground.phase }, { on := 14, ground := Ground.phase }, { on := 15, ground := Ground.phase }, { on := 16, ground := Ground.phase }, { on := 17, ground := Ground.phase }, { on := 18, ground := Ground.phase }, { on := 19, ground := Ground.phase }], guard := none }) rfl (fun K hK => ?_) AllReadyH.nil
                      · skip
                        go_simp
                        refine hK.out _ _ (PS.old U69 HPS.out) (fun _ => ?_)
                        clear hK K
                        (try simp only [Act.put]); (try simp only [List.setIfInBounds_toArray]); (try simp only [List.set_cons_succ]); (try simp only [List.set_cons_zero])
                        refine wpAnyH_done (by kernel_rfl) ?_ _
                        refine NoPanic.normal ?_
                        have FF := hid (rfin (p := .int .i64 (most : Nat)) (q := .slice a7 Z.length c7) (x := .int .i64 x7.f) (y := .int .i64 x7.t) (z := .slice x7.a x7.L.length x7.c) n11_67 nn67)
                        have D7 := hid (show DocAt w (((((y67.setCell ⟨m59, 0, none⟩ (.int .i64 (most : Nat))).setCell ⟨m59, 1, none⟩ (.slice a7 Z.length c7)).setCell ⟨m67, 0, none⟩ (.int .i64 x7.f)).setCell ⟨m67, 1, none⟩ (.int .i64 x7.t)).setCell ⟨m67, 2, none⟩ (.slice x7.a x7.L.length x7.c)) (.slice a7 Z.length c7) Z from DocAt.chg2 (B := 0) dz67 FF.out.2.2 n11_67 nn67 (fun g e => ⟨Nm11.out g e, Nm12.out g e⟩))
                        have S7 := hid (show Sr w (((((y67.setCell ⟨m59, 0, none⟩ (.int .i64 (most : Nat))).setCell ⟨m59, 1, none⟩ (.slice a7 Z.length c7)).setCell ⟨m67, 0, none⟩ (.int .i64 x7.f)).setCell ⟨m67, 1, none⟩ (.int .i64 x7.t)).setCell ⟨m67, 2, none⟩ (.slice x7.a x7.L.length x7.c)) x7.v x7.L from Sr.chg2 sx67 FF.out.2.2 n11_67 nn67)
                        have F11 := hid (show (((((y67.setCell ⟨m59, 0, none⟩ (.int .i64 (most : Nat))).setCell ⟨m59, 1, none⟩ (.slice a7 Z.length c7)).setCell ⟨m67, 0, none⟩ (.int .i64 x7.f)).setCell ⟨m67, 1, none⟩ (.int .i64 x7.t)).setCell ⟨m67, 2, none⟩ (.slice x7.a x7.L.length x7.c)).heap[m59]? = some (.cells #[.int .i64 (most : Nat), .slice a7 Z.length c7] 46 (0, 0)) from FF.out.1)
                        have F12 := hid (show (((((y67.setCell ⟨m59, 0, none⟩ (.int .i64 (most : Nat))).setCell ⟨m59, 1, none⟩ (.slice a7 Z.length c7)).setCell ⟨m67, 0, none⟩ (.int .i64 x7.f)).setCell ⟨m67, 1, none⟩ (.int .i64 x7.t)).setCell ⟨m67, 2, none⟩ (.slice x7.a x7.L.length x7.c)).heap[m67]? = some (.cells #[.int .i64 x7.f, .int .i64 x7.t, .slice x7.a x7.L.length x7.c] 48 (0, 0)) from FF.out.2.1)
                        have UZ := hid (show Old w6 (((((y67.setCell ⟨m59, 0, none⟩ (.int .i64 (most : Nat))).setCell ⟨m59, 1, none⟩ (.slice a7 Z.length c7)).setCell ⟨m67, 0, none⟩ (.int .i64 x7.f)).setCell ⟨m67, 1, none⟩ (.int .i64 x7.t)).setCell ⟨m67, 2, none⟩ (.slice x7.a x7.L.length x7.c)) from U69)
                        clear FF Nm11 Nm12 n11_67 nn67 q68 dz67 sx67 U69
                        generalize (((((y67.setCell ⟨m59, 0, none⟩ (.int .i64 (most : Nat))).setCell ⟨m59, 1, none⟩ (.slice a7 Z.length c7)).setCell ⟨m67, 0, none⟩ (.int .i64 x7.f)).setCell ⟨m67, 1, none⟩ (.int .i64 x7.t)).setCell ⟨m67, 2, none⟩ (.slice x7.a x7.L.length x7.c)) = w7 at *
                        generalize m59 = b11 at *
                        generalize m67 = b12 at *
                        have N7 := hid (N6.out.old UZ.out)
                        have HBm7 := hid (UZ.out.block HBm6.out)
                        have HB97 := hid (UZ.out.block HB9.out)
                        have O7 := hid (O6.out.old UZ.out)
                        clear N6 HBm6 HB9 O6 D6 HBo6 HPS HOf HDc UZ
                        obtain ⟨xf7, xt7, xa7, xc7, xL7⟩ := x7
                        obtain ⟨e1, e2, e3⟩ : xf7 = xf ∧ xt7 = xt ∧ xL7 = xL := by
                          have h := HX7.out
                          unfold Lt.p at h
                          simp only [Prod.mk.injEq] at h
                          exact h
                        clear HX7
                        subst e1 e2 e3
                        dsimp only at S7 F12
                        unfold Lt.v at S7
                        dsimp only at S7
                        obtain ⟨r0, r1, -, -⟩ := box2 F11.out
                        obtain ⟨s0, s1, sf0, sf1⟩ := box2 HBm7.out
                        go_upto_region 12 with (fail)
                        have M8 := hid (PA.set (cs := #[]) (most := most) N7.out HBm7.out HNw.out D7.out HZ7.out)
                        have ne12 : b12 ≠ bm := fun e => by have h1 := F12.out; rw [e, HBm7.out] at h1; simp at h1
                        have ne9 : b9 ≠ bm := fun e => by have h1 := HB97.out; rw [e, HBm7.out] at h1; simp at h1
                        have G12 := hid (set_other (v := .slice a7 Z.length c7) (i := 1) (set_other (v := .int .i64 (most : Nat)) (i := 0) F12.out ne12) ne12)
                        have G9 := hid (set_other (v := .slice a7 Z.length c7) (i := 1) (set_other (v := .int .i64 (most : Nat)) (i := 0) HB97.out ne9) ne9)
                        have O8 := hid (O7.out.chg (chg2 w7 bm (.int .i64 (most : Nat)) (.slice a7 Z.length c7)) (O7.out.offT HBm7.out (by decide)))
                        have S8 := hid (S7.out.chgT (chg2 w7 bm (.int .i64 (most : Nat)) (.slice a7 Z.length c7)) HBm7.out)
                        clear r0 r1 s0 s1 sf0 sf1 F11 F12 HBm7 HB97 O7 N7 S7 D7 ne12 ne9
                        generalize (w7.setCell ⟨bm, 0, none⟩ (.int .i64 (most : Nat))).setCell ⟨bm, 1, none⟩ (.slice a7 Z.length c7) = w8 at *
                        have HS8 := hid (show (fun wz => (wz.cell? ⟨b9, 0, none⟩ = some (.int .i64 xf7) ∧ wz.cell? ⟨b9, 1, none⟩ = some (.int .i64 xt7) ∧ wz.cell? ⟨b9, 2, none⟩ = some (.slice a5 xL7.length c5)) ∧ (wz.cell? ⟨b12, 0, none⟩ = some (.int .i64 xf7) ∧ wz.cell? ⟨b12, 1, none⟩ = some (.int .i64 xt7) ∧ wz.cell? ⟨b12, 2, none⟩ = some (.slice xa7 xL7.length xc7)) ∧ wz.cell? ⟨bm, 1, none⟩ = some (.slice a7 Z.length c7)) w8 from ⟨⟨(box3 G9.out).1, (box3 G9.out).2.1, (box3 G9.out).2.2.1⟩, ⟨(box3 G12.out).1, (box3 G12.out).2.1, (box3 G12.out).2.2.1⟩, (box2 M8.out.box).2.1⟩)
                        dsimp only at HS8
                        have HOf8 := hid (fun (W : World) (u : Old w8 W) => rof_any xf7 xt7 a5 xL7.length c5 W)
                        have HSm8 := hid (fun (W : World) (u : Old w8 W) => rsame_any xf7 xt7 a5 xa7 c5 xc7 xL7 W ((O8.out.old u).row) ((S8.out.old u).row (M8.out.net.base.trans u)))
                        have HLn8 := hid (show ∀ W, Old w8 W → Calls Try.prog 11 #[.pointer (some ⟨nb, 0, none⟩)] W fun e w' => e = .returned (.int .i64 (Z.length : Nat)) ∧ Old W w' from fun W u => (lenN w W nb most P5 [] (M8.out.net.old u)).mono fun e w' q => ⟨by rw [q.1, ← HZ7.out, List.length_map], by rw [q.2]; exact Old.refl _⟩)
                        clear G12 G9 O8 S8
                        cases b5
                        case false =>
                          refine wp_region_noPanic ?_
                          refine wp_region_held_drew (S := fun wz => (wz.cell? ⟨b9, 0, none⟩ = some (.int .i64 xf7) ∧ wz.cell? ⟨b9, 1, none⟩ = some (.int .i64 xt7) ∧ wz.cell? ⟨b9, 2, none⟩ = some (.slice a5 xL7.length c5)) ∧ (wz.cell? ⟨b12, 0, none⟩ = some (.int .i64 xf7) ∧ wz.cell? ⟨b12, 1, none⟩ = some (.int .i64 xt7) ∧ wz.cell? ⟨b12, 2, none⟩ = some (.slice xa7 xL7.length xc7)) ∧ wz.cell? ⟨bm, 1, none⟩ = some (.slice a7 Z.length c7)) (by kernel_rfl) ?_ (fun hHeld => ?_)
                          · exact T7.old ((Old.refl _).drew) HS8.out
                          (try simp only [Act.put]); (try simp only [List.setIfInBounds_toArray]); (try simp only [List.set_cons_succ]); (try simp only [List.set_cons_zero])
                          clear hHeld
                          refine wpAnyH_take (i := 0) (oi := { dst := some 66, op := Op.move (Operand.tmp 10), type := 4, pos := "law.go:63", after := #[], guard := none }) (v := ?vk333) rfl (by kernel_rfl) (by kernel_rfl) (by kernel_rfl) (fun _ _ _ h => h) (Or.inl ⟨by rfl, ?hk333⟩) (T7.old ((Old.refl w8).drew) HS8.out) ?rk333
                          case hk333 => (intro wz hSw; (try dsimp only at hSw); go_simp; try with_reducible rfl)
                          (try simp only [Act.put]); (try simp only [List.setIfInBounds_toArray]); (try simp only [List.set_cons_succ]); (try simp only [List.set_cons_zero])
                          refine wpAnyH_take (i := 1) (oi := { dst := some 67, op := Op.move (Operand.tmp 13), type := 4, pos := "law.go:63", after := #[], guard := none }) (v := ?vk334) rfl (by kernel_rfl) (by kernel_rfl) (by kernel_rfl) (fun _ _ _ h => h) (Or.inl ⟨by rfl, ?hk334⟩) (T7.old ((Old.refl w8).drew) HS8.out) ?rk334
                          case hk334 => (intro wz hSw; (try dsimp only at hSw); go_simp; try with_reducible rfl)
                          (try simp only [Act.put]); (try simp only [List.setIfInBounds_toArray]); (try simp only [List.set_cons_succ]); (try simp only [List.set_cons_zero])
                          refine wpAnyH_take (i := 2) (oi := { dst := some 68, op := Op.binOp BinOp.neq 4 (Operand.tmp 66) (Operand.tmp 67) 4, type := 4, pos := "law.go:63", after := #[{ on := 0, ground := Ground.data }, { on := 1, ground := Ground.data }], guard := none }) (v := ?vk335) rfl (by kernel_rfl) (by kernel_rfl) (by kernel_rfl) (fun _ _ _ h => h) (Or.inl ⟨by rfl, ?hk335⟩) (T7.old ((Old.refl w8).drew) HS8.out) ?rk335
                          case hk335 => (intro wz hSw; (try dsimp only at hSw); go_simp; try with_reducible rfl)
                          (try simp only [Act.put]); (try simp only [List.setIfInBounds_toArray]); (try simp only [List.set_cons_succ]); (try simp only [List.set_cons_zero])
                          refine wpAnyH_take (i := 3) (oi := { dst := some 69, op := Op.move (Operand.tmp 68), type := 4, pos := "law.go:63", after := #[{ on := 2, ground := Ground.data }], guard := none }) (v := ?vk336) rfl (by kernel_rfl) (by kernel_rfl) (by kernel_rfl) (fun _ _ _ h => h) (Or.inl ⟨by rfl, ?hk336⟩) (T7.old ((Old.refl w8).drew) HS8.out) ?rk336
                          case hk336 => (intro wz hSw; (try dsimp only at hSw); go_simp; try with_reducible rfl)
                          (try simp only [Act.put]); (try simp only [List.setIfInBounds_toArray]); (try simp only [List.set_cons_succ]); (try simp only [List.set_cons_zero])
                          refine wpAnyH_take (i := 4) (oi := { dst := some 70, op := Op.load 30 (Operand.tmp 9), type := 30, pos := "law.go:63", after := #[{ on := 3, ground := Ground.guard }], guard := some (3, false) }) (v := ?vk337) rfl (by kernel_rfl) (by kernel_rfl) (by kernel_rfl) (fun _ _ _ h => h) (Or.inl ⟨by rfl, ?hk337⟩) (T7.old ((Old.refl w8).drew) HS8.out) ?rk337
                          case hk337 => (intro wz hSw; (try dsimp only at hSw); go_simp; try with_reducible rfl)
                          (try simp only [Act.put]); (try simp only [List.setIfInBounds_toArray]); (try simp only [List.set_cons_succ]); (try simp only [List.set_cons_zero])
                          refine wpAnyH_take (i := 6) (oi := { dst := some 72, op := Op.load 48 (Operand.tmp 12), type := 48, pos := "law.go:63", after := #[{ on := 3, ground := Ground.guard }], guard := some (3, false) }) (v := ?vk338) rfl (by kernel_rfl) (by kernel_rfl) (by kernel_rfl) (fun _ _ _ h => h) (Or.inl ⟨by rfl, ?hk338⟩) (T7.old ((Old.refl w8).drew) HS8.out) ?rk338
                          case hk338 => (intro wz hSw; (try dsimp only at hSw); go_simp; try with_reducible rfl)
                          (try simp only [Act.put]); (try simp only [List.setIfInBounds_toArray]); (try simp only [List.set_cons_succ]); (try simp only [List.set_cons_zero])
                          refine wpAnyH_ready (rs := [5]) (by kernel_rfl) (by simp) ?_
                          refine AllReadyH.cons (o := { dst := some 71, op := Op.call { callee := Callee.value (Operand.func 17), args := #[Operand.tmp 70], argTypes := #[30] }, type := 48, pos := "law.go:63", after := #[{ on := 4, ground := Ground.data }, { on := 3, ground := Ground.chain }, { on := 3, ground := Ground.guard }], guard := some (3, false) }) rfl (fun K hK => ?_) AllReadyH.nil
                          refine wantCall1 ?_ 17 (.tmp 70) #[30] ?_ (.agg #[.int .i64 xf7, .int .i64 xt7, .slice a5 xL7.length c5]) ?_ ?_ ((enters_of Try.func17 (by kernel_rfl) rfl) _ _) ?_
                          · rfl
                          · rfl
                          · rfl
                          · rfl
                          refine (HOf8.out _ ((Old.refl w8).drew)).mono ?_
                          rintro o x339 ⟨rfl, b339⟩
                          refine ⟨_, rfl, ?_⟩
                          have U339 := ((Old.refl w8).drew).trans b339
                          refine hK.out _ _ (T7.old U339 HS8.out) (fun _ => ?_)
                          clear hK K
                          (try simp only [Act.put]); (try simp only [List.setIfInBounds_toArray]); (try simp only [List.set_cons_succ]); (try simp only [List.set_cons_zero])
                          refine wpAnyH_ready (rs := [7]) (by kernel_rfl) (by simp) ?_
                          refine AllReadyH.cons (o := { dst := some 73, op := Op.call { callee := Callee.value (Operand.func 18), args := #[Operand.tmp 71, Operand.tmp 72], argTypes := #[48, 48] }, type := 4, pos := "law.go:63", after := #[{ on := 5, ground := Ground.data }, { on := 6, ground := Ground.data }, { on := 5, ground := Ground.chain }, { on := 3, ground := Ground.guard }], guard := some (3, false) }) rfl (fun K hK => ?_) AllReadyH.nil
                          refine wantCall2 ?_ 18 (.tmp 71) (.tmp 72) #[48, 48] ?_ (.agg #[.int .i64 xf7, .int .i64 xt7, .slice a5 xL7.length c5]) (.agg #[.int .i64 xf7, .int .i64 xt7, .slice xa7 xL7.length xc7]) ?_ ?_ ?_ ((enters_of Try.func18 (by kernel_rfl) rfl) _ _) ?_
                          · rfl
                          · rfl
                          · rfl
                          · rfl
                          · rfl
                          refine (HSm8.out _ U339).mono ?_
                          rintro o x340 ⟨rfl, b340⟩
                          refine ⟨_, rfl, ?_⟩
                          have U340 := U339.trans b340
                          refine hK.out _ _ (T7.old U340 HS8.out) (fun _ => ?_)
                          clear hK K
                          (try simp only [Act.put]); (try simp only [List.setIfInBounds_toArray]); (try simp only [List.set_cons_succ]); (try simp only [List.set_cons_zero])
                          refine wpAnyH_take (i := 8) (oi := { dst := some 74, op := Op.unOp UnOp.not 4 (Operand.tmp 73), type := 4, pos := "law.go:63", after := #[{ on := 7, ground := Ground.data }, { on := 3, ground := Ground.guard }], guard := some (3, false) }) (v := ?vk341) rfl (by kernel_rfl) (by kernel_rfl) (by kernel_rfl) (fun _ _ _ h => h) (Or.inl ⟨by rfl, ?hk341⟩) (T7.old U340 HS8.out) ?rk341
                          case hk341 => (intro wz hSw; (try dsimp only at hSw); go_simp; try with_reducible rfl)
                          (try simp only [Act.put]); (try simp only [List.setIfInBounds_toArray]); (try simp only [List.set_cons_succ]); (try simp only [List.set_cons_zero])
                          refine wpAnyH_take (i := 9) (oi := { dst := some 75, op := Op.pick (Operand.tmp 69) (Operand.const (Value.bool true)) (Operand.tmp 74), type := 4, pos := "law.go:63", after := #[{ on := 3, ground := Ground.data }, { on := 8, ground := Ground.data }], guard := none }) (v := ?vk342) rfl (by kernel_rfl) (by kernel_rfl) (by kernel_rfl) (fun _ _ _ h => h) (Or.inl ⟨by rfl, ?hk342⟩) (T7.old U340 HS8.out) ?rk342
                          case hk342 => (intro wz hSw; (try dsimp only at hSw); go_simp; try with_reducible rfl)
                          (try simp only [Act.put]); (try simp only [List.setIfInBounds_toArray]); (try simp only [List.set_cons_succ]); (try simp only [List.set_cons_zero])
                          refine wpAnyH_take (i := 10) (oi := { dst := some 76, op := Op.move (Operand.tmp 75), type := 4, pos := "law.go:63", after := #[{ on := 9, ground := Ground.data }, { on := 7, ground := Ground.chain }], guard := none }) (v := ?vk343) rfl (by kernel_rfl) (by kernel_rfl) (by kernel_rfl) (fun _ _ _ h => h) (Or.inl ⟨by rfl, ?hk343⟩) (T7.old U340 HS8.out) ?rk343
                          case hk343 => (intro wz hSw; (try dsimp only at hSw); go_simp; try with_reducible rfl)
                          (try simp only [Act.put]); (try simp only [List.setIfInBounds_toArray]); (try simp only [List.set_cons_succ]); (try simp only [List.set_cons_zero])
                          refine wpAnyH_take (i := 11) (oi := { dst := some 77, op := Op.move (Operand.tmp 5), type := 23, pos := "law.go:63", after := #[{ on := 10, ground := Ground.guard }], guard := some (10, false) }) (v := ?vk344) rfl (by kernel_rfl) (by kernel_rfl) (by kernel_rfl) (fun _ _ _ h => h) (Or.inl ⟨by rfl, ?hk344⟩) (T7.old U340 HS8.out) ?rk344
                          case hk344 => (intro wz hSw; (try dsimp only at hSw); go_simp; try with_reducible rfl)
                          (try simp only [Act.put]); (try simp only [List.setIfInBounds_toArray]); (try simp only [List.set_cons_succ]); (try simp only [List.set_cons_zero])
                          refine wpAnyH_take (i := 13) (oi := { dst := some 79, op := Op.fieldAddr 46 (Operand.tmp 6) 1, type := 0, pos := "law.go:63", after := #[{ on := 10, ground := Ground.guard }], guard := some (10, false) }) (v := ?vk345) rfl (by kernel_rfl) (by kernel_rfl) (by kernel_rfl) (fun _ _ _ h => h) (Or.inl ⟨by rfl, ?hk345⟩) (T7.old U340 HS8.out) ?rk345
                          case hk345 => (intro wz hSw; (try dsimp only at hSw); go_simp; try with_reducible rfl)
                          (try simp only [Act.put]); (try simp only [List.setIfInBounds_toArray]); (try simp only [List.set_cons_succ]); (try simp only [List.set_cons_zero])
                          refine wpAnyH_take (i := 14) (oi := { dst := some 80, op := Op.load 44 (Operand.tmp 79), type := 44, pos := "law.go:63", after := #[{ on := 13, ground := Ground.data }, { on := 10, ground := Ground.guard }], guard := some (10, false) }) (v := ?vk346) rfl (by kernel_rfl) (by kernel_rfl) (by kernel_rfl) (fun _ _ _ h => h) (Or.inl ⟨by rfl, ?hk346⟩) (T7.old U340 HS8.out) ?rk346
                          case hk346 => (intro wz hSw; (try dsimp only at hSw); go_simp; try with_reducible rfl)
                          (try simp only [Act.put]); (try simp only [List.setIfInBounds_toArray]); (try simp only [List.set_cons_succ]); (try simp only [List.set_cons_zero])
                          refine wpAnyH_take (i := 15) (oi := { dst := some 81, op := Op.call { callee := Callee.builtin Builtin.len, args := #[Operand.tmp 80], argTypes := #[44] }, type := 3, pos := "law.go:63", after := #[{ on := 14, ground := Ground.data }, { on := 10, ground := Ground.guard }], guard := some (10, false) }) (v := ?vk347) rfl (by kernel_rfl) (by kernel_rfl) (by kernel_rfl) (fun _ _ _ h => h) (Or.inl ⟨by rfl, ?hk347⟩) (T7.old U340 HS8.out) ?rk347
                          case hk347 => (intro wz hSw; (try dsimp only at hSw); go_simp; try with_reducible rfl)
                          (try simp only [Act.put]); (try simp only [List.setIfInBounds_toArray]); (try simp only [List.set_cons_succ]); (try simp only [List.set_cons_zero])
                          refine wpAnyH_ready (rs := [12]) (by kernel_rfl) (by simp) ?_
                          refine AllReadyH.cons (o := { dst := some 78, op := Op.call { callee := Callee.value (Operand.func 11), args := #[Operand.tmp 77], argTypes := #[23] }, type := 3, pos := "law.go:63", after := #[{ on := 11, ground := Ground.data }, { on := 10, ground := Ground.chain }, { on := 10, ground := Ground.guard }], guard := some (10, false) }) rfl (fun K hK => ?_) AllReadyH.nil
                          refine wantCall1 ?_ 11 (.tmp 77) #[23] ?_ (.pointer (some ⟨nb, 0, none⟩)) ?_ ?_ ((enters_of Try.func11 (by kernel_rfl) rfl) _ _) ?_
                          · rfl
                          · rfl
                          · rfl
                          · rfl
                          refine (HLn8.out _ U340).mono ?_
                          rintro o x348 ⟨rfl, b348⟩
                          refine ⟨_, rfl, ?_⟩
                          have U348 := U340.trans b348
                          refine hK.out _ _ (T7.old U348 HS8.out) (fun _ => ?_)
                          clear hK K
                          (try simp only [Act.put]); (try simp only [List.setIfInBounds_toArray]); (try simp only [List.set_cons_succ]); (try simp only [List.set_cons_zero])
                          refine wpAnyH_take (i := 16) (oi := { dst := some 82, op := Op.binOp BinOp.neq 3 (Operand.tmp 78) (Operand.tmp 81) 3, type := 4, pos := "law.go:63", after := #[{ on := 12, ground := Ground.data }, { on := 15, ground := Ground.data }, { on := 10, ground := Ground.guard }], guard := some (10, false) }) (v := ?vk349) rfl (by kernel_rfl) (by kernel_rfl) (by kernel_rfl) (fun _ _ _ h => h) (Or.inl ⟨by rfl, ?hk349⟩) (T7.old U348 HS8.out) ?rk349
                          case hk349 => (intro wz hSw; (try dsimp only at hSw); go_simp; try with_reducible rfl)
                          (try simp only [Act.put]); (try simp only [List.setIfInBounds_toArray]); (try simp only [List.set_cons_succ]); (try simp only [List.set_cons_zero])
                          refine wpAnyH_take (i := 17) (oi := { dst := some 83, op := Op.pick (Operand.tmp 76) (Operand.const (Value.bool true)) (Operand.tmp 82), type := 4, pos := "law.go:63", after := #[{ on := 10, ground := Ground.data }, { on := 16, ground := Ground.data }], guard := none }) (v := ?vk350) rfl (by kernel_rfl) (by kernel_rfl) (by kernel_rfl) (fun _ _ _ h => h) (Or.inl ⟨by rfl, ?hk350⟩) (T7.old U348 HS8.out) ?rk350
                          case hk350 => (intro wz hSw; (try dsimp only at hSw); go_simp; try with_reducible rfl)
                          (try simp only [Act.put]); (try simp only [List.setIfInBounds_toArray]); (try simp only [List.set_cons_succ]); (try simp only [List.set_cons_zero])
                          refine wpAnyH_done (by kernel_rfl) ?_ _
                          refine NoPanic.normal ?_
                          have UY := hid U348
                          go_wp2
                          go_roundw
                          case rel => exact ⟨i + 1, a7, c7, Z, P5, hlt, by go_num, M8.out.old UY.out⟩
                          case measure => simp [intOf]; omega
                        case true =>
                          refine wp_region_noPanic ?_
                          refine wp_region_held_drew (S := fun wz => (wz.cell? ⟨b9, 0, none⟩ = some (.int .i64 xf7) ∧ wz.cell? ⟨b9, 1, none⟩ = some (.int .i64 xt7) ∧ wz.cell? ⟨b9, 2, none⟩ = some (.slice a5 xL7.length c5)) ∧ (wz.cell? ⟨b12, 0, none⟩ = some (.int .i64 xf7) ∧ wz.cell? ⟨b12, 1, none⟩ = some (.int .i64 xt7) ∧ wz.cell? ⟨b12, 2, none⟩ = some (.slice xa7 xL7.length xc7)) ∧ wz.cell? ⟨bm, 1, none⟩ = some (.slice a7 Z.length c7)) (by kernel_rfl) ?_ (fun hHeld => ?_)
                          · exact T7.old ((Old.refl _).drew) HS8.out
                          (try simp only [Act.put]); (try simp only [List.setIfInBounds_toArray]); (try simp only [List.set_cons_succ]); (try simp only [List.set_cons_zero])
                          clear hHeld
                          refine wpAnyH_take (i := 0) (oi := { dst := some 66, op := Op.move (Operand.tmp 10), type := 4, pos := "law.go:63", after := #[], guard := none }) (v := ?vk351) rfl (by kernel_rfl) (by kernel_rfl) (by kernel_rfl) (fun _ _ _ h => h) (Or.inl ⟨by rfl, ?hk351⟩) (T7.old ((Old.refl w8).drew) HS8.out) ?rk351
                          case hk351 => (intro wz hSw; (try dsimp only at hSw); go_simp; try with_reducible rfl)
                          (try simp only [Act.put]); (try simp only [List.setIfInBounds_toArray]); (try simp only [List.set_cons_succ]); (try simp only [List.set_cons_zero])
                          refine wpAnyH_take (i := 1) (oi := { dst := some 67, op := Op.move (Operand.tmp 13), type := 4, pos := "law.go:63", after := #[], guard := none }) (v := ?vk352) rfl (by kernel_rfl) (by kernel_rfl) (by kernel_rfl) (fun _ _ _ h => h) (Or.inl ⟨by rfl, ?hk352⟩) (T7.old ((Old.refl w8).drew) HS8.out) ?rk352
                          case hk352 => (intro wz hSw; (try dsimp only at hSw); go_simp; try with_reducible rfl)
                          (try simp only [Act.put]); (try simp only [List.setIfInBounds_toArray]); (try simp only [List.set_cons_succ]); (try simp only [List.set_cons_zero])
                          refine wpAnyH_take (i := 2) (oi := { dst := some 68, op := Op.binOp BinOp.neq 4 (Operand.tmp 66) (Operand.tmp 67) 4, type := 4, pos := "law.go:63", after := #[{ on := 0, ground := Ground.data }, { on := 1, ground := Ground.data }], guard := none }) (v := ?vk353) rfl (by kernel_rfl) (by kernel_rfl) (by kernel_rfl) (fun _ _ _ h => h) (Or.inl ⟨by rfl, ?hk353⟩) (T7.old ((Old.refl w8).drew) HS8.out) ?rk353
                          case hk353 => (intro wz hSw; (try dsimp only at hSw); go_simp; try with_reducible rfl)
                          (try simp only [Act.put]); (try simp only [List.setIfInBounds_toArray]); (try simp only [List.set_cons_succ]); (try simp only [List.set_cons_zero])
                          refine wpAnyH_take (i := 3) (oi := { dst := some 69, op := Op.move (Operand.tmp 68), type := 4, pos := "law.go:63", after := #[{ on := 2, ground := Ground.data }], guard := none }) (v := ?vk354) rfl (by kernel_rfl) (by kernel_rfl) (by kernel_rfl) (fun _ _ _ h => h) (Or.inl ⟨by rfl, ?hk354⟩) (T7.old ((Old.refl w8).drew) HS8.out) ?rk354
                          case hk354 => (intro wz hSw; (try dsimp only at hSw); go_simp; try with_reducible rfl)
                          (try simp only [Act.put]); (try simp only [List.setIfInBounds_toArray]); (try simp only [List.set_cons_succ]); (try simp only [List.set_cons_zero])
                          refine wpAnyH_take (i := 4) (oi := { dst := some 70, op := Op.load 30 (Operand.tmp 9), type := 30, pos := "law.go:63", after := #[{ on := 3, ground := Ground.guard }], guard := some (3, false) }) (v := ?vk355) rfl (by kernel_rfl) (by kernel_rfl) (by kernel_rfl) (fun _ _ _ h => h) (Or.inl ⟨by rfl, ?hk355⟩) (T7.old ((Old.refl w8).drew) HS8.out) ?rk355
                          case hk355 => (intro wz hSw; (try dsimp only at hSw); go_simp; try with_reducible rfl)
                          (try simp only [Act.put]); (try simp only [List.setIfInBounds_toArray]); (try simp only [List.set_cons_succ]); (try simp only [List.set_cons_zero])
                          refine wpAnyH_take (i := 6) (oi := { dst := some 72, op := Op.load 48 (Operand.tmp 12), type := 48, pos := "law.go:63", after := #[{ on := 3, ground := Ground.guard }], guard := some (3, false) }) (v := ?vk356) rfl (by kernel_rfl) (by kernel_rfl) (by kernel_rfl) (fun _ _ _ h => h) (Or.inl ⟨by rfl, ?hk356⟩) (T7.old ((Old.refl w8).drew) HS8.out) ?rk356
                          case hk356 => (intro wz hSw; (try dsimp only at hSw); go_simp; try with_reducible rfl)
                          (try simp only [Act.put]); (try simp only [List.setIfInBounds_toArray]); (try simp only [List.set_cons_succ]); (try simp only [List.set_cons_zero])
                          refine wpAnyH_ready (rs := [5]) (by kernel_rfl) (by simp) ?_
                          refine AllReadyH.cons (o := { dst := some 71, op := Op.call { callee := Callee.value (Operand.func 17), args := #[Operand.tmp 70], argTypes := #[30] }, type := 48, pos := "law.go:63", after := #[{ on := 4, ground := Ground.data }, { on := 3, ground := Ground.chain }, { on := 3, ground := Ground.guard }], guard := some (3, false) }) rfl (fun K hK => ?_) AllReadyH.nil
                          refine wantCall1 ?_ 17 (.tmp 70) #[30] ?_ (.agg #[.int .i64 xf7, .int .i64 xt7, .slice a5 xL7.length c5]) ?_ ?_ ((enters_of Try.func17 (by kernel_rfl) rfl) _ _) ?_
                          · rfl
                          · rfl
                          · rfl
                          · rfl
                          refine (HOf8.out _ ((Old.refl w8).drew)).mono ?_
                          rintro o x357 ⟨rfl, b357⟩
                          refine ⟨_, rfl, ?_⟩
                          have U357 := ((Old.refl w8).drew).trans b357
                          refine hK.out _ _ (T7.old U357 HS8.out) (fun _ => ?_)
                          clear hK K
                          (try simp only [Act.put]); (try simp only [List.setIfInBounds_toArray]); (try simp only [List.set_cons_succ]); (try simp only [List.set_cons_zero])
                          refine wpAnyH_ready (rs := [7]) (by kernel_rfl) (by simp) ?_
                          refine AllReadyH.cons (o := { dst := some 73, op := Op.call { callee := Callee.value (Operand.func 18), args := #[Operand.tmp 71, Operand.tmp 72], argTypes := #[48, 48] }, type := 4, pos := "law.go:63", after := #[{ on := 5, ground := Ground.data }, { on := 6, ground := Ground.data }, { on := 5, ground := Ground.chain }, { on := 3, ground := Ground.guard }], guard := some (3, false) }) rfl (fun K hK => ?_) AllReadyH.nil
                          refine wantCall2 ?_ 18 (.tmp 71) (.tmp 72) #[48, 48] ?_ (.agg #[.int .i64 xf7, .int .i64 xt7, .slice a5 xL7.length c5]) (.agg #[.int .i64 xf7, .int .i64 xt7, .slice xa7 xL7.length xc7]) ?_ ?_ ?_ ((enters_of Try.func18 (by kernel_rfl) rfl) _ _) ?_
                          · rfl
                          · rfl
                          · rfl
                          · rfl
                          · rfl
                          refine (HSm8.out _ U357).mono ?_
                          rintro o x358 ⟨rfl, b358⟩
                          refine ⟨_, rfl, ?_⟩
                          have U358 := U357.trans b358
                          refine hK.out _ _ (T7.old U358 HS8.out) (fun _ => ?_)
                          clear hK K
                          (try simp only [Act.put]); (try simp only [List.setIfInBounds_toArray]); (try simp only [List.set_cons_succ]); (try simp only [List.set_cons_zero])
                          refine wpAnyH_take (i := 8) (oi := { dst := some 74, op := Op.unOp UnOp.not 4 (Operand.tmp 73), type := 4, pos := "law.go:63", after := #[{ on := 7, ground := Ground.data }, { on := 3, ground := Ground.guard }], guard := some (3, false) }) (v := ?vk359) rfl (by kernel_rfl) (by kernel_rfl) (by kernel_rfl) (fun _ _ _ h => h) (Or.inl ⟨by rfl, ?hk359⟩) (T7.old U358 HS8.out) ?rk359
                          case hk359 => (intro wz hSw; (try dsimp only at hSw); go_simp; try with_reducible rfl)
                          (try simp only [Act.put]); (try simp only [List.setIfInBounds_toArray]); (try simp only [List.set_cons_succ]); (try simp only [List.set_cons_zero])
                          refine wpAnyH_take (i := 9) (oi := { dst := some 75, op := Op.pick (Operand.tmp 69) (Operand.const (Value.bool true)) (Operand.tmp 74), type := 4, pos := "law.go:63", after := #[{ on := 3, ground := Ground.data }, { on := 8, ground := Ground.data }], guard := none }) (v := ?vk360) rfl (by kernel_rfl) (by kernel_rfl) (by kernel_rfl) (fun _ _ _ h => h) (Or.inl ⟨by rfl, ?hk360⟩) (T7.old U358 HS8.out) ?rk360
                          case hk360 => (intro wz hSw; (try dsimp only at hSw); go_simp; try with_reducible rfl)
                          (try simp only [Act.put]); (try simp only [List.setIfInBounds_toArray]); (try simp only [List.set_cons_succ]); (try simp only [List.set_cons_zero])
                          refine wpAnyH_take (i := 10) (oi := { dst := some 76, op := Op.move (Operand.tmp 75), type := 4, pos := "law.go:63", after := #[{ on := 9, ground := Ground.data }, { on := 7, ground := Ground.chain }], guard := none }) (v := ?vk361) rfl (by kernel_rfl) (by kernel_rfl) (by kernel_rfl) (fun _ _ _ h => h) (Or.inl ⟨by rfl, ?hk361⟩) (T7.old U358 HS8.out) ?rk361
                          case hk361 => (intro wz hSw; (try dsimp only at hSw); go_simp; try with_reducible rfl)
                          (try simp only [Act.put]); (try simp only [List.setIfInBounds_toArray]); (try simp only [List.set_cons_succ]); (try simp only [List.set_cons_zero])
                          refine wpAnyH_take (i := 11) (oi := { dst := some 77, op := Op.move (Operand.tmp 5), type := 23, pos := "law.go:63", after := #[{ on := 10, ground := Ground.guard }], guard := some (10, false) }) (v := ?vk362) rfl (by kernel_rfl) (by kernel_rfl) (by kernel_rfl) (fun _ _ _ h => h) (Or.inl ⟨by rfl, ?hk362⟩) (T7.old U358 HS8.out) ?rk362
                          case hk362 => (intro wz hSw; (try dsimp only at hSw); go_simp; try with_reducible rfl)
                          (try simp only [Act.put]); (try simp only [List.setIfInBounds_toArray]); (try simp only [List.set_cons_succ]); (try simp only [List.set_cons_zero])
                          refine wpAnyH_take (i := 13) (oi := { dst := some 79, op := Op.fieldAddr 46 (Operand.tmp 6) 1, type := 0, pos := "law.go:63", after := #[{ on := 10, ground := Ground.guard }], guard := some (10, false) }) (v := ?vk363) rfl (by kernel_rfl) (by kernel_rfl) (by kernel_rfl) (fun _ _ _ h => h) (Or.inl ⟨by rfl, ?hk363⟩) (T7.old U358 HS8.out) ?rk363
                          case hk363 => (intro wz hSw; (try dsimp only at hSw); go_simp; try with_reducible rfl)
                          (try simp only [Act.put]); (try simp only [List.setIfInBounds_toArray]); (try simp only [List.set_cons_succ]); (try simp only [List.set_cons_zero])
                          refine wpAnyH_take (i := 14) (oi := { dst := some 80, op := Op.load 44 (Operand.tmp 79), type := 44, pos := "law.go:63", after := #[{ on := 13, ground := Ground.data }, { on := 10, ground := Ground.guard }], guard := some (10, false) }) (v := ?vk364) rfl (by kernel_rfl) (by kernel_rfl) (by kernel_rfl) (fun _ _ _ h => h) (Or.inl ⟨by rfl, ?hk364⟩) (T7.old U358 HS8.out) ?rk364
                          case hk364 => (intro wz hSw; (try dsimp only at hSw); go_simp; try with_reducible rfl)
                          (try simp only [Act.put]); (try simp only [List.setIfInBounds_toArray]); (try simp only [List.set_cons_succ]); (try simp only [List.set_cons_zero])
                          refine wpAnyH_take (i := 15) (oi := { dst := some 81, op := Op.call { callee := Callee.builtin Builtin.len, args := #[Operand.tmp 80], argTypes := #[44] }, type := 3, pos := "law.go:63", after := #[{ on := 14, ground := Ground.data }, { on := 10, ground := Ground.guard }], guard := some (10, false) }) (v := ?vk365) rfl (by kernel_rfl) (by kernel_rfl) (by kernel_rfl) (fun _ _ _ h => h) (Or.inl ⟨by rfl, ?hk365⟩) (T7.old U358 HS8.out) ?rk365
                          case hk365 => (intro wz hSw; (try dsimp only at hSw); go_simp; try with_reducible rfl)
                          (try simp only [Act.put]); (try simp only [List.setIfInBounds_toArray]); (try simp only [List.set_cons_succ]); (try simp only [List.set_cons_zero])
                          refine wpAnyH_ready (rs := [12]) (by kernel_rfl) (by simp) ?_
                          refine AllReadyH.cons (o := { dst := some 78, op := Op.call { callee := Callee.value (Operand.func 11), args := #[Operand.tmp 77], argTypes := #[23] }, type := 3, pos := "law.go:63", after := #[{ on := 11, ground := Ground.data }, { on := 10, ground := Ground.chain }, { on := 10, ground := Ground.guard }], guard := some (10, false) }) rfl (fun K hK => ?_) AllReadyH.nil
                          refine wantCall1 ?_ 11 (.tmp 77) #[23] ?_ (.pointer (some ⟨nb, 0, none⟩)) ?_ ?_ ((enters_of Try.func11 (by kernel_rfl) rfl) _ _) ?_
                          · rfl
                          · rfl
                          · rfl
                          · rfl
                          refine (HLn8.out _ U358).mono ?_
                          rintro o x366 ⟨rfl, b366⟩
                          refine ⟨_, rfl, ?_⟩
                          have U366 := U358.trans b366
                          refine hK.out _ _ (T7.old U366 HS8.out) (fun _ => ?_)
                          clear hK K
                          (try simp only [Act.put]); (try simp only [List.setIfInBounds_toArray]); (try simp only [List.set_cons_succ]); (try simp only [List.set_cons_zero])
                          refine wpAnyH_take (i := 16) (oi := { dst := some 82, op := Op.binOp BinOp.neq 3 (Operand.tmp 78) (Operand.tmp 81) 3, type := 4, pos := "law.go:63", after := #[{ on := 12, ground := Ground.data }, { on := 15, ground := Ground.data }, { on := 10, ground := Ground.guard }], guard := some (10, false) }) (v := ?vk367) rfl (by kernel_rfl) (by kernel_rfl) (by kernel_rfl) (fun _ _ _ h => h) (Or.inl ⟨by rfl, ?hk367⟩) (T7.old U366 HS8.out) ?rk367
                          case hk367 => (intro wz hSw; (try dsimp only at hSw); go_simp; try with_reducible rfl)
                          (try simp only [Act.put]); (try simp only [List.setIfInBounds_toArray]); (try simp only [List.set_cons_succ]); (try simp only [List.set_cons_zero])
                          refine wpAnyH_take (i := 17) (oi := { dst := some 83, op := Op.pick (Operand.tmp 76) (Operand.const (Value.bool true)) (Operand.tmp 82), type := 4, pos := "law.go:63", after := #[{ on := 10, ground := Ground.data }, { on := 16, ground := Ground.data }], guard := none }) (v := ?vk368) rfl (by kernel_rfl) (by kernel_rfl) (by kernel_rfl) (fun _ _ _ h => h) (Or.inl ⟨by rfl, ?hk368⟩) (T7.old U366 HS8.out) ?rk368
                          case hk368 => (intro wz hSw; (try dsimp only at hSw); go_simp; try with_reducible rfl)
                          (try simp only [Act.put]); (try simp only [List.setIfInBounds_toArray]); (try simp only [List.set_cons_succ]); (try simp only [List.set_cons_zero])
                          refine wpAnyH_done (by kernel_rfl) ?_ _
                          refine NoPanic.normal ?_
                          have UY := hid U366
                          go_wp2
                          go_roundw
                          case rel => exact ⟨i + 1, a7, c7, Z, P5, hlt, by go_num, M8.out.old UY.out⟩
                          case measure => simp [intOf]; omega
              · skip
                refine stepAllocR ?_ ?_ ?_
                · rfl
                · rfl
                intro m70 y70 hm70 hy70
                have nn70 : y70.heap[m70]? = some (.cells #[.int .i64 0, .int .i64 0, .slice none 0 0] 48 (0, 0)) := by rw [hy70, hm70]; exact alloc_at _ _
                have b70 : Old (x60) y70 := by rw [hy70]; exact (Old.refl _).alloc _
                have Z70 : w6.heap.size ≤ m70 := by rw [hm70]; exact (U60).size
                clear hm70 hy70
                have U70 := (U60).trans b70
                have n11_70 := (b70).block n11_60
                refine hK.out _ _ (PS.old U70 HPS.out) (fun _ => ?_)
                clear hK K
                (try simp only [Act.put]); (try simp only [List.setIfInBounds_toArray]); (try simp only [List.set_cons_succ]); (try simp only [List.set_cons_zero])
                refine wpAnyH_ready (rs := [11]) (by kernel_rfl) (by simp) ?_
                refine AllReadyH.cons (o := { dst := some 61, op := Op.call { callee := Callee.value (Operand.func 16), args := #[Operand.tmp 50, Operand.tmp 60], argTypes := #[46, 53] }, type := 49, pos := "law.go:61", after := #[{ on := 0, ground := Ground.data }, { on := 10, ground := Ground.data }, { on := 9, ground := Ground.chain }], guard := none }) rfl (fun K hK => ?_) AllReadyH.nil
                · skip
                  refine wantCall2 ?_ 16 (.tmp 50) (.tmp 60) #[46, 53] ?_ (.agg #[.int .i64 (most : Nat), .slice a Y.length cp]) (.agg #[.int .i64 ok, .int .i64 oi, .int .i64 om, .int .i64 of, .int .i64 ot, .slice pB oL.length cB]) ?_ ?_ ?_ ((enters_of Try.func16 (by kernel_rfl) rfl) _ _) ?_
                  · rfl
                  · rfl
                  · rfl
                  · rfl
                  · rfl
                  refine (HDc.out _ U70).mono ?_
                  rintro o x71 ⟨a7, c7, Z, x7, rfl, d71, hZ71, hx71, s71, b71, nw71⟩
                  refine ⟨_, rfl, ?_⟩
                  have HZ7 := hid hZ71
                  have HX7 := hid hx71
                  have Nm11 := hid (show ∀ g, (Value.slice a7 Z.length c7).ownBlock = some g → g ≠ m59 from fun g e => by rcases nw71 g e with h | h; (have := (D6.out.row.lt g h).2; have := Z59; omega); (have := blk_lt n11_70; omega))
                  have Nm12 := hid (show ∀ g, (Value.slice a7 Z.length c7).ownBlock = some g → g ≠ m70 from fun g e => by rcases nw71 g e with h | h; (have := (D6.out.row.lt g h).2; have := Z70; omega); (have := blk_lt nn70; omega))
                  clear hZ71 hx71 nw71
                  have U71 := (U70).trans b71
                  have n11_71 := (b71).block n11_70
                  have n12_71 := (b71).block nn70
                  refine hK.out _ _ (PS.old U71 HPS.out) (fun _ => ?_)
                  clear hK K
                  (try simp only [Act.put]); (try simp only [List.setIfInBounds_toArray]); (try simp only [List.set_cons_succ]); (try simp only [List.set_cons_zero])
                  refine wpAnyH_take (i := 12) (oi := { dst := some 49, op := Op.move (Operand.tmp 61), type := 49, pos := "law.go:61", after := #[{ on := 11, ground := Ground.data }], guard := none }) (v := ?vk72) rfl (by kernel_rfl) (by kernel_rfl) (by kernel_rfl) (fun _ _ _ h => h) (Or.inl ⟨by rfl, ?hk72⟩) (PS.old U71 HPS.out) ?rk72
                  case hk72 => (intro wz hSw; (try dsimp only at hSw); go_simp; try with_reducible rfl)
                  (try simp only [Act.put]); (try simp only [List.setIfInBounds_toArray]); (try simp only [List.set_cons_succ]); (try simp only [List.set_cons_zero])
                  refine wpAnyH_take (i := 13) (oi := { dst := some 62, op := Op.extract (Operand.tmp 49) 0, type := 46, pos := "law.go:61", after := #[{ on := 12, ground := Ground.data }], guard := none }) (v := ?vk73) rfl (by kernel_rfl) (by kernel_rfl) (by kernel_rfl) (fun _ _ _ h => h) (Or.inl ⟨by rfl, ?hk73⟩) (PS.old U71 HPS.out) ?rk73
                  case hk73 => (intro wz hSw; (try dsimp only at hSw); go_simp; try with_reducible rfl)
                  (try simp only [Act.put]); (try simp only [List.setIfInBounds_toArray]); (try simp only [List.set_cons_succ]); (try simp only [List.set_cons_zero])
                  refine wpAnyH_take (i := 14) (oi := { dst := some 63, op := Op.extract (Operand.tmp 49) 1, type := 48, pos := "law.go:61", after := #[{ on := 12, ground := Ground.data }, { on := 18, ground := Ground.gcOnly Departure.lateStores }], guard := none }) (v := ?vk74) rfl (by kernel_rfl) (by kernel_rfl) (by kernel_rfl) (fun _ _ _ h => h) (Or.inl ⟨by rfl, ?hk74⟩) (PS.old U71 HPS.out) ?rk74
                  case hk74 => (intro wz hSw; (try dsimp only at hSw); go_simp; try with_reducible rfl)
                  (try simp only [Act.put]); (try simp only [List.setIfInBounds_toArray]); (try simp only [List.set_cons_succ]); (try simp only [List.set_cons_zero])
                  refine wpAnyH_take (i := 15) (oi := { dst := some 64, op := Op.extract (Operand.tmp 49) 2, type := 4, pos := "law.go:61", after := #[{ on := 12, ground := Ground.data }, { on := 19, ground := Ground.gcOnly Departure.lateStores }], guard := none }) (v := ?vk75) rfl (by kernel_rfl) (by kernel_rfl) (by kernel_rfl) (fun _ _ _ h => h) (Or.inl ⟨by rfl, ?hk75⟩) (PS.old U71 HPS.out) ?rk75
                  case hk75 => (intro wz hSw; (try dsimp only at hSw); go_simp; try with_reducible rfl)
                  (try simp only [Act.put]); (try simp only [List.setIfInBounds_toArray]); (try simp only [List.set_cons_succ]); (try simp only [List.set_cons_zero])
                  refine wpAnyH_ready (rs := [18]) (by kernel_rfl) (by simp) ?_
                  refine AllReadyH.cons (o := { dst := none, op := Op.store 46 (Operand.tmp 11) (Operand.tmp 62), type := 0, pos := "law.go:61", after := #[{ on := 16, ground := Ground.data }, { on := 13, ground := Ground.data }, { on := 11, ground := Ground.chain }, { on := 0, ground := Ground.phase }, { on := 1, ground := Ground.phase }, { on := 2, ground := Ground.phase }, { on := 3, ground := Ground.phase }, { on := 4, ground := Ground.phase }, { on := 5, ground := Ground.phase }, { on := 6, ground := Ground.phase }, { on := 7, ground := Ground.phase }, { on := 8, ground := Ground.phase }, { on := 9, ground := Ground.phase }, { on := 10, ground := Ground.phase }, { on := 11, ground := Ground.phase }, { on := 12, ground := Ground.phase }, { on := 13, ground := Ground.phase }, { on := 14, ground := Ground.textOnly Departure.lateStores }, { on := 15, ground := Ground.textOnly Departure.lateStores }, { on := 16, ground := Ground.phase }, { on := 17, ground := Ground.phase }], guard := none }) rfl (fun K hK => ?_) AllReadyH.nil
                  · skip
                    refine stepStoreN2 ?_ (.tmp 11) (.tmp 62) ?_ m59 (.int .i64 (most : Nat)) (.slice a7 Z.length c7) ?_ ?_ (there2 n11_71) ⟨rfl, rfl⟩ ?_
                    · rfl
                    · rfl
                    · rfl
                    · rfl
                    have ne76 : m70 ≠ m59 := fun e => by have h1 := n11_71; have h2 := n12_71; rw [e, h1] at h2; simp at h2
                    have q76 := set_other (v := .slice a7 Z.length c7) (i := 1) (set_other (v := .int .i64 (most : Nat)) (i := 0) n12_71 ne76) ne76
                    have U76 := ((U71).setCell (p := ⟨m59, 0, none⟩) Z59 (.int .i64 (most : Nat))).setCell (p := ⟨m59, 1, none⟩) Z59 (.slice a7 Z.length c7)
                    refine hK.out _ _ (PS.old U76 HPS.out) (fun _ => ?_)
                    clear hK K
                    (try simp only [Act.put]); (try simp only [List.setIfInBounds_toArray]); (try simp only [List.set_cons_succ]); (try simp only [List.set_cons_zero])
                    refine wpAnyH_ready (rs := [19]) (by kernel_rfl) (by simp) ?_
                    refine AllReadyH.cons (o := { dst := none, op := Op.store 48 (Operand.tmp 12) (Operand.tmp 63), type := 0, pos := "law.go:61", after := #[{ on := 17, ground := Ground.data }, { on := 14, ground := Ground.data }, { on := 18, ground := Ground.chain }, { on := 0, ground := Ground.phase }, { on := 1, ground := Ground.phase }, { on := 2, ground := Ground.phase }, { on := 3, ground := Ground.phase }, { on := 4, ground := Ground.phase }, { on := 5, ground := Ground.phase }, { on := 6, ground := Ground.phase }, { on := 7, ground := Ground.phase }, { on := 8, ground := Ground.phase }, { on := 9, ground := Ground.phase }, { on := 10, ground := Ground.phase }, { on := 11, ground := Ground.phase }, { on := 12, ground := Ground.phase }, { on := 13, ground := Ground.phase }, { on := 14, ground := Ground.phase }, { on := 15, ground := Ground.textOnly Departure.lateStores }, { on := 16, ground := Ground.phase }, { on := 17, ground := Ground.phase }, { on := 18, ground := Ground.phase }], guard := none }) rfl (fun K hK => ?_) AllReadyH.nil
                    · skip
                      refine stepStoreR3 ?_ (.tmp 12) (.tmp 63) ?_ m70 (.int .i64 x7.f) (.int .i64 x7.t) (.slice x7.a x7.L.length x7.c) ?_ ?_ (there3 q76) ⟨rfl, rfl, rfl⟩ ?_
                      · rfl
                      · rfl
                      · rfl
                      · rfl
                      have U77 := (((U76).setCell (p := ⟨m70, 0, none⟩) Z70 (.int .i64 x7.f)).setCell (p := ⟨m70, 1, none⟩) Z70 (.int .i64 x7.t)).setCell (p := ⟨m70, 2, none⟩) Z70 (.slice x7.a x7.L.length x7.c)
                      refine hK.out _ _ (PS.old U77 HPS.out) (fun _ => ?_)
                      clear hK K
                      (try simp only [Act.put]); (try simp only [List.setIfInBounds_toArray]); (try simp only [List.set_cons_succ]); (try simp only [List.set_cons_zero])
                      refine wpAnyH_ready (rs := [20]) (by kernel_rfl) (by simp) ?_
                      refine AllReadyH.cons (o := { dst := some 13, op := Op.assign (Operand.tmp 64), type := 4, pos := "law.go:61", after := #[{ on := 15, ground := Ground.data }, { on := 19, ground := Ground.chain }, { on := 0, ground := Ground.phase }, { on := 1, ground := Ground.phase }, { on := 2, ground := Ground.phase }, { on := 3, ground := Ground.phase }, { on := 4, ground := Ground.phase }, { on := 5, ground := Ground.phase }, { on := 6, ground := Ground.phase }, { on := 7, ground := Ground.phase }, { on := 8, ground := Ground.phase }, { on := 9, ground := Ground.phase }, { on := 10, ground := Ground.phase }, { on := 11, ground := Ground.phase }, { on := 12, ground := Ground.phase }, { on := 13, ground := Ground.phase }, { on := 14, ground := Ground.phase }, { on := 15, ground := Ground.phase }, { on := 16, ground := Ground.phase }, { on := 17, ground := Ground.phase }, { on := 18, ground := Ground.phase }, { on := 19, ground := Ground.phase }], guard := none }) rfl (fun K hK => ?_) AllReadyH.nil
                      · skip
                        go_simp
                        refine hK.out _ _ (PS.old U77 HPS.out) (fun _ => ?_)
                        clear hK K
                        (try simp only [Act.put]); (try simp only [List.setIfInBounds_toArray]); (try simp only [List.set_cons_succ]); (try simp only [List.set_cons_zero])
                        refine wpAnyH_done (by kernel_rfl) ?_ _
                        refine NoPanic.normal ?_
                        have FF := hid (rfin (p := .int .i64 (most : Nat)) (q := .slice a7 Z.length c7) (x := .int .i64 x7.f) (y := .int .i64 x7.t) (z := .slice x7.a x7.L.length x7.c) n11_71 n12_71)
                        have D7 := hid (show DocAt w (((((x71.setCell ⟨m59, 0, none⟩ (.int .i64 (most : Nat))).setCell ⟨m59, 1, none⟩ (.slice a7 Z.length c7)).setCell ⟨m70, 0, none⟩ (.int .i64 x7.f)).setCell ⟨m70, 1, none⟩ (.int .i64 x7.t)).setCell ⟨m70, 2, none⟩ (.slice x7.a x7.L.length x7.c)) (.slice a7 Z.length c7) Z from DocAt.chg2 (B := 0) d71 FF.out.2.2 n11_71 n12_71 (fun g e => ⟨Nm11.out g e, Nm12.out g e⟩))
                        have S7 := hid (show Sr w (((((x71.setCell ⟨m59, 0, none⟩ (.int .i64 (most : Nat))).setCell ⟨m59, 1, none⟩ (.slice a7 Z.length c7)).setCell ⟨m70, 0, none⟩ (.int .i64 x7.f)).setCell ⟨m70, 1, none⟩ (.int .i64 x7.t)).setCell ⟨m70, 2, none⟩ (.slice x7.a x7.L.length x7.c)) x7.v x7.L from Sr.chg2 s71 FF.out.2.2 n11_71 n12_71)
                        have F11 := hid (show (((((x71.setCell ⟨m59, 0, none⟩ (.int .i64 (most : Nat))).setCell ⟨m59, 1, none⟩ (.slice a7 Z.length c7)).setCell ⟨m70, 0, none⟩ (.int .i64 x7.f)).setCell ⟨m70, 1, none⟩ (.int .i64 x7.t)).setCell ⟨m70, 2, none⟩ (.slice x7.a x7.L.length x7.c)).heap[m59]? = some (.cells #[.int .i64 (most : Nat), .slice a7 Z.length c7] 46 (0, 0)) from FF.out.1)
                        have F12 := hid (show (((((x71.setCell ⟨m59, 0, none⟩ (.int .i64 (most : Nat))).setCell ⟨m59, 1, none⟩ (.slice a7 Z.length c7)).setCell ⟨m70, 0, none⟩ (.int .i64 x7.f)).setCell ⟨m70, 1, none⟩ (.int .i64 x7.t)).setCell ⟨m70, 2, none⟩ (.slice x7.a x7.L.length x7.c)).heap[m70]? = some (.cells #[.int .i64 x7.f, .int .i64 x7.t, .slice x7.a x7.L.length x7.c] 48 (0, 0)) from FF.out.2.1)
                        have UZ := hid (show Old w6 (((((x71.setCell ⟨m59, 0, none⟩ (.int .i64 (most : Nat))).setCell ⟨m59, 1, none⟩ (.slice a7 Z.length c7)).setCell ⟨m70, 0, none⟩ (.int .i64 x7.f)).setCell ⟨m70, 1, none⟩ (.int .i64 x7.t)).setCell ⟨m70, 2, none⟩ (.slice x7.a x7.L.length x7.c)) from U77)
                        clear FF Nm11 Nm12 n11_71 n12_71 q76 d71 s71 U77
                        generalize (((((x71.setCell ⟨m59, 0, none⟩ (.int .i64 (most : Nat))).setCell ⟨m59, 1, none⟩ (.slice a7 Z.length c7)).setCell ⟨m70, 0, none⟩ (.int .i64 x7.f)).setCell ⟨m70, 1, none⟩ (.int .i64 x7.t)).setCell ⟨m70, 2, none⟩ (.slice x7.a x7.L.length x7.c)) = w7 at *
                        generalize m59 = b11 at *
                        generalize m70 = b12 at *
                        have N7 := hid (N6.out.old UZ.out)
                        have HBm7 := hid (UZ.out.block HBm6.out)
                        have HB97 := hid (UZ.out.block HB9.out)
                        have O7 := hid (O6.out.old UZ.out)
                        clear N6 HBm6 HB9 O6 D6 HBo6 HPS HOf HDc UZ
                        obtain ⟨xf7, xt7, xa7, xc7, xL7⟩ := x7
                        obtain ⟨e1, e2, e3⟩ : xf7 = xf ∧ xt7 = xt ∧ xL7 = xL := by
                          have h := HX7.out
                          unfold Lt.p at h
                          simp only [Prod.mk.injEq] at h
                          exact h
                        clear HX7
                        subst e1 e2 e3
                        dsimp only at S7 F12
                        unfold Lt.v at S7
                        dsimp only at S7
                        obtain ⟨r0, r1, -, -⟩ := box2 F11.out
                        obtain ⟨s0, s1, sf0, sf1⟩ := box2 HBm7.out
                        go_upto_region 12 with (fail)
                        have M8 := hid (PA.set (cs := #[]) (most := most) N7.out HBm7.out HNw.out D7.out HZ7.out)
                        have ne12 : b12 ≠ bm := fun e => by have h1 := F12.out; rw [e, HBm7.out] at h1; simp at h1
                        have ne9 : b9 ≠ bm := fun e => by have h1 := HB97.out; rw [e, HBm7.out] at h1; simp at h1
                        have G12 := hid (set_other (v := .slice a7 Z.length c7) (i := 1) (set_other (v := .int .i64 (most : Nat)) (i := 0) F12.out ne12) ne12)
                        have G9 := hid (set_other (v := .slice a7 Z.length c7) (i := 1) (set_other (v := .int .i64 (most : Nat)) (i := 0) HB97.out ne9) ne9)
                        have O8 := hid (O7.out.chg (chg2 w7 bm (.int .i64 (most : Nat)) (.slice a7 Z.length c7)) (O7.out.offT HBm7.out (by decide)))
                        have S8 := hid (S7.out.chgT (chg2 w7 bm (.int .i64 (most : Nat)) (.slice a7 Z.length c7)) HBm7.out)
                        clear r0 r1 s0 s1 sf0 sf1 F11 F12 HBm7 HB97 O7 N7 S7 D7 ne12 ne9
                        generalize (w7.setCell ⟨bm, 0, none⟩ (.int .i64 (most : Nat))).setCell ⟨bm, 1, none⟩ (.slice a7 Z.length c7) = w8 at *
                        have HS8 := hid (show (fun wz => (wz.cell? ⟨b9, 0, none⟩ = some (.int .i64 xf7) ∧ wz.cell? ⟨b9, 1, none⟩ = some (.int .i64 xt7) ∧ wz.cell? ⟨b9, 2, none⟩ = some (.slice a5 xL7.length c5)) ∧ (wz.cell? ⟨b12, 0, none⟩ = some (.int .i64 xf7) ∧ wz.cell? ⟨b12, 1, none⟩ = some (.int .i64 xt7) ∧ wz.cell? ⟨b12, 2, none⟩ = some (.slice xa7 xL7.length xc7)) ∧ wz.cell? ⟨bm, 1, none⟩ = some (.slice a7 Z.length c7)) w8 from ⟨⟨(box3 G9.out).1, (box3 G9.out).2.1, (box3 G9.out).2.2.1⟩, ⟨(box3 G12.out).1, (box3 G12.out).2.1, (box3 G12.out).2.2.1⟩, (box2 M8.out.box).2.1⟩)
                        dsimp only at HS8
                        have HOf8 := hid (fun (W : World) (u : Old w8 W) => rof_any xf7 xt7 a5 xL7.length c5 W)
                        have HSm8 := hid (fun (W : World) (u : Old w8 W) => rsame_any xf7 xt7 a5 xa7 c5 xc7 xL7 W ((O8.out.old u).row) ((S8.out.old u).row (M8.out.net.base.trans u)))
                        have HLn8 := hid (show ∀ W, Old w8 W → Calls Try.prog 11 #[.pointer (some ⟨nb, 0, none⟩)] W fun e w' => e = .returned (.int .i64 (Z.length : Nat)) ∧ Old W w' from fun W u => (lenN w W nb most P5 [] (M8.out.net.old u)).mono fun e w' q => ⟨by rw [q.1, ← HZ7.out, List.length_map], by rw [q.2]; exact Old.refl _⟩)
                        clear G12 G9 O8 S8
                        cases b5
                        case false =>
                          refine wp_region_noPanic ?_
                          refine wp_region_held_drew (S := fun wz => (wz.cell? ⟨b9, 0, none⟩ = some (.int .i64 xf7) ∧ wz.cell? ⟨b9, 1, none⟩ = some (.int .i64 xt7) ∧ wz.cell? ⟨b9, 2, none⟩ = some (.slice a5 xL7.length c5)) ∧ (wz.cell? ⟨b12, 0, none⟩ = some (.int .i64 xf7) ∧ wz.cell? ⟨b12, 1, none⟩ = some (.int .i64 xt7) ∧ wz.cell? ⟨b12, 2, none⟩ = some (.slice xa7 xL7.length xc7)) ∧ wz.cell? ⟨bm, 1, none⟩ = some (.slice a7 Z.length c7)) (by kernel_rfl) ?_ (fun hHeld => ?_)
                          · exact T7.old ((Old.refl _).drew) HS8.out
                          (try simp only [Act.put]); (try simp only [List.setIfInBounds_toArray]); (try simp only [List.set_cons_succ]); (try simp only [List.set_cons_zero])
                          clear hHeld
                          refine wpAnyH_take (i := 0) (oi := { dst := some 66, op := Op.move (Operand.tmp 10), type := 4, pos := "law.go:63", after := #[], guard := none }) (v := ?vk369) rfl (by kernel_rfl) (by kernel_rfl) (by kernel_rfl) (fun _ _ _ h => h) (Or.inl ⟨by rfl, ?hk369⟩) (T7.old ((Old.refl w8).drew) HS8.out) ?rk369
                          case hk369 => (intro wz hSw; (try dsimp only at hSw); go_simp; try with_reducible rfl)
                          (try simp only [Act.put]); (try simp only [List.setIfInBounds_toArray]); (try simp only [List.set_cons_succ]); (try simp only [List.set_cons_zero])
                          refine wpAnyH_take (i := 1) (oi := { dst := some 67, op := Op.move (Operand.tmp 13), type := 4, pos := "law.go:63", after := #[], guard := none }) (v := ?vk370) rfl (by kernel_rfl) (by kernel_rfl) (by kernel_rfl) (fun _ _ _ h => h) (Or.inl ⟨by rfl, ?hk370⟩) (T7.old ((Old.refl w8).drew) HS8.out) ?rk370
                          case hk370 => (intro wz hSw; (try dsimp only at hSw); go_simp; try with_reducible rfl)
                          (try simp only [Act.put]); (try simp only [List.setIfInBounds_toArray]); (try simp only [List.set_cons_succ]); (try simp only [List.set_cons_zero])
                          refine wpAnyH_take (i := 2) (oi := { dst := some 68, op := Op.binOp BinOp.neq 4 (Operand.tmp 66) (Operand.tmp 67) 4, type := 4, pos := "law.go:63", after := #[{ on := 0, ground := Ground.data }, { on := 1, ground := Ground.data }], guard := none }) (v := ?vk371) rfl (by kernel_rfl) (by kernel_rfl) (by kernel_rfl) (fun _ _ _ h => h) (Or.inl ⟨by rfl, ?hk371⟩) (T7.old ((Old.refl w8).drew) HS8.out) ?rk371
                          case hk371 => (intro wz hSw; (try dsimp only at hSw); go_simp; try with_reducible rfl)
                          (try simp only [Act.put]); (try simp only [List.setIfInBounds_toArray]); (try simp only [List.set_cons_succ]); (try simp only [List.set_cons_zero])
                          refine wpAnyH_take (i := 3) (oi := { dst := some 69, op := Op.move (Operand.tmp 68), type := 4, pos := "law.go:63", after := #[{ on := 2, ground := Ground.data }], guard := none }) (v := ?vk372) rfl (by kernel_rfl) (by kernel_rfl) (by kernel_rfl) (fun _ _ _ h => h) (Or.inl ⟨by rfl, ?hk372⟩) (T7.old ((Old.refl w8).drew) HS8.out) ?rk372
                          case hk372 => (intro wz hSw; (try dsimp only at hSw); go_simp; try with_reducible rfl)
                          (try simp only [Act.put]); (try simp only [List.setIfInBounds_toArray]); (try simp only [List.set_cons_succ]); (try simp only [List.set_cons_zero])
                          refine wpAnyH_take (i := 4) (oi := { dst := some 70, op := Op.load 30 (Operand.tmp 9), type := 30, pos := "law.go:63", after := #[{ on := 3, ground := Ground.guard }], guard := some (3, false) }) (v := ?vk373) rfl (by kernel_rfl) (by kernel_rfl) (by kernel_rfl) (fun _ _ _ h => h) (Or.inl ⟨by rfl, ?hk373⟩) (T7.old ((Old.refl w8).drew) HS8.out) ?rk373
                          case hk373 => (intro wz hSw; (try dsimp only at hSw); go_simp; try with_reducible rfl)
                          (try simp only [Act.put]); (try simp only [List.setIfInBounds_toArray]); (try simp only [List.set_cons_succ]); (try simp only [List.set_cons_zero])
                          refine wpAnyH_take (i := 6) (oi := { dst := some 72, op := Op.load 48 (Operand.tmp 12), type := 48, pos := "law.go:63", after := #[{ on := 3, ground := Ground.guard }], guard := some (3, false) }) (v := ?vk374) rfl (by kernel_rfl) (by kernel_rfl) (by kernel_rfl) (fun _ _ _ h => h) (Or.inl ⟨by rfl, ?hk374⟩) (T7.old ((Old.refl w8).drew) HS8.out) ?rk374
                          case hk374 => (intro wz hSw; (try dsimp only at hSw); go_simp; try with_reducible rfl)
                          (try simp only [Act.put]); (try simp only [List.setIfInBounds_toArray]); (try simp only [List.set_cons_succ]); (try simp only [List.set_cons_zero])
                          refine wpAnyH_ready (rs := [5]) (by kernel_rfl) (by simp) ?_
                          refine AllReadyH.cons (o := { dst := some 71, op := Op.call { callee := Callee.value (Operand.func 17), args := #[Operand.tmp 70], argTypes := #[30] }, type := 48, pos := "law.go:63", after := #[{ on := 4, ground := Ground.data }, { on := 3, ground := Ground.chain }, { on := 3, ground := Ground.guard }], guard := some (3, false) }) rfl (fun K hK => ?_) AllReadyH.nil
                          refine wantCall1 ?_ 17 (.tmp 70) #[30] ?_ (.agg #[.int .i64 xf7, .int .i64 xt7, .slice a5 xL7.length c5]) ?_ ?_ ((enters_of Try.func17 (by kernel_rfl) rfl) _ _) ?_
                          · rfl
                          · rfl
                          · rfl
                          · rfl
                          refine (HOf8.out _ ((Old.refl w8).drew)).mono ?_
                          rintro o x375 ⟨rfl, b375⟩
                          refine ⟨_, rfl, ?_⟩
                          have U375 := ((Old.refl w8).drew).trans b375
                          refine hK.out _ _ (T7.old U375 HS8.out) (fun _ => ?_)
                          clear hK K
                          (try simp only [Act.put]); (try simp only [List.setIfInBounds_toArray]); (try simp only [List.set_cons_succ]); (try simp only [List.set_cons_zero])
                          refine wpAnyH_ready (rs := [7]) (by kernel_rfl) (by simp) ?_
                          refine AllReadyH.cons (o := { dst := some 73, op := Op.call { callee := Callee.value (Operand.func 18), args := #[Operand.tmp 71, Operand.tmp 72], argTypes := #[48, 48] }, type := 4, pos := "law.go:63", after := #[{ on := 5, ground := Ground.data }, { on := 6, ground := Ground.data }, { on := 5, ground := Ground.chain }, { on := 3, ground := Ground.guard }], guard := some (3, false) }) rfl (fun K hK => ?_) AllReadyH.nil
                          refine wantCall2 ?_ 18 (.tmp 71) (.tmp 72) #[48, 48] ?_ (.agg #[.int .i64 xf7, .int .i64 xt7, .slice a5 xL7.length c5]) (.agg #[.int .i64 xf7, .int .i64 xt7, .slice xa7 xL7.length xc7]) ?_ ?_ ?_ ((enters_of Try.func18 (by kernel_rfl) rfl) _ _) ?_
                          · rfl
                          · rfl
                          · rfl
                          · rfl
                          · rfl
                          refine (HSm8.out _ U375).mono ?_
                          rintro o x376 ⟨rfl, b376⟩
                          refine ⟨_, rfl, ?_⟩
                          have U376 := U375.trans b376
                          refine hK.out _ _ (T7.old U376 HS8.out) (fun _ => ?_)
                          clear hK K
                          (try simp only [Act.put]); (try simp only [List.setIfInBounds_toArray]); (try simp only [List.set_cons_succ]); (try simp only [List.set_cons_zero])
                          refine wpAnyH_take (i := 8) (oi := { dst := some 74, op := Op.unOp UnOp.not 4 (Operand.tmp 73), type := 4, pos := "law.go:63", after := #[{ on := 7, ground := Ground.data }, { on := 3, ground := Ground.guard }], guard := some (3, false) }) (v := ?vk377) rfl (by kernel_rfl) (by kernel_rfl) (by kernel_rfl) (fun _ _ _ h => h) (Or.inl ⟨by rfl, ?hk377⟩) (T7.old U376 HS8.out) ?rk377
                          case hk377 => (intro wz hSw; (try dsimp only at hSw); go_simp; try with_reducible rfl)
                          (try simp only [Act.put]); (try simp only [List.setIfInBounds_toArray]); (try simp only [List.set_cons_succ]); (try simp only [List.set_cons_zero])
                          refine wpAnyH_take (i := 9) (oi := { dst := some 75, op := Op.pick (Operand.tmp 69) (Operand.const (Value.bool true)) (Operand.tmp 74), type := 4, pos := "law.go:63", after := #[{ on := 3, ground := Ground.data }, { on := 8, ground := Ground.data }], guard := none }) (v := ?vk378) rfl (by kernel_rfl) (by kernel_rfl) (by kernel_rfl) (fun _ _ _ h => h) (Or.inl ⟨by rfl, ?hk378⟩) (T7.old U376 HS8.out) ?rk378
                          case hk378 => (intro wz hSw; (try dsimp only at hSw); go_simp; try with_reducible rfl)
                          (try simp only [Act.put]); (try simp only [List.setIfInBounds_toArray]); (try simp only [List.set_cons_succ]); (try simp only [List.set_cons_zero])
                          refine wpAnyH_take (i := 10) (oi := { dst := some 76, op := Op.move (Operand.tmp 75), type := 4, pos := "law.go:63", after := #[{ on := 9, ground := Ground.data }, { on := 7, ground := Ground.chain }], guard := none }) (v := ?vk379) rfl (by kernel_rfl) (by kernel_rfl) (by kernel_rfl) (fun _ _ _ h => h) (Or.inl ⟨by rfl, ?hk379⟩) (T7.old U376 HS8.out) ?rk379
                          case hk379 => (intro wz hSw; (try dsimp only at hSw); go_simp; try with_reducible rfl)
                          (try simp only [Act.put]); (try simp only [List.setIfInBounds_toArray]); (try simp only [List.set_cons_succ]); (try simp only [List.set_cons_zero])
                          refine wpAnyH_take (i := 11) (oi := { dst := some 77, op := Op.move (Operand.tmp 5), type := 23, pos := "law.go:63", after := #[{ on := 10, ground := Ground.guard }], guard := some (10, false) }) (v := ?vk380) rfl (by kernel_rfl) (by kernel_rfl) (by kernel_rfl) (fun _ _ _ h => h) (Or.inl ⟨by rfl, ?hk380⟩) (T7.old U376 HS8.out) ?rk380
                          case hk380 => (intro wz hSw; (try dsimp only at hSw); go_simp; try with_reducible rfl)
                          (try simp only [Act.put]); (try simp only [List.setIfInBounds_toArray]); (try simp only [List.set_cons_succ]); (try simp only [List.set_cons_zero])
                          refine wpAnyH_take (i := 13) (oi := { dst := some 79, op := Op.fieldAddr 46 (Operand.tmp 6) 1, type := 0, pos := "law.go:63", after := #[{ on := 10, ground := Ground.guard }], guard := some (10, false) }) (v := ?vk381) rfl (by kernel_rfl) (by kernel_rfl) (by kernel_rfl) (fun _ _ _ h => h) (Or.inl ⟨by rfl, ?hk381⟩) (T7.old U376 HS8.out) ?rk381
                          case hk381 => (intro wz hSw; (try dsimp only at hSw); go_simp; try with_reducible rfl)
                          (try simp only [Act.put]); (try simp only [List.setIfInBounds_toArray]); (try simp only [List.set_cons_succ]); (try simp only [List.set_cons_zero])
                          refine wpAnyH_take (i := 14) (oi := { dst := some 80, op := Op.load 44 (Operand.tmp 79), type := 44, pos := "law.go:63", after := #[{ on := 13, ground := Ground.data }, { on := 10, ground := Ground.guard }], guard := some (10, false) }) (v := ?vk382) rfl (by kernel_rfl) (by kernel_rfl) (by kernel_rfl) (fun _ _ _ h => h) (Or.inl ⟨by rfl, ?hk382⟩) (T7.old U376 HS8.out) ?rk382
                          case hk382 => (intro wz hSw; (try dsimp only at hSw); go_simp; try with_reducible rfl)
                          (try simp only [Act.put]); (try simp only [List.setIfInBounds_toArray]); (try simp only [List.set_cons_succ]); (try simp only [List.set_cons_zero])
                          refine wpAnyH_take (i := 15) (oi := { dst := some 81, op := Op.call { callee := Callee.builtin Builtin.len, args := #[Operand.tmp 80], argTypes := #[44] }, type := 3, pos := "law.go:63", after := #[{ on := 14, ground := Ground.data }, { on := 10, ground := Ground.guard }], guard := some (10, false) }) (v := ?vk383) rfl (by kernel_rfl) (by kernel_rfl) (by kernel_rfl) (fun _ _ _ h => h) (Or.inl ⟨by rfl, ?hk383⟩) (T7.old U376 HS8.out) ?rk383
                          case hk383 => (intro wz hSw; (try dsimp only at hSw); go_simp; try with_reducible rfl)
                          (try simp only [Act.put]); (try simp only [List.setIfInBounds_toArray]); (try simp only [List.set_cons_succ]); (try simp only [List.set_cons_zero])
                          refine wpAnyH_ready (rs := [12]) (by kernel_rfl) (by simp) ?_
                          refine AllReadyH.cons (o := { dst := some 78, op := Op.call { callee := Callee.value (Operand.func 11), args := #[Operand.tmp 77], argTypes := #[23] }, type := 3, pos := "law.go:63", after := #[{ on := 11, ground := Ground.data }, { on := 10, ground := Ground.chain }, { on := 10, ground := Ground.guard }], guard := some (10, false) }) rfl (fun K hK => ?_) AllReadyH.nil
                          refine wantCall1 ?_ 11 (.tmp 77) #[23] ?_ (.pointer (some ⟨nb, 0, none⟩)) ?_ ?_ ((enters_of Try.func11 (by kernel_rfl) rfl) _ _) ?_
                          · rfl
                          · rfl
                          · rfl
                          · rfl
                          refine (HLn8.out _ U376).mono ?_
                          rintro o x384 ⟨rfl, b384⟩
                          refine ⟨_, rfl, ?_⟩
                          have U384 := U376.trans b384
                          refine hK.out _ _ (T7.old U384 HS8.out) (fun _ => ?_)
                          clear hK K
                          (try simp only [Act.put]); (try simp only [List.setIfInBounds_toArray]); (try simp only [List.set_cons_succ]); (try simp only [List.set_cons_zero])
                          refine wpAnyH_take (i := 16) (oi := { dst := some 82, op := Op.binOp BinOp.neq 3 (Operand.tmp 78) (Operand.tmp 81) 3, type := 4, pos := "law.go:63", after := #[{ on := 12, ground := Ground.data }, { on := 15, ground := Ground.data }, { on := 10, ground := Ground.guard }], guard := some (10, false) }) (v := ?vk385) rfl (by kernel_rfl) (by kernel_rfl) (by kernel_rfl) (fun _ _ _ h => h) (Or.inl ⟨by rfl, ?hk385⟩) (T7.old U384 HS8.out) ?rk385
                          case hk385 => (intro wz hSw; (try dsimp only at hSw); go_simp; try with_reducible rfl)
                          (try simp only [Act.put]); (try simp only [List.setIfInBounds_toArray]); (try simp only [List.set_cons_succ]); (try simp only [List.set_cons_zero])
                          refine wpAnyH_take (i := 17) (oi := { dst := some 83, op := Op.pick (Operand.tmp 76) (Operand.const (Value.bool true)) (Operand.tmp 82), type := 4, pos := "law.go:63", after := #[{ on := 10, ground := Ground.data }, { on := 16, ground := Ground.data }], guard := none }) (v := ?vk386) rfl (by kernel_rfl) (by kernel_rfl) (by kernel_rfl) (fun _ _ _ h => h) (Or.inl ⟨by rfl, ?hk386⟩) (T7.old U384 HS8.out) ?rk386
                          case hk386 => (intro wz hSw; (try dsimp only at hSw); go_simp; try with_reducible rfl)
                          (try simp only [Act.put]); (try simp only [List.setIfInBounds_toArray]); (try simp only [List.set_cons_succ]); (try simp only [List.set_cons_zero])
                          refine wpAnyH_done (by kernel_rfl) ?_ _
                          refine NoPanic.normal ?_
                          have UY := hid U384
                          go_wp2
                          go_roundw
                          case rel => exact ⟨i + 1, a7, c7, Z, P5, hlt, by go_num, M8.out.old UY.out⟩
                          case measure => simp [intOf]; omega
                        case true =>
                          refine wp_region_noPanic ?_
                          refine wp_region_held_drew (S := fun wz => (wz.cell? ⟨b9, 0, none⟩ = some (.int .i64 xf7) ∧ wz.cell? ⟨b9, 1, none⟩ = some (.int .i64 xt7) ∧ wz.cell? ⟨b9, 2, none⟩ = some (.slice a5 xL7.length c5)) ∧ (wz.cell? ⟨b12, 0, none⟩ = some (.int .i64 xf7) ∧ wz.cell? ⟨b12, 1, none⟩ = some (.int .i64 xt7) ∧ wz.cell? ⟨b12, 2, none⟩ = some (.slice xa7 xL7.length xc7)) ∧ wz.cell? ⟨bm, 1, none⟩ = some (.slice a7 Z.length c7)) (by kernel_rfl) ?_ (fun hHeld => ?_)
                          · exact T7.old ((Old.refl _).drew) HS8.out
                          (try simp only [Act.put]); (try simp only [List.setIfInBounds_toArray]); (try simp only [List.set_cons_succ]); (try simp only [List.set_cons_zero])
                          clear hHeld
                          refine wpAnyH_take (i := 0) (oi := { dst := some 66, op := Op.move (Operand.tmp 10), type := 4, pos := "law.go:63", after := #[], guard := none }) (v := ?vk387) rfl (by kernel_rfl) (by kernel_rfl) (by kernel_rfl) (fun _ _ _ h => h) (Or.inl ⟨by rfl, ?hk387⟩) (T7.old ((Old.refl w8).drew) HS8.out) ?rk387
                          case hk387 => (intro wz hSw; (try dsimp only at hSw); go_simp; try with_reducible rfl)
                          (try simp only [Act.put]); (try simp only [List.setIfInBounds_toArray]); (try simp only [List.set_cons_succ]); (try simp only [List.set_cons_zero])
                          refine wpAnyH_take (i := 1) (oi := { dst := some 67, op := Op.move (Operand.tmp 13), type := 4, pos := "law.go:63", after := #[], guard := none }) (v := ?vk388) rfl (by kernel_rfl) (by kernel_rfl) (by kernel_rfl) (fun _ _ _ h => h) (Or.inl ⟨by rfl, ?hk388⟩) (T7.old ((Old.refl w8).drew) HS8.out) ?rk388
                          case hk388 => (intro wz hSw; (try dsimp only at hSw); go_simp; try with_reducible rfl)
                          (try simp only [Act.put]); (try simp only [List.setIfInBounds_toArray]); (try simp only [List.set_cons_succ]); (try simp only [List.set_cons_zero])
                          refine wpAnyH_take (i := 2) (oi := { dst := some 68, op := Op.binOp BinOp.neq 4 (Operand.tmp 66) (Operand.tmp 67) 4, type := 4, pos := "law.go:63", after := #[{ on := 0, ground := Ground.data }, { on := 1, ground := Ground.data }], guard := none }) (v := ?vk389) rfl (by kernel_rfl) (by kernel_rfl) (by kernel_rfl) (fun _ _ _ h => h) (Or.inl ⟨by rfl, ?hk389⟩) (T7.old ((Old.refl w8).drew) HS8.out) ?rk389
                          case hk389 => (intro wz hSw; (try dsimp only at hSw); go_simp; try with_reducible rfl)
                          (try simp only [Act.put]); (try simp only [List.setIfInBounds_toArray]); (try simp only [List.set_cons_succ]); (try simp only [List.set_cons_zero])
                          refine wpAnyH_take (i := 3) (oi := { dst := some 69, op := Op.move (Operand.tmp 68), type := 4, pos := "law.go:63", after := #[{ on := 2, ground := Ground.data }], guard := none }) (v := ?vk390) rfl (by kernel_rfl) (by kernel_rfl) (by kernel_rfl) (fun _ _ _ h => h) (Or.inl ⟨by rfl, ?hk390⟩) (T7.old ((Old.refl w8).drew) HS8.out) ?rk390
                          case hk390 => (intro wz hSw; (try dsimp only at hSw); go_simp; try with_reducible rfl)
                          (try simp only [Act.put]); (try simp only [List.setIfInBounds_toArray]); (try simp only [List.set_cons_succ]); (try simp only [List.set_cons_zero])
                          refine wpAnyH_take (i := 4) (oi := { dst := some 70, op := Op.load 30 (Operand.tmp 9), type := 30, pos := "law.go:63", after := #[{ on := 3, ground := Ground.guard }], guard := some (3, false) }) (v := ?vk391) rfl (by kernel_rfl) (by kernel_rfl) (by kernel_rfl) (fun _ _ _ h => h) (Or.inl ⟨by rfl, ?hk391⟩) (T7.old ((Old.refl w8).drew) HS8.out) ?rk391
                          case hk391 => (intro wz hSw; (try dsimp only at hSw); go_simp; try with_reducible rfl)
                          (try simp only [Act.put]); (try simp only [List.setIfInBounds_toArray]); (try simp only [List.set_cons_succ]); (try simp only [List.set_cons_zero])
                          refine wpAnyH_take (i := 6) (oi := { dst := some 72, op := Op.load 48 (Operand.tmp 12), type := 48, pos := "law.go:63", after := #[{ on := 3, ground := Ground.guard }], guard := some (3, false) }) (v := ?vk392) rfl (by kernel_rfl) (by kernel_rfl) (by kernel_rfl) (fun _ _ _ h => h) (Or.inl ⟨by rfl, ?hk392⟩) (T7.old ((Old.refl w8).drew) HS8.out) ?rk392
                          case hk392 => (intro wz hSw; (try dsimp only at hSw); go_simp; try with_reducible rfl)
                          (try simp only [Act.put]); (try simp only [List.setIfInBounds_toArray]); (try simp only [List.set_cons_succ]); (try simp only [List.set_cons_zero])
                          refine wpAnyH_ready (rs := [5]) (by kernel_rfl) (by simp) ?_
                          refine AllReadyH.cons (o := { dst := some 71, op := Op.call { callee := Callee.value (Operand.func 17), args := #[Operand.tmp 70], argTypes := #[30] }, type := 48, pos := "law.go:63", after := #[{ on := 4, ground := Ground.data }, { on := 3, ground := Ground.chain }, { on := 3, ground := Ground.guard }], guard := some (3, false) }) rfl (fun K hK => ?_) AllReadyH.nil
                          refine wantCall1 ?_ 17 (.tmp 70) #[30] ?_ (.agg #[.int .i64 xf7, .int .i64 xt7, .slice a5 xL7.length c5]) ?_ ?_ ((enters_of Try.func17 (by kernel_rfl) rfl) _ _) ?_
                          · rfl
                          · rfl
                          · rfl
                          · rfl
                          refine (HOf8.out _ ((Old.refl w8).drew)).mono ?_
                          rintro o x393 ⟨rfl, b393⟩
                          refine ⟨_, rfl, ?_⟩
                          have U393 := ((Old.refl w8).drew).trans b393
                          refine hK.out _ _ (T7.old U393 HS8.out) (fun _ => ?_)
                          clear hK K
                          (try simp only [Act.put]); (try simp only [List.setIfInBounds_toArray]); (try simp only [List.set_cons_succ]); (try simp only [List.set_cons_zero])
                          refine wpAnyH_ready (rs := [7]) (by kernel_rfl) (by simp) ?_
                          refine AllReadyH.cons (o := { dst := some 73, op := Op.call { callee := Callee.value (Operand.func 18), args := #[Operand.tmp 71, Operand.tmp 72], argTypes := #[48, 48] }, type := 4, pos := "law.go:63", after := #[{ on := 5, ground := Ground.data }, { on := 6, ground := Ground.data }, { on := 5, ground := Ground.chain }, { on := 3, ground := Ground.guard }], guard := some (3, false) }) rfl (fun K hK => ?_) AllReadyH.nil
                          refine wantCall2 ?_ 18 (.tmp 71) (.tmp 72) #[48, 48] ?_ (.agg #[.int .i64 xf7, .int .i64 xt7, .slice a5 xL7.length c5]) (.agg #[.int .i64 xf7, .int .i64 xt7, .slice xa7 xL7.length xc7]) ?_ ?_ ?_ ((enters_of Try.func18 (by kernel_rfl) rfl) _ _) ?_
                          · rfl
                          · rfl
                          · rfl
                          · rfl
                          · rfl
                          refine (HSm8.out _ U393).mono ?_
                          rintro o x394 ⟨rfl, b394⟩
                          refine ⟨_, rfl, ?_⟩
                          have U394 := U393.trans b394
                          refine hK.out _ _ (T7.old U394 HS8.out) (fun _ => ?_)
                          clear hK K
                          (try simp only [Act.put]); (try simp only [List.setIfInBounds_toArray]); (try simp only [List.set_cons_succ]); (try simp only [List.set_cons_zero])
                          refine wpAnyH_take (i := 8) (oi := { dst := some 74, op := Op.unOp UnOp.not 4 (Operand.tmp 73), type := 4, pos := "law.go:63", after := #[{ on := 7, ground := Ground.data }, { on := 3, ground := Ground.guard }], guard := some (3, false) }) (v := ?vk395) rfl (by kernel_rfl) (by kernel_rfl) (by kernel_rfl) (fun _ _ _ h => h) (Or.inl ⟨by rfl, ?hk395⟩) (T7.old U394 HS8.out) ?rk395
                          case hk395 => (intro wz hSw; (try dsimp only at hSw); go_simp; try with_reducible rfl)
                          (try simp only [Act.put]); (try simp only [List.setIfInBounds_toArray]); (try simp only [List.set_cons_succ]); (try simp only [List.set_cons_zero])
                          refine wpAnyH_take (i := 9) (oi := { dst := some 75, op := Op.pick (Operand.tmp 69) (Operand.const (Value.bool true)) (Operand.tmp 74), type := 4, pos := "law.go:63", after := #[{ on := 3, ground := Ground.data }, { on := 8, ground := Ground.data }], guard := none }) (v := ?vk396) rfl (by kernel_rfl) (by kernel_rfl) (by kernel_rfl) (fun _ _ _ h => h) (Or.inl ⟨by rfl, ?hk396⟩) (T7.old U394 HS8.out) ?rk396
                          case hk396 => (intro wz hSw; (try dsimp only at hSw); go_simp; try with_reducible rfl)
                          (try simp only [Act.put]); (try simp only [List.setIfInBounds_toArray]); (try simp only [List.set_cons_succ]); (try simp only [List.set_cons_zero])
                          refine wpAnyH_take (i := 10) (oi := { dst := some 76, op := Op.move (Operand.tmp 75), type := 4, pos := "law.go:63", after := #[{ on := 9, ground := Ground.data }, { on := 7, ground := Ground.chain }], guard := none }) (v := ?vk397) rfl (by kernel_rfl) (by kernel_rfl) (by kernel_rfl) (fun _ _ _ h => h) (Or.inl ⟨by rfl, ?hk397⟩) (T7.old U394 HS8.out) ?rk397
                          case hk397 => (intro wz hSw; (try dsimp only at hSw); go_simp; try with_reducible rfl)
                          (try simp only [Act.put]); (try simp only [List.setIfInBounds_toArray]); (try simp only [List.set_cons_succ]); (try simp only [List.set_cons_zero])
                          refine wpAnyH_take (i := 11) (oi := { dst := some 77, op := Op.move (Operand.tmp 5), type := 23, pos := "law.go:63", after := #[{ on := 10, ground := Ground.guard }], guard := some (10, false) }) (v := ?vk398) rfl (by kernel_rfl) (by kernel_rfl) (by kernel_rfl) (fun _ _ _ h => h) (Or.inl ⟨by rfl, ?hk398⟩) (T7.old U394 HS8.out) ?rk398
                          case hk398 => (intro wz hSw; (try dsimp only at hSw); go_simp; try with_reducible rfl)
                          (try simp only [Act.put]); (try simp only [List.setIfInBounds_toArray]); (try simp only [List.set_cons_succ]); (try simp only [List.set_cons_zero])
                          refine wpAnyH_take (i := 13) (oi := { dst := some 79, op := Op.fieldAddr 46 (Operand.tmp 6) 1, type := 0, pos := "law.go:63", after := #[{ on := 10, ground := Ground.guard }], guard := some (10, false) }) (v := ?vk399) rfl (by kernel_rfl) (by kernel_rfl) (by kernel_rfl) (fun _ _ _ h => h) (Or.inl ⟨by rfl, ?hk399⟩) (T7.old U394 HS8.out) ?rk399
                          case hk399 => (intro wz hSw; (try dsimp only at hSw); go_simp; try with_reducible rfl)
                          (try simp only [Act.put]); (try simp only [List.setIfInBounds_toArray]); (try simp only [List.set_cons_succ]); (try simp only [List.set_cons_zero])
                          refine wpAnyH_take (i := 14) (oi := { dst := some 80, op := Op.load 44 (Operand.tmp 79), type := 44, pos := "law.go:63", after := #[{ on := 13, ground := Ground.data }, { on := 10, ground := Ground.guard }], guard := some (10, false) }) (v := ?vk400) rfl (by kernel_rfl) (by kernel_rfl) (by kernel_rfl) (fun _ _ _ h => h) (Or.inl ⟨by rfl, ?hk400⟩) (T7.old U394 HS8.out) ?rk400
                          case hk400 => (intro wz hSw; (try dsimp only at hSw); go_simp; try with_reducible rfl)
                          (try simp only [Act.put]); (try simp only [List.setIfInBounds_toArray]); (try simp only [List.set_cons_succ]); (try simp only [List.set_cons_zero])
                          refine wpAnyH_take (i := 15) (oi := { dst := some 81, op := Op.call { callee := Callee.builtin Builtin.len, args := #[Operand.tmp 80], argTypes := #[44] }, type := 3, pos := "law.go:63", after := #[{ on := 14, ground := Ground.data }, { on := 10, ground := Ground.guard }], guard := some (10, false) }) (v := ?vk401) rfl (by kernel_rfl) (by kernel_rfl) (by kernel_rfl) (fun _ _ _ h => h) (Or.inl ⟨by rfl, ?hk401⟩) (T7.old U394 HS8.out) ?rk401
                          case hk401 => (intro wz hSw; (try dsimp only at hSw); go_simp; try with_reducible rfl)
                          (try simp only [Act.put]); (try simp only [List.setIfInBounds_toArray]); (try simp only [List.set_cons_succ]); (try simp only [List.set_cons_zero])
                          refine wpAnyH_ready (rs := [12]) (by kernel_rfl) (by simp) ?_
                          refine AllReadyH.cons (o := { dst := some 78, op := Op.call { callee := Callee.value (Operand.func 11), args := #[Operand.tmp 77], argTypes := #[23] }, type := 3, pos := "law.go:63", after := #[{ on := 11, ground := Ground.data }, { on := 10, ground := Ground.chain }, { on := 10, ground := Ground.guard }], guard := some (10, false) }) rfl (fun K hK => ?_) AllReadyH.nil
                          refine wantCall1 ?_ 11 (.tmp 77) #[23] ?_ (.pointer (some ⟨nb, 0, none⟩)) ?_ ?_ ((enters_of Try.func11 (by kernel_rfl) rfl) _ _) ?_
                          · rfl
                          · rfl
                          · rfl
                          · rfl
                          refine (HLn8.out _ U394).mono ?_
                          rintro o x402 ⟨rfl, b402⟩
                          refine ⟨_, rfl, ?_⟩
                          have U402 := U394.trans b402
                          refine hK.out _ _ (T7.old U402 HS8.out) (fun _ => ?_)
                          clear hK K
                          (try simp only [Act.put]); (try simp only [List.setIfInBounds_toArray]); (try simp only [List.set_cons_succ]); (try simp only [List.set_cons_zero])
                          refine wpAnyH_take (i := 16) (oi := { dst := some 82, op := Op.binOp BinOp.neq 3 (Operand.tmp 78) (Operand.tmp 81) 3, type := 4, pos := "law.go:63", after := #[{ on := 12, ground := Ground.data }, { on := 15, ground := Ground.data }, { on := 10, ground := Ground.guard }], guard := some (10, false) }) (v := ?vk403) rfl (by kernel_rfl) (by kernel_rfl) (by kernel_rfl) (fun _ _ _ h => h) (Or.inl ⟨by rfl, ?hk403⟩) (T7.old U402 HS8.out) ?rk403
                          case hk403 => (intro wz hSw; (try dsimp only at hSw); go_simp; try with_reducible rfl)
                          (try simp only [Act.put]); (try simp only [List.setIfInBounds_toArray]); (try simp only [List.set_cons_succ]); (try simp only [List.set_cons_zero])
                          refine wpAnyH_take (i := 17) (oi := { dst := some 83, op := Op.pick (Operand.tmp 76) (Operand.const (Value.bool true)) (Operand.tmp 82), type := 4, pos := "law.go:63", after := #[{ on := 10, ground := Ground.data }, { on := 16, ground := Ground.data }], guard := none }) (v := ?vk404) rfl (by kernel_rfl) (by kernel_rfl) (by kernel_rfl) (fun _ _ _ h => h) (Or.inl ⟨by rfl, ?hk404⟩) (T7.old U402 HS8.out) ?rk404
                          case hk404 => (intro wz hSw; (try dsimp only at hSw); go_simp; try with_reducible rfl)
                          (try simp only [Act.put]); (try simp only [List.setIfInBounds_toArray]); (try simp only [List.set_cons_succ]); (try simp only [List.set_cons_zero])
                          refine wpAnyH_done (by kernel_rfl) ?_ _
                          refine NoPanic.normal ?_
                          have UY := hid U402
                          go_wp2
                          go_roundw
                          case rel => exact ⟨i + 1, a7, c7, Z, P5, hlt, by go_num, M8.out.old UY.out⟩
                          case measure => simp [intOf]; omega
            · skip
              refine stepAllocR ?_ ?_ ?_
              · rfl
              · rfl
              intro m78 y78 hm78 hy78
              have nn78 : y78.heap[m78]? = some (.cells #[.int .i64 0, .int .i64 0, .slice none 0 0] 48 (0, 0)) := by rw [hy78, hm78]; exact alloc_at _ _
              have b78 : Old (y59) y78 := by rw [hy78]; exact (Old.refl _).alloc _
              have Z78 : w6.heap.size ≤ m78 := by rw [hm78]; exact (U59).size
              clear hm78 hy78
              have U78 := (U59).trans b78
              have n11_78 := (b78).block nn59
              refine hK.out _ _ (PS.old U78 HPS.out) (fun _ => ?_)
              clear hK K
              (try simp only [Act.put]); (try simp only [List.setIfInBounds_toArray]); (try simp only [List.set_cons_succ]); (try simp only [List.set_cons_zero])
              refine wpAnyH_ready (rs := [9]) (by kernel_rfl) (by simp) ?_
              refine AllReadyH.cons (o := { dst := some 59, op := Op.call { callee := Callee.value (Operand.func 17), args := #[Operand.tmp 58], argTypes := #[30] }, type := 48, pos := "law.go:61", after := #[{ on := 8, ground := Ground.data }], guard := none }) rfl (fun K hK => ?_) AllReadyH.nil
              · skip
                refine wantCall1 ?_ 17 (.tmp 58) #[30] ?_ (.agg #[.int .i64 of, .int .i64 ot, .slice pB oL.length cB]) ?_ ?_ ((enters_of Try.func17 (by kernel_rfl) rfl) _ _) ?_
                · rfl
                · rfl
                · rfl
                · rfl
                refine (HOf.out _).mono ?_
                rintro o x79 ⟨rfl, b79⟩
                refine ⟨_, rfl, ?_⟩
                have U79 := (U78).trans b79
                have n11_79 := (b79).block n11_78
                have n12_79 := (b79).block nn78
                refine hK.out _ _ (PS.old U79 HPS.out) (fun _ => ?_)
                clear hK K
                (try simp only [Act.put]); (try simp only [List.setIfInBounds_toArray]); (try simp only [List.set_cons_succ]); (try simp only [List.set_cons_zero])
                refine wpAnyH_take (i := 10) (oi := { dst := some 60, op := Op.build 53 #[(0, Operand.tmp 52), (1, Operand.tmp 54), (2, Operand.tmp 56), (3, Operand.tmp 59)], type := 53, pos := "law.go:61", after := #[{ on := 2, ground := Ground.data }, { on := 4, ground := Ground.data }, { on := 6, ground := Ground.data }, { on := 9, ground := Ground.data }], guard := none }) (v := ?vk80) rfl (by kernel_rfl) (by kernel_rfl) (by kernel_rfl) (fun _ _ _ h => h) (Or.inl ⟨by rfl, ?hk80⟩) (PS.old U79 HPS.out) ?rk80
                case hk80 => (intro wz hSw; (try dsimp only at hSw); go_simp; try with_reducible rfl)
                (try simp only [Act.put]); (try simp only [List.setIfInBounds_toArray]); (try simp only [List.set_cons_succ]); (try simp only [List.set_cons_zero])
                refine wpAnyH_ready (rs := [11]) (by kernel_rfl) (by simp) ?_
                refine AllReadyH.cons (o := { dst := some 61, op := Op.call { callee := Callee.value (Operand.func 16), args := #[Operand.tmp 50, Operand.tmp 60], argTypes := #[46, 53] }, type := 49, pos := "law.go:61", after := #[{ on := 0, ground := Ground.data }, { on := 10, ground := Ground.data }, { on := 9, ground := Ground.chain }], guard := none }) rfl (fun K hK => ?_) AllReadyH.nil
                · skip
                  refine wantCall2 ?_ 16 (.tmp 50) (.tmp 60) #[46, 53] ?_ (.agg #[.int .i64 (most : Nat), .slice a Y.length cp]) (.agg #[.int .i64 ok, .int .i64 oi, .int .i64 om, .int .i64 of, .int .i64 ot, .slice pB oL.length cB]) ?_ ?_ ?_ ((enters_of Try.func16 (by kernel_rfl) rfl) _ _) ?_
                  · rfl
                  · rfl
                  · rfl
                  · rfl
                  · rfl
                  refine (HDc.out _ U79).mono ?_
                  rintro o x81 ⟨a7, c7, Z, x7, rfl, d81, hZ81, hx81, s81, b81, nw81⟩
                  refine ⟨_, rfl, ?_⟩
                  have HZ7 := hid hZ81
                  have HX7 := hid hx81
                  have Nm11 := hid (show ∀ g, (Value.slice a7 Z.length c7).ownBlock = some g → g ≠ m59 from fun g e => by rcases nw81 g e with h | h; (have := (D6.out.row.lt g h).2; have := Z59; omega); (have := blk_lt n11_79; omega))
                  have Nm12 := hid (show ∀ g, (Value.slice a7 Z.length c7).ownBlock = some g → g ≠ m78 from fun g e => by rcases nw81 g e with h | h; (have := (D6.out.row.lt g h).2; have := Z78; omega); (have := blk_lt n12_79; omega))
                  clear hZ81 hx81 nw81
                  have U81 := (U79).trans b81
                  have n11_81 := (b81).block n11_79
                  have n12_81 := (b81).block n12_79
                  refine hK.out _ _ (PS.old U81 HPS.out) (fun _ => ?_)
                  clear hK K
                  (try simp only [Act.put]); (try simp only [List.setIfInBounds_toArray]); (try simp only [List.set_cons_succ]); (try simp only [List.set_cons_zero])
                  refine wpAnyH_take (i := 12) (oi := { dst := some 49, op := Op.move (Operand.tmp 61), type := 49, pos := "law.go:61", after := #[{ on := 11, ground := Ground.data }], guard := none }) (v := ?vk82) rfl (by kernel_rfl) (by kernel_rfl) (by kernel_rfl) (fun _ _ _ h => h) (Or.inl ⟨by rfl, ?hk82⟩) (PS.old U81 HPS.out) ?rk82
                  case hk82 => (intro wz hSw; (try dsimp only at hSw); go_simp; try with_reducible rfl)
                  (try simp only [Act.put]); (try simp only [List.setIfInBounds_toArray]); (try simp only [List.set_cons_succ]); (try simp only [List.set_cons_zero])
                  refine wpAnyH_take (i := 13) (oi := { dst := some 62, op := Op.extract (Operand.tmp 49) 0, type := 46, pos := "law.go:61", after := #[{ on := 12, ground := Ground.data }], guard := none }) (v := ?vk83) rfl (by kernel_rfl) (by kernel_rfl) (by kernel_rfl) (fun _ _ _ h => h) (Or.inl ⟨by rfl, ?hk83⟩) (PS.old U81 HPS.out) ?rk83
                  case hk83 => (intro wz hSw; (try dsimp only at hSw); go_simp; try with_reducible rfl)
                  (try simp only [Act.put]); (try simp only [List.setIfInBounds_toArray]); (try simp only [List.set_cons_succ]); (try simp only [List.set_cons_zero])
                  refine wpAnyH_take (i := 14) (oi := { dst := some 63, op := Op.extract (Operand.tmp 49) 1, type := 48, pos := "law.go:61", after := #[{ on := 12, ground := Ground.data }, { on := 18, ground := Ground.gcOnly Departure.lateStores }], guard := none }) (v := ?vk84) rfl (by kernel_rfl) (by kernel_rfl) (by kernel_rfl) (fun _ _ _ h => h) (Or.inl ⟨by rfl, ?hk84⟩) (PS.old U81 HPS.out) ?rk84
                  case hk84 => (intro wz hSw; (try dsimp only at hSw); go_simp; try with_reducible rfl)
                  (try simp only [Act.put]); (try simp only [List.setIfInBounds_toArray]); (try simp only [List.set_cons_succ]); (try simp only [List.set_cons_zero])
                  refine wpAnyH_take (i := 15) (oi := { dst := some 64, op := Op.extract (Operand.tmp 49) 2, type := 4, pos := "law.go:61", after := #[{ on := 12, ground := Ground.data }, { on := 19, ground := Ground.gcOnly Departure.lateStores }], guard := none }) (v := ?vk85) rfl (by kernel_rfl) (by kernel_rfl) (by kernel_rfl) (fun _ _ _ h => h) (Or.inl ⟨by rfl, ?hk85⟩) (PS.old U81 HPS.out) ?rk85
                  case hk85 => (intro wz hSw; (try dsimp only at hSw); go_simp; try with_reducible rfl)
                  (try simp only [Act.put]); (try simp only [List.setIfInBounds_toArray]); (try simp only [List.set_cons_succ]); (try simp only [List.set_cons_zero])
                  refine wpAnyH_ready (rs := [18]) (by kernel_rfl) (by simp) ?_
                  refine AllReadyH.cons (o := { dst := none, op := Op.store 46 (Operand.tmp 11) (Operand.tmp 62), type := 0, pos := "law.go:61", after := #[{ on := 16, ground := Ground.data }, { on := 13, ground := Ground.data }, { on := 11, ground := Ground.chain }, { on := 0, ground := Ground.phase }, { on := 1, ground := Ground.phase }, { on := 2, ground := Ground.phase }, { on := 3, ground := Ground.phase }, { on := 4, ground := Ground.phase }, { on := 5, ground := Ground.phase }, { on := 6, ground := Ground.phase }, { on := 7, ground := Ground.phase }, { on := 8, ground := Ground.phase }, { on := 9, ground := Ground.phase }, { on := 10, ground := Ground.phase }, { on := 11, ground := Ground.phase }, { on := 12, ground := Ground.phase }, { on := 13, ground := Ground.phase }, { on := 14, ground := Ground.textOnly Departure.lateStores }, { on := 15, ground := Ground.textOnly Departure.lateStores }, { on := 16, ground := Ground.phase }, { on := 17, ground := Ground.phase }], guard := none }) rfl (fun K hK => ?_) AllReadyH.nil
                  · skip
                    refine stepStoreN2 ?_ (.tmp 11) (.tmp 62) ?_ m59 (.int .i64 (most : Nat)) (.slice a7 Z.length c7) ?_ ?_ (there2 n11_81) ⟨rfl, rfl⟩ ?_
                    · rfl
                    · rfl
                    · rfl
                    · rfl
                    have ne86 : m78 ≠ m59 := fun e => by have h1 := n11_81; have h2 := n12_81; rw [e, h1] at h2; simp at h2
                    have q86 := set_other (v := .slice a7 Z.length c7) (i := 1) (set_other (v := .int .i64 (most : Nat)) (i := 0) n12_81 ne86) ne86
                    have U86 := ((U81).setCell (p := ⟨m59, 0, none⟩) Z59 (.int .i64 (most : Nat))).setCell (p := ⟨m59, 1, none⟩) Z59 (.slice a7 Z.length c7)
                    refine hK.out _ _ (PS.old U86 HPS.out) (fun _ => ?_)
                    clear hK K
                    (try simp only [Act.put]); (try simp only [List.setIfInBounds_toArray]); (try simp only [List.set_cons_succ]); (try simp only [List.set_cons_zero])
                    refine wpAnyH_ready (rs := [19]) (by kernel_rfl) (by simp) ?_
                    refine AllReadyH.cons (o := { dst := none, op := Op.store 48 (Operand.tmp 12) (Operand.tmp 63), type := 0, pos := "law.go:61", after := #[{ on := 17, ground := Ground.data }, { on := 14, ground := Ground.data }, { on := 18, ground := Ground.chain }, { on := 0, ground := Ground.phase }, { on := 1, ground := Ground.phase }, { on := 2, ground := Ground.phase }, { on := 3, ground := Ground.phase }, { on := 4, ground := Ground.phase }, { on := 5, ground := Ground.phase }, { on := 6, ground := Ground.phase }, { on := 7, ground := Ground.phase }, { on := 8, ground := Ground.phase }, { on := 9, ground := Ground.phase }, { on := 10, ground := Ground.phase }, { on := 11, ground := Ground.phase }, { on := 12, ground := Ground.phase }, { on := 13, ground := Ground.phase }, { on := 14, ground := Ground.phase }, { on := 15, ground := Ground.textOnly Departure.lateStores }, { on := 16, ground := Ground.phase }, { on := 17, ground := Ground.phase }, { on := 18, ground := Ground.phase }], guard := none }) rfl (fun K hK => ?_) AllReadyH.nil
                    · skip
                      refine stepStoreR3 ?_ (.tmp 12) (.tmp 63) ?_ m78 (.int .i64 x7.f) (.int .i64 x7.t) (.slice x7.a x7.L.length x7.c) ?_ ?_ (there3 q86) ⟨rfl, rfl, rfl⟩ ?_
                      · rfl
                      · rfl
                      · rfl
                      · rfl
                      have U87 := (((U86).setCell (p := ⟨m78, 0, none⟩) Z78 (.int .i64 x7.f)).setCell (p := ⟨m78, 1, none⟩) Z78 (.int .i64 x7.t)).setCell (p := ⟨m78, 2, none⟩) Z78 (.slice x7.a x7.L.length x7.c)
                      refine hK.out _ _ (PS.old U87 HPS.out) (fun _ => ?_)
                      clear hK K
                      (try simp only [Act.put]); (try simp only [List.setIfInBounds_toArray]); (try simp only [List.set_cons_succ]); (try simp only [List.set_cons_zero])
                      refine wpAnyH_ready (rs := [20]) (by kernel_rfl) (by simp) ?_
                      refine AllReadyH.cons (o := { dst := some 13, op := Op.assign (Operand.tmp 64), type := 4, pos := "law.go:61", after := #[{ on := 15, ground := Ground.data }, { on := 19, ground := Ground.chain }, { on := 0, ground := Ground.phase }, { on := 1, ground := Ground.phase }, { on := 2, ground := Ground.phase }, { on := 3, ground := Ground.phase }, { on := 4, ground := Ground.phase }, { on := 5, ground := Ground.phase }, { on := 6, ground := Ground.phase }, { on := 7, ground := Ground.phase }, { on := 8, ground := Ground.phase }, { on := 9, ground := Ground.phase }, { on := 10, ground := Ground.phase }, { on := 11, ground := Ground.phase }, { on := 12, ground := Ground.phase }, { on := 13, ground := Ground.phase }, { on := 14, ground := Ground.phase }, { on := 15, ground := Ground.phase }, { on := 16, ground := Ground.phase }, { on := 17, ground := Ground.phase }, { on := 18, ground := Ground.phase }, { on := 19, ground := Ground.phase }], guard := none }) rfl (fun K hK => ?_) AllReadyH.nil
                      · skip
                        go_simp
                        refine hK.out _ _ (PS.old U87 HPS.out) (fun _ => ?_)
                        clear hK K
                        (try simp only [Act.put]); (try simp only [List.setIfInBounds_toArray]); (try simp only [List.set_cons_succ]); (try simp only [List.set_cons_zero])
                        refine wpAnyH_done (by kernel_rfl) ?_ _
                        refine NoPanic.normal ?_
                        have FF := hid (rfin (p := .int .i64 (most : Nat)) (q := .slice a7 Z.length c7) (x := .int .i64 x7.f) (y := .int .i64 x7.t) (z := .slice x7.a x7.L.length x7.c) n11_81 n12_81)
                        have D7 := hid (show DocAt w (((((x81.setCell ⟨m59, 0, none⟩ (.int .i64 (most : Nat))).setCell ⟨m59, 1, none⟩ (.slice a7 Z.length c7)).setCell ⟨m78, 0, none⟩ (.int .i64 x7.f)).setCell ⟨m78, 1, none⟩ (.int .i64 x7.t)).setCell ⟨m78, 2, none⟩ (.slice x7.a x7.L.length x7.c)) (.slice a7 Z.length c7) Z from DocAt.chg2 (B := 0) d81 FF.out.2.2 n11_81 n12_81 (fun g e => ⟨Nm11.out g e, Nm12.out g e⟩))
                        have S7 := hid (show Sr w (((((x81.setCell ⟨m59, 0, none⟩ (.int .i64 (most : Nat))).setCell ⟨m59, 1, none⟩ (.slice a7 Z.length c7)).setCell ⟨m78, 0, none⟩ (.int .i64 x7.f)).setCell ⟨m78, 1, none⟩ (.int .i64 x7.t)).setCell ⟨m78, 2, none⟩ (.slice x7.a x7.L.length x7.c)) x7.v x7.L from Sr.chg2 s81 FF.out.2.2 n11_81 n12_81)
                        have F11 := hid (show (((((x81.setCell ⟨m59, 0, none⟩ (.int .i64 (most : Nat))).setCell ⟨m59, 1, none⟩ (.slice a7 Z.length c7)).setCell ⟨m78, 0, none⟩ (.int .i64 x7.f)).setCell ⟨m78, 1, none⟩ (.int .i64 x7.t)).setCell ⟨m78, 2, none⟩ (.slice x7.a x7.L.length x7.c)).heap[m59]? = some (.cells #[.int .i64 (most : Nat), .slice a7 Z.length c7] 46 (0, 0)) from FF.out.1)
                        have F12 := hid (show (((((x81.setCell ⟨m59, 0, none⟩ (.int .i64 (most : Nat))).setCell ⟨m59, 1, none⟩ (.slice a7 Z.length c7)).setCell ⟨m78, 0, none⟩ (.int .i64 x7.f)).setCell ⟨m78, 1, none⟩ (.int .i64 x7.t)).setCell ⟨m78, 2, none⟩ (.slice x7.a x7.L.length x7.c)).heap[m78]? = some (.cells #[.int .i64 x7.f, .int .i64 x7.t, .slice x7.a x7.L.length x7.c] 48 (0, 0)) from FF.out.2.1)
                        have UZ := hid (show Old w6 (((((x81.setCell ⟨m59, 0, none⟩ (.int .i64 (most : Nat))).setCell ⟨m59, 1, none⟩ (.slice a7 Z.length c7)).setCell ⟨m78, 0, none⟩ (.int .i64 x7.f)).setCell ⟨m78, 1, none⟩ (.int .i64 x7.t)).setCell ⟨m78, 2, none⟩ (.slice x7.a x7.L.length x7.c)) from U87)
                        clear FF Nm11 Nm12 n11_81 n12_81 q86 d81 s81 U87
                        generalize (((((x81.setCell ⟨m59, 0, none⟩ (.int .i64 (most : Nat))).setCell ⟨m59, 1, none⟩ (.slice a7 Z.length c7)).setCell ⟨m78, 0, none⟩ (.int .i64 x7.f)).setCell ⟨m78, 1, none⟩ (.int .i64 x7.t)).setCell ⟨m78, 2, none⟩ (.slice x7.a x7.L.length x7.c)) = w7 at *
                        generalize m59 = b11 at *
                        generalize m78 = b12 at *
                        have N7 := hid (N6.out.old UZ.out)
                        have HBm7 := hid (UZ.out.block HBm6.out)
                        have HB97 := hid (UZ.out.block HB9.out)
                        have O7 := hid (O6.out.old UZ.out)
                        clear N6 HBm6 HB9 O6 D6 HBo6 HPS HOf HDc UZ
                        obtain ⟨xf7, xt7, xa7, xc7, xL7⟩ := x7
                        obtain ⟨e1, e2, e3⟩ : xf7 = xf ∧ xt7 = xt ∧ xL7 = xL := by
                          have h := HX7.out
                          unfold Lt.p at h
                          simp only [Prod.mk.injEq] at h
                          exact h
                        clear HX7
                        subst e1 e2 e3
                        dsimp only at S7 F12
                        unfold Lt.v at S7
                        dsimp only at S7
                        obtain ⟨r0, r1, -, -⟩ := box2 F11.out
                        obtain ⟨s0, s1, sf0, sf1⟩ := box2 HBm7.out
                        go_upto_region 12 with (fail)
                        have M8 := hid (PA.set (cs := #[]) (most := most) N7.out HBm7.out HNw.out D7.out HZ7.out)
                        have ne12 : b12 ≠ bm := fun e => by have h1 := F12.out; rw [e, HBm7.out] at h1; simp at h1
                        have ne9 : b9 ≠ bm := fun e => by have h1 := HB97.out; rw [e, HBm7.out] at h1; simp at h1
                        have G12 := hid (set_other (v := .slice a7 Z.length c7) (i := 1) (set_other (v := .int .i64 (most : Nat)) (i := 0) F12.out ne12) ne12)
                        have G9 := hid (set_other (v := .slice a7 Z.length c7) (i := 1) (set_other (v := .int .i64 (most : Nat)) (i := 0) HB97.out ne9) ne9)
                        have O8 := hid (O7.out.chg (chg2 w7 bm (.int .i64 (most : Nat)) (.slice a7 Z.length c7)) (O7.out.offT HBm7.out (by decide)))
                        have S8 := hid (S7.out.chgT (chg2 w7 bm (.int .i64 (most : Nat)) (.slice a7 Z.length c7)) HBm7.out)
                        clear r0 r1 s0 s1 sf0 sf1 F11 F12 HBm7 HB97 O7 N7 S7 D7 ne12 ne9
                        generalize (w7.setCell ⟨bm, 0, none⟩ (.int .i64 (most : Nat))).setCell ⟨bm, 1, none⟩ (.slice a7 Z.length c7) = w8 at *
                        have HS8 := hid (show (fun wz => (wz.cell? ⟨b9, 0, none⟩ = some (.int .i64 xf7) ∧ wz.cell? ⟨b9, 1, none⟩ = some (.int .i64 xt7) ∧ wz.cell? ⟨b9, 2, none⟩ = some (.slice a5 xL7.length c5)) ∧ (wz.cell? ⟨b12, 0, none⟩ = some (.int .i64 xf7) ∧ wz.cell? ⟨b12, 1, none⟩ = some (.int .i64 xt7) ∧ wz.cell? ⟨b12, 2, none⟩ = some (.slice xa7 xL7.length xc7)) ∧ wz.cell? ⟨bm, 1, none⟩ = some (.slice a7 Z.length c7)) w8 from ⟨⟨(box3 G9.out).1, (box3 G9.out).2.1, (box3 G9.out).2.2.1⟩, ⟨(box3 G12.out).1, (box3 G12.out).2.1, (box3 G12.out).2.2.1⟩, (box2 M8.out.box).2.1⟩)
                        dsimp only at HS8
                        have HOf8 := hid (fun (W : World) (u : Old w8 W) => rof_any xf7 xt7 a5 xL7.length c5 W)
                        have HSm8 := hid (fun (W : World) (u : Old w8 W) => rsame_any xf7 xt7 a5 xa7 c5 xc7 xL7 W ((O8.out.old u).row) ((S8.out.old u).row (M8.out.net.base.trans u)))
                        have HLn8 := hid (show ∀ W, Old w8 W → Calls Try.prog 11 #[.pointer (some ⟨nb, 0, none⟩)] W fun e w' => e = .returned (.int .i64 (Z.length : Nat)) ∧ Old W w' from fun W u => (lenN w W nb most P5 [] (M8.out.net.old u)).mono fun e w' q => ⟨by rw [q.1, ← HZ7.out, List.length_map], by rw [q.2]; exact Old.refl _⟩)
                        clear G12 G9 O8 S8
                        cases b5
                        case false =>
                          refine wp_region_noPanic ?_
                          refine wp_region_held_drew (S := fun wz => (wz.cell? ⟨b9, 0, none⟩ = some (.int .i64 xf7) ∧ wz.cell? ⟨b9, 1, none⟩ = some (.int .i64 xt7) ∧ wz.cell? ⟨b9, 2, none⟩ = some (.slice a5 xL7.length c5)) ∧ (wz.cell? ⟨b12, 0, none⟩ = some (.int .i64 xf7) ∧ wz.cell? ⟨b12, 1, none⟩ = some (.int .i64 xt7) ∧ wz.cell? ⟨b12, 2, none⟩ = some (.slice xa7 xL7.length xc7)) ∧ wz.cell? ⟨bm, 1, none⟩ = some (.slice a7 Z.length c7)) (by kernel_rfl) ?_ (fun hHeld => ?_)
                          · exact T7.old ((Old.refl _).drew) HS8.out
                          (try simp only [Act.put]); (try simp only [List.setIfInBounds_toArray]); (try simp only [List.set_cons_succ]); (try simp only [List.set_cons_zero])
                          clear hHeld
                          refine wpAnyH_take (i := 0) (oi := { dst := some 66, op := Op.move (Operand.tmp 10), type := 4, pos := "law.go:63", after := #[], guard := none }) (v := ?vk405) rfl (by kernel_rfl) (by kernel_rfl) (by kernel_rfl) (fun _ _ _ h => h) (Or.inl ⟨by rfl, ?hk405⟩) (T7.old ((Old.refl w8).drew) HS8.out) ?rk405
                          case hk405 => (intro wz hSw; (try dsimp only at hSw); go_simp; try with_reducible rfl)
                          (try simp only [Act.put]); (try simp only [List.setIfInBounds_toArray]); (try simp only [List.set_cons_succ]); (try simp only [List.set_cons_zero])
                          refine wpAnyH_take (i := 1) (oi := { dst := some 67, op := Op.move (Operand.tmp 13), type := 4, pos := "law.go:63", after := #[], guard := none }) (v := ?vk406) rfl (by kernel_rfl) (by kernel_rfl) (by kernel_rfl) (fun _ _ _ h => h) (Or.inl ⟨by rfl, ?hk406⟩) (T7.old ((Old.refl w8).drew) HS8.out) ?rk406
                          case hk406 => (intro wz hSw; (try dsimp only at hSw); go_simp; try with_reducible rfl)
                          (try simp only [Act.put]); (try simp only [List.setIfInBounds_toArray]); (try simp only [List.set_cons_succ]); (try simp only [List.set_cons_zero])
                          refine wpAnyH_take (i := 2) (oi := { dst := some 68, op := Op.binOp BinOp.neq 4 (Operand.tmp 66) (Operand.tmp 67) 4, type := 4, pos := "law.go:63", after := #[{ on := 0, ground := Ground.data }, { on := 1, ground := Ground.data }], guard := none }) (v := ?vk407) rfl (by kernel_rfl) (by kernel_rfl) (by kernel_rfl) (fun _ _ _ h => h) (Or.inl ⟨by rfl, ?hk407⟩) (T7.old ((Old.refl w8).drew) HS8.out) ?rk407
                          case hk407 => (intro wz hSw; (try dsimp only at hSw); go_simp; try with_reducible rfl)
                          (try simp only [Act.put]); (try simp only [List.setIfInBounds_toArray]); (try simp only [List.set_cons_succ]); (try simp only [List.set_cons_zero])
                          refine wpAnyH_take (i := 3) (oi := { dst := some 69, op := Op.move (Operand.tmp 68), type := 4, pos := "law.go:63", after := #[{ on := 2, ground := Ground.data }], guard := none }) (v := ?vk408) rfl (by kernel_rfl) (by kernel_rfl) (by kernel_rfl) (fun _ _ _ h => h) (Or.inl ⟨by rfl, ?hk408⟩) (T7.old ((Old.refl w8).drew) HS8.out) ?rk408
                          case hk408 => (intro wz hSw; (try dsimp only at hSw); go_simp; try with_reducible rfl)
                          (try simp only [Act.put]); (try simp only [List.setIfInBounds_toArray]); (try simp only [List.set_cons_succ]); (try simp only [List.set_cons_zero])
                          refine wpAnyH_take (i := 4) (oi := { dst := some 70, op := Op.load 30 (Operand.tmp 9), type := 30, pos := "law.go:63", after := #[{ on := 3, ground := Ground.guard }], guard := some (3, false) }) (v := ?vk409) rfl (by kernel_rfl) (by kernel_rfl) (by kernel_rfl) (fun _ _ _ h => h) (Or.inl ⟨by rfl, ?hk409⟩) (T7.old ((Old.refl w8).drew) HS8.out) ?rk409
                          case hk409 => (intro wz hSw; (try dsimp only at hSw); go_simp; try with_reducible rfl)
                          (try simp only [Act.put]); (try simp only [List.setIfInBounds_toArray]); (try simp only [List.set_cons_succ]); (try simp only [List.set_cons_zero])
                          refine wpAnyH_take (i := 6) (oi := { dst := some 72, op := Op.load 48 (Operand.tmp 12), type := 48, pos := "law.go:63", after := #[{ on := 3, ground := Ground.guard }], guard := some (3, false) }) (v := ?vk410) rfl (by kernel_rfl) (by kernel_rfl) (by kernel_rfl) (fun _ _ _ h => h) (Or.inl ⟨by rfl, ?hk410⟩) (T7.old ((Old.refl w8).drew) HS8.out) ?rk410
                          case hk410 => (intro wz hSw; (try dsimp only at hSw); go_simp; try with_reducible rfl)
                          (try simp only [Act.put]); (try simp only [List.setIfInBounds_toArray]); (try simp only [List.set_cons_succ]); (try simp only [List.set_cons_zero])
                          refine wpAnyH_ready (rs := [5]) (by kernel_rfl) (by simp) ?_
                          refine AllReadyH.cons (o := { dst := some 71, op := Op.call { callee := Callee.value (Operand.func 17), args := #[Operand.tmp 70], argTypes := #[30] }, type := 48, pos := "law.go:63", after := #[{ on := 4, ground := Ground.data }, { on := 3, ground := Ground.chain }, { on := 3, ground := Ground.guard }], guard := some (3, false) }) rfl (fun K hK => ?_) AllReadyH.nil
                          refine wantCall1 ?_ 17 (.tmp 70) #[30] ?_ (.agg #[.int .i64 xf7, .int .i64 xt7, .slice a5 xL7.length c5]) ?_ ?_ ((enters_of Try.func17 (by kernel_rfl) rfl) _ _) ?_
                          · rfl
                          · rfl
                          · rfl
                          · rfl
                          refine (HOf8.out _ ((Old.refl w8).drew)).mono ?_
                          rintro o x411 ⟨rfl, b411⟩
                          refine ⟨_, rfl, ?_⟩
                          have U411 := ((Old.refl w8).drew).trans b411
                          refine hK.out _ _ (T7.old U411 HS8.out) (fun _ => ?_)
                          clear hK K
                          (try simp only [Act.put]); (try simp only [List.setIfInBounds_toArray]); (try simp only [List.set_cons_succ]); (try simp only [List.set_cons_zero])
                          refine wpAnyH_ready (rs := [7]) (by kernel_rfl) (by simp) ?_
                          refine AllReadyH.cons (o := { dst := some 73, op := Op.call { callee := Callee.value (Operand.func 18), args := #[Operand.tmp 71, Operand.tmp 72], argTypes := #[48, 48] }, type := 4, pos := "law.go:63", after := #[{ on := 5, ground := Ground.data }, { on := 6, ground := Ground.data }, { on := 5, ground := Ground.chain }, { on := 3, ground := Ground.guard }], guard := some (3, false) }) rfl (fun K hK => ?_) AllReadyH.nil
                          refine wantCall2 ?_ 18 (.tmp 71) (.tmp 72) #[48, 48] ?_ (.agg #[.int .i64 xf7, .int .i64 xt7, .slice a5 xL7.length c5]) (.agg #[.int .i64 xf7, .int .i64 xt7, .slice xa7 xL7.length xc7]) ?_ ?_ ?_ ((enters_of Try.func18 (by kernel_rfl) rfl) _ _) ?_
                          · rfl
                          · rfl
                          · rfl
                          · rfl
                          · rfl
                          refine (HSm8.out _ U411).mono ?_
                          rintro o x412 ⟨rfl, b412⟩
                          refine ⟨_, rfl, ?_⟩
                          have U412 := U411.trans b412
                          refine hK.out _ _ (T7.old U412 HS8.out) (fun _ => ?_)
                          clear hK K
                          (try simp only [Act.put]); (try simp only [List.setIfInBounds_toArray]); (try simp only [List.set_cons_succ]); (try simp only [List.set_cons_zero])
                          refine wpAnyH_take (i := 8) (oi := { dst := some 74, op := Op.unOp UnOp.not 4 (Operand.tmp 73), type := 4, pos := "law.go:63", after := #[{ on := 7, ground := Ground.data }, { on := 3, ground := Ground.guard }], guard := some (3, false) }) (v := ?vk413) rfl (by kernel_rfl) (by kernel_rfl) (by kernel_rfl) (fun _ _ _ h => h) (Or.inl ⟨by rfl, ?hk413⟩) (T7.old U412 HS8.out) ?rk413
                          case hk413 => (intro wz hSw; (try dsimp only at hSw); go_simp; try with_reducible rfl)
                          (try simp only [Act.put]); (try simp only [List.setIfInBounds_toArray]); (try simp only [List.set_cons_succ]); (try simp only [List.set_cons_zero])
                          refine wpAnyH_take (i := 9) (oi := { dst := some 75, op := Op.pick (Operand.tmp 69) (Operand.const (Value.bool true)) (Operand.tmp 74), type := 4, pos := "law.go:63", after := #[{ on := 3, ground := Ground.data }, { on := 8, ground := Ground.data }], guard := none }) (v := ?vk414) rfl (by kernel_rfl) (by kernel_rfl) (by kernel_rfl) (fun _ _ _ h => h) (Or.inl ⟨by rfl, ?hk414⟩) (T7.old U412 HS8.out) ?rk414
                          case hk414 => (intro wz hSw; (try dsimp only at hSw); go_simp; try with_reducible rfl)
                          (try simp only [Act.put]); (try simp only [List.setIfInBounds_toArray]); (try simp only [List.set_cons_succ]); (try simp only [List.set_cons_zero])
                          refine wpAnyH_take (i := 10) (oi := { dst := some 76, op := Op.move (Operand.tmp 75), type := 4, pos := "law.go:63", after := #[{ on := 9, ground := Ground.data }, { on := 7, ground := Ground.chain }], guard := none }) (v := ?vk415) rfl (by kernel_rfl) (by kernel_rfl) (by kernel_rfl) (fun _ _ _ h => h) (Or.inl ⟨by rfl, ?hk415⟩) (T7.old U412 HS8.out) ?rk415
                          case hk415 => (intro wz hSw; (try dsimp only at hSw); go_simp; try with_reducible rfl)
                          (try simp only [Act.put]); (try simp only [List.setIfInBounds_toArray]); (try simp only [List.set_cons_succ]); (try simp only [List.set_cons_zero])
                          refine wpAnyH_take (i := 11) (oi := { dst := some 77, op := Op.move (Operand.tmp 5), type := 23, pos := "law.go:63", after := #[{ on := 10, ground := Ground.guard }], guard := some (10, false) }) (v := ?vk416) rfl (by kernel_rfl) (by kernel_rfl) (by kernel_rfl) (fun _ _ _ h => h) (Or.inl ⟨by rfl, ?hk416⟩) (T7.old U412 HS8.out) ?rk416
                          case hk416 => (intro wz hSw; (try dsimp only at hSw); go_simp; try with_reducible rfl)
                          (try simp only [Act.put]); (try simp only [List.setIfInBounds_toArray]); (try simp only [List.set_cons_succ]); (try simp only [List.set_cons_zero])
                          refine wpAnyH_take (i := 13) (oi := { dst := some 79, op := Op.fieldAddr 46 (Operand.tmp 6) 1, type := 0, pos := "law.go:63", after := #[{ on := 10, ground := Ground.guard }], guard := some (10, false) }) (v := ?vk417) rfl (by kernel_rfl) (by kernel_rfl) (by kernel_rfl) (fun _ _ _ h => h) (Or.inl ⟨by rfl, ?hk417⟩) (T7.old U412 HS8.out) ?rk417
                          case hk417 => (intro wz hSw; (try dsimp only at hSw); go_simp; try with_reducible rfl)
                          (try simp only [Act.put]); (try simp only [List.setIfInBounds_toArray]); (try simp only [List.set_cons_succ]); (try simp only [List.set_cons_zero])
                          refine wpAnyH_take (i := 14) (oi := { dst := some 80, op := Op.load 44 (Operand.tmp 79), type := 44, pos := "law.go:63", after := #[{ on := 13, ground := Ground.data }, { on := 10, ground := Ground.guard }], guard := some (10, false) }) (v := ?vk418) rfl (by kernel_rfl) (by kernel_rfl) (by kernel_rfl) (fun _ _ _ h => h) (Or.inl ⟨by rfl, ?hk418⟩) (T7.old U412 HS8.out) ?rk418
                          case hk418 => (intro wz hSw; (try dsimp only at hSw); go_simp; try with_reducible rfl)
                          (try simp only [Act.put]); (try simp only [List.setIfInBounds_toArray]); (try simp only [List.set_cons_succ]); (try simp only [List.set_cons_zero])
                          refine wpAnyH_take (i := 15) (oi := { dst := some 81, op := Op.call { callee := Callee.builtin Builtin.len, args := #[Operand.tmp 80], argTypes := #[44] }, type := 3, pos := "law.go:63", after := #[{ on := 14, ground := Ground.data }, { on := 10, ground := Ground.guard }], guard := some (10, false) }) (v := ?vk419) rfl (by kernel_rfl) (by kernel_rfl) (by kernel_rfl) (fun _ _ _ h => h) (Or.inl ⟨by rfl, ?hk419⟩) (T7.old U412 HS8.out) ?rk419
                          case hk419 => (intro wz hSw; (try dsimp only at hSw); go_simp; try with_reducible rfl)
                          (try simp only [Act.put]); (try simp only [List.setIfInBounds_toArray]); (try simp only [List.set_cons_succ]); (try simp only [List.set_cons_zero])
                          refine wpAnyH_ready (rs := [12]) (by kernel_rfl) (by simp) ?_
                          refine AllReadyH.cons (o := { dst := some 78, op := Op.call { callee := Callee.value (Operand.func 11), args := #[Operand.tmp 77], argTypes := #[23] }, type := 3, pos := "law.go:63", after := #[{ on := 11, ground := Ground.data }, { on := 10, ground := Ground.chain }, { on := 10, ground := Ground.guard }], guard := some (10, false) }) rfl (fun K hK => ?_) AllReadyH.nil
                          refine wantCall1 ?_ 11 (.tmp 77) #[23] ?_ (.pointer (some ⟨nb, 0, none⟩)) ?_ ?_ ((enters_of Try.func11 (by kernel_rfl) rfl) _ _) ?_
                          · rfl
                          · rfl
                          · rfl
                          · rfl
                          refine (HLn8.out _ U412).mono ?_
                          rintro o x420 ⟨rfl, b420⟩
                          refine ⟨_, rfl, ?_⟩
                          have U420 := U412.trans b420
                          refine hK.out _ _ (T7.old U420 HS8.out) (fun _ => ?_)
                          clear hK K
                          (try simp only [Act.put]); (try simp only [List.setIfInBounds_toArray]); (try simp only [List.set_cons_succ]); (try simp only [List.set_cons_zero])
                          refine wpAnyH_take (i := 16) (oi := { dst := some 82, op := Op.binOp BinOp.neq 3 (Operand.tmp 78) (Operand.tmp 81) 3, type := 4, pos := "law.go:63", after := #[{ on := 12, ground := Ground.data }, { on := 15, ground := Ground.data }, { on := 10, ground := Ground.guard }], guard := some (10, false) }) (v := ?vk421) rfl (by kernel_rfl) (by kernel_rfl) (by kernel_rfl) (fun _ _ _ h => h) (Or.inl ⟨by rfl, ?hk421⟩) (T7.old U420 HS8.out) ?rk421
                          case hk421 => (intro wz hSw; (try dsimp only at hSw); go_simp; try with_reducible rfl)
                          (try simp only [Act.put]); (try simp only [List.setIfInBounds_toArray]); (try simp only [List.set_cons_succ]); (try simp only [List.set_cons_zero])
                          refine wpAnyH_take (i := 17) (oi := { dst := some 83, op := Op.pick (Operand.tmp 76) (Operand.const (Value.bool true)) (Operand.tmp 82), type := 4, pos := "law.go:63", after := #[{ on := 10, ground := Ground.data }, { on := 16, ground := Ground.data }], guard := none }) (v := ?vk422) rfl (by kernel_rfl) (by kernel_rfl) (by kernel_rfl) (fun _ _ _ h => h) (Or.inl ⟨by rfl, ?hk422⟩) (T7.old U420 HS8.out) ?rk422
                          case hk422 => (intro wz hSw; (try dsimp only at hSw); go_simp; try with_reducible rfl)
                          (try simp only [Act.put]); (try simp only [List.setIfInBounds_toArray]); (try simp only [List.set_cons_succ]); (try simp only [List.set_cons_zero])
                          refine wpAnyH_done (by kernel_rfl) ?_ _
                          refine NoPanic.normal ?_
                          have UY := hid U420
                          go_wp2
                          go_roundw
                          case rel => exact ⟨i + 1, a7, c7, Z, P5, hlt, by go_num, M8.out.old UY.out⟩
                          case measure => simp [intOf]; omega
                        case true =>
                          refine wp_region_noPanic ?_
                          refine wp_region_held_drew (S := fun wz => (wz.cell? ⟨b9, 0, none⟩ = some (.int .i64 xf7) ∧ wz.cell? ⟨b9, 1, none⟩ = some (.int .i64 xt7) ∧ wz.cell? ⟨b9, 2, none⟩ = some (.slice a5 xL7.length c5)) ∧ (wz.cell? ⟨b12, 0, none⟩ = some (.int .i64 xf7) ∧ wz.cell? ⟨b12, 1, none⟩ = some (.int .i64 xt7) ∧ wz.cell? ⟨b12, 2, none⟩ = some (.slice xa7 xL7.length xc7)) ∧ wz.cell? ⟨bm, 1, none⟩ = some (.slice a7 Z.length c7)) (by kernel_rfl) ?_ (fun hHeld => ?_)
                          · exact T7.old ((Old.refl _).drew) HS8.out
                          (try simp only [Act.put]); (try simp only [List.setIfInBounds_toArray]); (try simp only [List.set_cons_succ]); (try simp only [List.set_cons_zero])
                          clear hHeld
                          refine wpAnyH_take (i := 0) (oi := { dst := some 66, op := Op.move (Operand.tmp 10), type := 4, pos := "law.go:63", after := #[], guard := none }) (v := ?vk423) rfl (by kernel_rfl) (by kernel_rfl) (by kernel_rfl) (fun _ _ _ h => h) (Or.inl ⟨by rfl, ?hk423⟩) (T7.old ((Old.refl w8).drew) HS8.out) ?rk423
                          case hk423 => (intro wz hSw; (try dsimp only at hSw); go_simp; try with_reducible rfl)
                          (try simp only [Act.put]); (try simp only [List.setIfInBounds_toArray]); (try simp only [List.set_cons_succ]); (try simp only [List.set_cons_zero])
                          refine wpAnyH_take (i := 1) (oi := { dst := some 67, op := Op.move (Operand.tmp 13), type := 4, pos := "law.go:63", after := #[], guard := none }) (v := ?vk424) rfl (by kernel_rfl) (by kernel_rfl) (by kernel_rfl) (fun _ _ _ h => h) (Or.inl ⟨by rfl, ?hk424⟩) (T7.old ((Old.refl w8).drew) HS8.out) ?rk424
                          case hk424 => (intro wz hSw; (try dsimp only at hSw); go_simp; try with_reducible rfl)
                          (try simp only [Act.put]); (try simp only [List.setIfInBounds_toArray]); (try simp only [List.set_cons_succ]); (try simp only [List.set_cons_zero])
                          refine wpAnyH_take (i := 2) (oi := { dst := some 68, op := Op.binOp BinOp.neq 4 (Operand.tmp 66) (Operand.tmp 67) 4, type := 4, pos := "law.go:63", after := #[{ on := 0, ground := Ground.data }, { on := 1, ground := Ground.data }], guard := none }) (v := ?vk425) rfl (by kernel_rfl) (by kernel_rfl) (by kernel_rfl) (fun _ _ _ h => h) (Or.inl ⟨by rfl, ?hk425⟩) (T7.old ((Old.refl w8).drew) HS8.out) ?rk425
                          case hk425 => (intro wz hSw; (try dsimp only at hSw); go_simp; try with_reducible rfl)
                          (try simp only [Act.put]); (try simp only [List.setIfInBounds_toArray]); (try simp only [List.set_cons_succ]); (try simp only [List.set_cons_zero])
                          refine wpAnyH_take (i := 3) (oi := { dst := some 69, op := Op.move (Operand.tmp 68), type := 4, pos := "law.go:63", after := #[{ on := 2, ground := Ground.data }], guard := none }) (v := ?vk426) rfl (by kernel_rfl) (by kernel_rfl) (by kernel_rfl) (fun _ _ _ h => h) (Or.inl ⟨by rfl, ?hk426⟩) (T7.old ((Old.refl w8).drew) HS8.out) ?rk426
                          case hk426 => (intro wz hSw; (try dsimp only at hSw); go_simp; try with_reducible rfl)
                          (try simp only [Act.put]); (try simp only [List.setIfInBounds_toArray]); (try simp only [List.set_cons_succ]); (try simp only [List.set_cons_zero])
                          refine wpAnyH_take (i := 4) (oi := { dst := some 70, op := Op.load 30 (Operand.tmp 9), type := 30, pos := "law.go:63", after := #[{ on := 3, ground := Ground.guard }], guard := some (3, false) }) (v := ?vk427) rfl (by kernel_rfl) (by kernel_rfl) (by kernel_rfl) (fun _ _ _ h => h) (Or.inl ⟨by rfl, ?hk427⟩) (T7.old ((Old.refl w8).drew) HS8.out) ?rk427
                          case hk427 => (intro wz hSw; (try dsimp only at hSw); go_simp; try with_reducible rfl)
                          (try simp only [Act.put]); (try simp only [List.setIfInBounds_toArray]); (try simp only [List.set_cons_succ]); (try simp only [List.set_cons_zero])
                          refine wpAnyH_take (i := 6) (oi := { dst := some 72, op := Op.load 48 (Operand.tmp 12), type := 48, pos := "law.go:63", after := #[{ on := 3, ground := Ground.guard }], guard := some (3, false) }) (v := ?vk428) rfl (by kernel_rfl) (by kernel_rfl) (by kernel_rfl) (fun _ _ _ h => h) (Or.inl ⟨by rfl, ?hk428⟩) (T7.old ((Old.refl w8).drew) HS8.out) ?rk428
                          case hk428 => (intro wz hSw; (try dsimp only at hSw); go_simp; try with_reducible rfl)
                          (try simp only [Act.put]); (try simp only [List.setIfInBounds_toArray]); (try simp only [List.set_cons_succ]); (try simp only [List.set_cons_zero])
                          refine wpAnyH_ready (rs := [5]) (by kernel_rfl) (by simp) ?_
                          refine AllReadyH.cons (o := { dst := some 71, op := Op.call { callee := Callee.value (Operand.func 17), args := #[Operand.tmp 70], argTypes := #[30] }, type := 48, pos := "law.go:63", after := #[{ on := 4, ground := Ground.data }, { on := 3, ground := Ground.chain }, { on := 3, ground := Ground.guard }], guard := some (3, false) }) rfl (fun K hK => ?_) AllReadyH.nil
                          refine wantCall1 ?_ 17 (.tmp 70) #[30] ?_ (.agg #[.int .i64 xf7, .int .i64 xt7, .slice a5 xL7.length c5]) ?_ ?_ ((enters_of Try.func17 (by kernel_rfl) rfl) _ _) ?_
                          · rfl
                          · rfl
                          · rfl
                          · rfl
                          refine (HOf8.out _ ((Old.refl w8).drew)).mono ?_
                          rintro o x429 ⟨rfl, b429⟩
                          refine ⟨_, rfl, ?_⟩
                          have U429 := ((Old.refl w8).drew).trans b429
                          refine hK.out _ _ (T7.old U429 HS8.out) (fun _ => ?_)
                          clear hK K
                          (try simp only [Act.put]); (try simp only [List.setIfInBounds_toArray]); (try simp only [List.set_cons_succ]); (try simp only [List.set_cons_zero])
                          refine wpAnyH_ready (rs := [7]) (by kernel_rfl) (by simp) ?_
                          refine AllReadyH.cons (o := { dst := some 73, op := Op.call { callee := Callee.value (Operand.func 18), args := #[Operand.tmp 71, Operand.tmp 72], argTypes := #[48, 48] }, type := 4, pos := "law.go:63", after := #[{ on := 5, ground := Ground.data }, { on := 6, ground := Ground.data }, { on := 5, ground := Ground.chain }, { on := 3, ground := Ground.guard }], guard := some (3, false) }) rfl (fun K hK => ?_) AllReadyH.nil
                          refine wantCall2 ?_ 18 (.tmp 71) (.tmp 72) #[48, 48] ?_ (.agg #[.int .i64 xf7, .int .i64 xt7, .slice a5 xL7.length c5]) (.agg #[.int .i64 xf7, .int .i64 xt7, .slice xa7 xL7.length xc7]) ?_ ?_ ?_ ((enters_of Try.func18 (by kernel_rfl) rfl) _ _) ?_
                          · rfl
                          · rfl
                          · rfl
                          · rfl
                          · rfl
                          refine (HSm8.out _ U429).mono ?_
                          rintro o x430 ⟨rfl, b430⟩
                          refine ⟨_, rfl, ?_⟩
                          have U430 := U429.trans b430
                          refine hK.out _ _ (T7.old U430 HS8.out) (fun _ => ?_)
                          clear hK K
                          (try simp only [Act.put]); (try simp only [List.setIfInBounds_toArray]); (try simp only [List.set_cons_succ]); (try simp only [List.set_cons_zero])
                          refine wpAnyH_take (i := 8) (oi := { dst := some 74, op := Op.unOp UnOp.not 4 (Operand.tmp 73), type := 4, pos := "law.go:63", after := #[{ on := 7, ground := Ground.data }, { on := 3, ground := Ground.guard }], guard := some (3, false) }) (v := ?vk431) rfl (by kernel_rfl) (by kernel_rfl) (by kernel_rfl) (fun _ _ _ h => h) (Or.inl ⟨by rfl, ?hk431⟩) (T7.old U430 HS8.out) ?rk431
                          case hk431 => (intro wz hSw; (try dsimp only at hSw); go_simp; try with_reducible rfl)
                          (try simp only [Act.put]); (try simp only [List.setIfInBounds_toArray]); (try simp only [List.set_cons_succ]); (try simp only [List.set_cons_zero])
                          refine wpAnyH_take (i := 9) (oi := { dst := some 75, op := Op.pick (Operand.tmp 69) (Operand.const (Value.bool true)) (Operand.tmp 74), type := 4, pos := "law.go:63", after := #[{ on := 3, ground := Ground.data }, { on := 8, ground := Ground.data }], guard := none }) (v := ?vk432) rfl (by kernel_rfl) (by kernel_rfl) (by kernel_rfl) (fun _ _ _ h => h) (Or.inl ⟨by rfl, ?hk432⟩) (T7.old U430 HS8.out) ?rk432
                          case hk432 => (intro wz hSw; (try dsimp only at hSw); go_simp; try with_reducible rfl)
                          (try simp only [Act.put]); (try simp only [List.setIfInBounds_toArray]); (try simp only [List.set_cons_succ]); (try simp only [List.set_cons_zero])
                          refine wpAnyH_take (i := 10) (oi := { dst := some 76, op := Op.move (Operand.tmp 75), type := 4, pos := "law.go:63", after := #[{ on := 9, ground := Ground.data }, { on := 7, ground := Ground.chain }], guard := none }) (v := ?vk433) rfl (by kernel_rfl) (by kernel_rfl) (by kernel_rfl) (fun _ _ _ h => h) (Or.inl ⟨by rfl, ?hk433⟩) (T7.old U430 HS8.out) ?rk433
                          case hk433 => (intro wz hSw; (try dsimp only at hSw); go_simp; try with_reducible rfl)
                          (try simp only [Act.put]); (try simp only [List.setIfInBounds_toArray]); (try simp only [List.set_cons_succ]); (try simp only [List.set_cons_zero])
                          refine wpAnyH_take (i := 11) (oi := { dst := some 77, op := Op.move (Operand.tmp 5), type := 23, pos := "law.go:63", after := #[{ on := 10, ground := Ground.guard }], guard := some (10, false) }) (v := ?vk434) rfl (by kernel_rfl) (by kernel_rfl) (by kernel_rfl) (fun _ _ _ h => h) (Or.inl ⟨by rfl, ?hk434⟩) (T7.old U430 HS8.out) ?rk434
                          case hk434 => (intro wz hSw; (try dsimp only at hSw); go_simp; try with_reducible rfl)
                          (try simp only [Act.put]); (try simp only [List.setIfInBounds_toArray]); (try simp only [List.set_cons_succ]); (try simp only [List.set_cons_zero])
                          refine wpAnyH_take (i := 13) (oi := { dst := some 79, op := Op.fieldAddr 46 (Operand.tmp 6) 1, type := 0, pos := "law.go:63", after := #[{ on := 10, ground := Ground.guard }], guard := some (10, false) }) (v := ?vk435) rfl (by kernel_rfl) (by kernel_rfl) (by kernel_rfl) (fun _ _ _ h => h) (Or.inl ⟨by rfl, ?hk435⟩) (T7.old U430 HS8.out) ?rk435
                          case hk435 => (intro wz hSw; (try dsimp only at hSw); go_simp; try with_reducible rfl)
                          (try simp only [Act.put]); (try simp only [List.setIfInBounds_toArray]); (try simp only [List.set_cons_succ]); (try simp only [List.set_cons_zero])
                          refine wpAnyH_take (i := 14) (oi := { dst := some 80, op := Op.load 44 (Operand.tmp 79), type := 44, pos := "law.go:63", after := #[{ on := 13, ground := Ground.data }, { on := 10, ground := Ground.guard }], guard := some (10, false) }) (v := ?vk436) rfl (by kernel_rfl) (by kernel_rfl) (by kernel_rfl) (fun _ _ _ h => h) (Or.inl ⟨by rfl, ?hk436⟩) (T7.old U430 HS8.out) ?rk436
                          case hk436 => (intro wz hSw; (try dsimp only at hSw); go_simp; try with_reducible rfl)
                          (try simp only [Act.put]); (try simp only [List.setIfInBounds_toArray]); (try simp only [List.set_cons_succ]); (try simp only [List.set_cons_zero])
                          refine wpAnyH_take (i := 15) (oi := { dst := some 81, op := Op.call { callee := Callee.builtin Builtin.len, args := #[Operand.tmp 80], argTypes := #[44] }, type := 3, pos := "law.go:63", after := #[{ on := 14, ground := Ground.data }, { on := 10, ground := Ground.guard }], guard := some (10, false) }) (v := ?vk437) rfl (by kernel_rfl) (by kernel_rfl) (by kernel_rfl) (fun _ _ _ h => h) (Or.inl ⟨by rfl, ?hk437⟩) (T7.old U430 HS8.out) ?rk437
                          case hk437 => (intro wz hSw; (try dsimp only at hSw); go_simp; try with_reducible rfl)
                          (try simp only [Act.put]); (try simp only [List.setIfInBounds_toArray]); (try simp only [List.set_cons_succ]); (try simp only [List.set_cons_zero])
                          refine wpAnyH_ready (rs := [12]) (by kernel_rfl) (by simp) ?_
                          refine AllReadyH.cons (o := { dst := some 78, op := Op.call { callee := Callee.value (Operand.func 11), args := #[Operand.tmp 77], argTypes := #[23] }, type := 3, pos := "law.go:63", after := #[{ on := 11, ground := Ground.data }, { on := 10, ground := Ground.chain }, { on := 10, ground := Ground.guard }], guard := some (10, false) }) rfl (fun K hK => ?_) AllReadyH.nil
                          refine wantCall1 ?_ 11 (.tmp 77) #[23] ?_ (.pointer (some ⟨nb, 0, none⟩)) ?_ ?_ ((enters_of Try.func11 (by kernel_rfl) rfl) _ _) ?_
                          · rfl
                          · rfl
                          · rfl
                          · rfl
                          refine (HLn8.out _ U430).mono ?_
                          rintro o x438 ⟨rfl, b438⟩
                          refine ⟨_, rfl, ?_⟩
                          have U438 := U430.trans b438
                          refine hK.out _ _ (T7.old U438 HS8.out) (fun _ => ?_)
                          clear hK K
                          (try simp only [Act.put]); (try simp only [List.setIfInBounds_toArray]); (try simp only [List.set_cons_succ]); (try simp only [List.set_cons_zero])
                          refine wpAnyH_take (i := 16) (oi := { dst := some 82, op := Op.binOp BinOp.neq 3 (Operand.tmp 78) (Operand.tmp 81) 3, type := 4, pos := "law.go:63", after := #[{ on := 12, ground := Ground.data }, { on := 15, ground := Ground.data }, { on := 10, ground := Ground.guard }], guard := some (10, false) }) (v := ?vk439) rfl (by kernel_rfl) (by kernel_rfl) (by kernel_rfl) (fun _ _ _ h => h) (Or.inl ⟨by rfl, ?hk439⟩) (T7.old U438 HS8.out) ?rk439
                          case hk439 => (intro wz hSw; (try dsimp only at hSw); go_simp; try with_reducible rfl)
                          (try simp only [Act.put]); (try simp only [List.setIfInBounds_toArray]); (try simp only [List.set_cons_succ]); (try simp only [List.set_cons_zero])
                          refine wpAnyH_take (i := 17) (oi := { dst := some 83, op := Op.pick (Operand.tmp 76) (Operand.const (Value.bool true)) (Operand.tmp 82), type := 4, pos := "law.go:63", after := #[{ on := 10, ground := Ground.data }, { on := 16, ground := Ground.data }], guard := none }) (v := ?vk440) rfl (by kernel_rfl) (by kernel_rfl) (by kernel_rfl) (fun _ _ _ h => h) (Or.inl ⟨by rfl, ?hk440⟩) (T7.old U438 HS8.out) ?rk440
                          case hk440 => (intro wz hSw; (try dsimp only at hSw); go_simp; try with_reducible rfl)
                          (try simp only [Act.put]); (try simp only [List.setIfInBounds_toArray]); (try simp only [List.set_cons_succ]); (try simp only [List.set_cons_zero])
                          refine wpAnyH_done (by kernel_rfl) ?_ _
                          refine NoPanic.normal ?_
                          have UY := hid U438
                          go_wp2
                          go_roundw
                          case rel => exact ⟨i + 1, a7, c7, Z, P5, hlt, by go_num, M8.out.old UY.out⟩
                          case measure => simp [intOf]; omega
          · skip
            refine stepAllocR ?_ ?_ ?_
            · rfl
            · rfl
            intro m88 y88 hm88 hy88
            have nn88 : y88.heap[m88]? = some (.cells #[.int .i64 0, .int .i64 0, .slice none 0 0] 48 (0, 0)) := by rw [hy88, hm88]; exact alloc_at _ _
            have b88 : Old (w6.drew) y88 := by rw [hy88]; exact (Old.refl _).alloc _
            have Z88 : w6.heap.size ≤ m88 := by rw [hm88]; exact (((Old.refl w6).drew)).size
            clear hm88 hy88
            have U88 := (((Old.refl w6).drew)).trans b88
            refine hK.out _ _ (PS.old U88 HPS.out) (fun _ => ?_)
            clear hK K
            (try simp only [Act.put]); (try simp only [List.setIfInBounds_toArray]); (try simp only [List.set_cons_succ]); (try simp only [List.set_cons_zero])
            refine wpAnyH_ready (rs := [9, 16]) (by kernel_rfl) (by simp) ?_
            refine AllReadyH.cons (o := { dst := some 59, op := Op.call { callee := Callee.value (Operand.func 17), args := #[Operand.tmp 58], argTypes := #[30] }, type := 48, pos := "law.go:61", after := #[{ on := 8, ground := Ground.data }], guard := none }) rfl (fun K hK => ?_) (AllReadyH.cons (o := { dst := some 11, op := Op.alloc 46, type := 0, pos := "law.go:61", after := #[], guard := none }) rfl (fun K hK => ?_) AllReadyH.nil)
            · skip
              refine wantCall1 ?_ 17 (.tmp 58) #[30] ?_ (.agg #[.int .i64 of, .int .i64 ot, .slice pB oL.length cB]) ?_ ?_ ((enters_of Try.func17 (by kernel_rfl) rfl) _ _) ?_
              · rfl
              · rfl
              · rfl
              · rfl
              refine (HOf.out _).mono ?_
              rintro o x89 ⟨rfl, b89⟩
              refine ⟨_, rfl, ?_⟩
              have U89 := (U88).trans b89
              have n12_89 := (b89).block nn88
              refine hK.out _ _ (PS.old U89 HPS.out) (fun _ => ?_)
              clear hK K
              (try simp only [Act.put]); (try simp only [List.setIfInBounds_toArray]); (try simp only [List.set_cons_succ]); (try simp only [List.set_cons_zero])
              refine wpAnyH_take (i := 10) (oi := { dst := some 60, op := Op.build 53 #[(0, Operand.tmp 52), (1, Operand.tmp 54), (2, Operand.tmp 56), (3, Operand.tmp 59)], type := 53, pos := "law.go:61", after := #[{ on := 2, ground := Ground.data }, { on := 4, ground := Ground.data }, { on := 6, ground := Ground.data }, { on := 9, ground := Ground.data }], guard := none }) (v := ?vk90) rfl (by kernel_rfl) (by kernel_rfl) (by kernel_rfl) (fun _ _ _ h => h) (Or.inl ⟨by rfl, ?hk90⟩) (PS.old U89 HPS.out) ?rk90
              case hk90 => (intro wz hSw; (try dsimp only at hSw); go_simp; try with_reducible rfl)
              (try simp only [Act.put]); (try simp only [List.setIfInBounds_toArray]); (try simp only [List.set_cons_succ]); (try simp only [List.set_cons_zero])
              refine wpAnyH_ready (rs := [11, 16]) (by kernel_rfl) (by simp) ?_
              refine AllReadyH.cons (o := { dst := some 61, op := Op.call { callee := Callee.value (Operand.func 16), args := #[Operand.tmp 50, Operand.tmp 60], argTypes := #[46, 53] }, type := 49, pos := "law.go:61", after := #[{ on := 0, ground := Ground.data }, { on := 10, ground := Ground.data }, { on := 9, ground := Ground.chain }], guard := none }) rfl (fun K hK => ?_) (AllReadyH.cons (o := { dst := some 11, op := Op.alloc 46, type := 0, pos := "law.go:61", after := #[], guard := none }) rfl (fun K hK => ?_) AllReadyH.nil)
              · skip
                refine wantCall2 ?_ 16 (.tmp 50) (.tmp 60) #[46, 53] ?_ (.agg #[.int .i64 (most : Nat), .slice a Y.length cp]) (.agg #[.int .i64 ok, .int .i64 oi, .int .i64 om, .int .i64 of, .int .i64 ot, .slice pB oL.length cB]) ?_ ?_ ?_ ((enters_of Try.func16 (by kernel_rfl) rfl) _ _) ?_
                · rfl
                · rfl
                · rfl
                · rfl
                · rfl
                refine (HDc.out _ U89).mono ?_
                rintro o x91 ⟨a7, c7, Z, x7, rfl, d91, hZ91, hx91, s91, b91, nw91⟩
                refine ⟨_, rfl, ?_⟩
                have HZ7 := hid hZ91
                have HX7 := hid hx91
                have Nm12 := hid (show ∀ g, (Value.slice a7 Z.length c7).ownBlock = some g → g ≠ m88 from fun g e => by rcases nw91 g e with h | h; (have := (D6.out.row.lt g h).2; have := Z88; omega); (have := blk_lt n12_89; omega))
                clear hZ91 hx91 nw91
                have U91 := (U89).trans b91
                have n12_91 := (b91).block n12_89
                refine hK.out _ _ (PS.old U91 HPS.out) (fun _ => ?_)
                clear hK K
                (try simp only [Act.put]); (try simp only [List.setIfInBounds_toArray]); (try simp only [List.set_cons_succ]); (try simp only [List.set_cons_zero])
                refine wpAnyH_take (i := 12) (oi := { dst := some 49, op := Op.move (Operand.tmp 61), type := 49, pos := "law.go:61", after := #[{ on := 11, ground := Ground.data }], guard := none }) (v := ?vk92) rfl (by kernel_rfl) (by kernel_rfl) (by kernel_rfl) (fun _ _ _ h => h) (Or.inl ⟨by rfl, ?hk92⟩) (PS.old U91 HPS.out) ?rk92
                case hk92 => (intro wz hSw; (try dsimp only at hSw); go_simp; try with_reducible rfl)
                (try simp only [Act.put]); (try simp only [List.setIfInBounds_toArray]); (try simp only [List.set_cons_succ]); (try simp only [List.set_cons_zero])
                refine wpAnyH_take (i := 13) (oi := { dst := some 62, op := Op.extract (Operand.tmp 49) 0, type := 46, pos := "law.go:61", after := #[{ on := 12, ground := Ground.data }], guard := none }) (v := ?vk93) rfl (by kernel_rfl) (by kernel_rfl) (by kernel_rfl) (fun _ _ _ h => h) (Or.inl ⟨by rfl, ?hk93⟩) (PS.old U91 HPS.out) ?rk93
                case hk93 => (intro wz hSw; (try dsimp only at hSw); go_simp; try with_reducible rfl)
                (try simp only [Act.put]); (try simp only [List.setIfInBounds_toArray]); (try simp only [List.set_cons_succ]); (try simp only [List.set_cons_zero])
                refine wpAnyH_take (i := 14) (oi := { dst := some 63, op := Op.extract (Operand.tmp 49) 1, type := 48, pos := "law.go:61", after := #[{ on := 12, ground := Ground.data }, { on := 18, ground := Ground.gcOnly Departure.lateStores }], guard := none }) (v := ?vk94) rfl (by kernel_rfl) (by kernel_rfl) (by kernel_rfl) (fun _ _ _ h => h) (Or.inl ⟨by rfl, ?hk94⟩) (PS.old U91 HPS.out) ?rk94
                case hk94 => (intro wz hSw; (try dsimp only at hSw); go_simp; try with_reducible rfl)
                (try simp only [Act.put]); (try simp only [List.setIfInBounds_toArray]); (try simp only [List.set_cons_succ]); (try simp only [List.set_cons_zero])
                refine wpAnyH_take (i := 15) (oi := { dst := some 64, op := Op.extract (Operand.tmp 49) 2, type := 4, pos := "law.go:61", after := #[{ on := 12, ground := Ground.data }, { on := 19, ground := Ground.gcOnly Departure.lateStores }], guard := none }) (v := ?vk95) rfl (by kernel_rfl) (by kernel_rfl) (by kernel_rfl) (fun _ _ _ h => h) (Or.inl ⟨by rfl, ?hk95⟩) (PS.old U91 HPS.out) ?rk95
                case hk95 => (intro wz hSw; (try dsimp only at hSw); go_simp; try with_reducible rfl)
                (try simp only [Act.put]); (try simp only [List.setIfInBounds_toArray]); (try simp only [List.set_cons_succ]); (try simp only [List.set_cons_zero])
                refine wpAnyH_ready (rs := [16]) (by kernel_rfl) (by simp) ?_
                refine AllReadyH.cons (o := { dst := some 11, op := Op.alloc 46, type := 0, pos := "law.go:61", after := #[], guard := none }) rfl (fun K hK => ?_) AllReadyH.nil
                · skip
                  refine stepAllocN ?_ ?_ ?_
                  · rfl
                  · rfl
                  intro m96 y96 hm96 hy96
                  have nn96 : y96.heap[m96]? = some (.cells #[.int .i64 0, .slice none 0 0] 46 (0, 0)) := by rw [hy96, hm96]; exact alloc_at _ _
                  have b96 : Old (x91) y96 := by rw [hy96]; exact (Old.refl _).alloc _
                  have Z96 : w6.heap.size ≤ m96 := by rw [hm96]; exact (U91).size
                  have Nm11 := hid (show ∀ g, (Value.slice a7 Z.length c7).ownBlock = some g → g ≠ m96 from fun g e => by have := ((d91).row.lt g e).2; omega)
                  clear hm96 hy96
                  have U96 := (U91).trans b96
                  have n12_96 := (b96).block n12_91
                  have dz96 := DocAt.old d91 b96
                  have sx96 := Sr.old s91 b96
                  refine hK.out _ _ (PS.old U96 HPS.out) (fun _ => ?_)
                  clear hK K
                  (try simp only [Act.put]); (try simp only [List.setIfInBounds_toArray]); (try simp only [List.set_cons_succ]); (try simp only [List.set_cons_zero])
                  refine wpAnyH_ready (rs := [18]) (by kernel_rfl) (by simp) ?_
                  refine AllReadyH.cons (o := { dst := none, op := Op.store 46 (Operand.tmp 11) (Operand.tmp 62), type := 0, pos := "law.go:61", after := #[{ on := 16, ground := Ground.data }, { on := 13, ground := Ground.data }, { on := 11, ground := Ground.chain }, { on := 0, ground := Ground.phase }, { on := 1, ground := Ground.phase }, { on := 2, ground := Ground.phase }, { on := 3, ground := Ground.phase }, { on := 4, ground := Ground.phase }, { on := 5, ground := Ground.phase }, { on := 6, ground := Ground.phase }, { on := 7, ground := Ground.phase }, { on := 8, ground := Ground.phase }, { on := 9, ground := Ground.phase }, { on := 10, ground := Ground.phase }, { on := 11, ground := Ground.phase }, { on := 12, ground := Ground.phase }, { on := 13, ground := Ground.phase }, { on := 14, ground := Ground.textOnly Departure.lateStores }, { on := 15, ground := Ground.textOnly Departure.lateStores }, { on := 16, ground := Ground.phase }, { on := 17, ground := Ground.phase }], guard := none }) rfl (fun K hK => ?_) AllReadyH.nil
                  · skip
                    refine stepStoreN2 ?_ (.tmp 11) (.tmp 62) ?_ m96 (.int .i64 (most : Nat)) (.slice a7 Z.length c7) ?_ ?_ (there2 nn96) ⟨rfl, rfl⟩ ?_
                    · rfl
                    · rfl
                    · rfl
                    · rfl
                    have ne97 : m88 ≠ m96 := fun e => by have h1 := nn96; have h2 := n12_96; rw [e, h1] at h2; simp at h2
                    have q97 := set_other (v := .slice a7 Z.length c7) (i := 1) (set_other (v := .int .i64 (most : Nat)) (i := 0) n12_96 ne97) ne97
                    have U97 := ((U96).setCell (p := ⟨m96, 0, none⟩) Z96 (.int .i64 (most : Nat))).setCell (p := ⟨m96, 1, none⟩) Z96 (.slice a7 Z.length c7)
                    refine hK.out _ _ (PS.old U97 HPS.out) (fun _ => ?_)
                    clear hK K
                    (try simp only [Act.put]); (try simp only [List.setIfInBounds_toArray]); (try simp only [List.set_cons_succ]); (try simp only [List.set_cons_zero])
                    refine wpAnyH_ready (rs := [19]) (by kernel_rfl) (by simp) ?_
                    refine AllReadyH.cons (o := { dst := none, op := Op.store 48 (Operand.tmp 12) (Operand.tmp 63), type := 0, pos := "law.go:61", after := #[{ on := 17, ground := Ground.data }, { on := 14, ground := Ground.data }, { on := 18, ground := Ground.chain }, { on := 0, ground := Ground.phase }, { on := 1, ground := Ground.phase }, { on := 2, ground := Ground.phase }, { on := 3, ground := Ground.phase }, { on := 4, ground := Ground.phase }, { on := 5, ground := Ground.phase }, { on := 6, ground := Ground.phase }, { on := 7, ground := Ground.phase }, { on := 8, ground := Ground.phase }, { on := 9, ground := Ground.phase }, { on := 10, ground := Ground.phase }, { on := 11, ground := Ground.phase }, { on := 12, ground := Ground.phase }, { on := 13, ground := Ground.phase }, { on := 14, ground := Ground.phase }, { on := 15, ground := Ground.textOnly Departure.lateStores }, { on := 16, ground := Ground.phase }, { on := 17, ground := Ground.phase }, { on := 18, ground := Ground.phase }], guard := none }) rfl (fun K hK => ?_) AllReadyH.nil
                    · skip
                      refine stepStoreR3 ?_ (.tmp 12) (.tmp 63) ?_ m88 (.int .i64 x7.f) (.int .i64 x7.t) (.slice x7.a x7.L.length x7.c) ?_ ?_ (there3 q97) ⟨rfl, rfl, rfl⟩ ?_
                      · rfl
                      · rfl
                      · rfl
                      · rfl
                      have U98 := (((U97).setCell (p := ⟨m88, 0, none⟩) Z88 (.int .i64 x7.f)).setCell (p := ⟨m88, 1, none⟩) Z88 (.int .i64 x7.t)).setCell (p := ⟨m88, 2, none⟩) Z88 (.slice x7.a x7.L.length x7.c)
                      refine hK.out _ _ (PS.old U98 HPS.out) (fun _ => ?_)
                      clear hK K
                      (try simp only [Act.put]); (try simp only [List.setIfInBounds_toArray]); (try simp only [List.set_cons_succ]); (try simp only [List.set_cons_zero])
                      refine wpAnyH_ready (rs := [20]) (by kernel_rfl) (by simp) ?_
                      refine AllReadyH.cons (o := { dst := some 13, op := Op.assign (Operand.tmp 64), type := 4, pos := "law.go:61", after := #[{ on := 15, ground := Ground.data }, { on := 19, ground := Ground.chain }, { on := 0, ground := Ground.phase }, { on := 1, ground := Ground.phase }, { on := 2, ground := Ground.phase }, { on := 3, ground := Ground.phase }, { on := 4, ground := Ground.phase }, { on := 5, ground := Ground.phase }, { on := 6, ground := Ground.phase }, { on := 7, ground := Ground.phase }, { on := 8, ground := Ground.phase }, { on := 9, ground := Ground.phase }, { on := 10, ground := Ground.phase }, { on := 11, ground := Ground.phase }, { on := 12, ground := Ground.phase }, { on := 13, ground := Ground.phase }, { on := 14, ground := Ground.phase }, { on := 15, ground := Ground.phase }, { on := 16, ground := Ground.phase }, { on := 17, ground := Ground.phase }, { on := 18, ground := Ground.phase }, { on := 19, ground := Ground.phase }], guard := none }) rfl (fun K hK => ?_) AllReadyH.nil
                      · skip
                        go_simp
                        refine hK.out _ _ (PS.old U98 HPS.out) (fun _ => ?_)
                        clear hK K
                        (try simp only [Act.put]); (try simp only [List.setIfInBounds_toArray]); (try simp only [List.set_cons_succ]); (try simp only [List.set_cons_zero])
                        refine wpAnyH_done (by kernel_rfl) ?_ _
                        refine NoPanic.normal ?_
                        have FF := hid (rfin (p := .int .i64 (most : Nat)) (q := .slice a7 Z.length c7) (x := .int .i64 x7.f) (y := .int .i64 x7.t) (z := .slice x7.a x7.L.length x7.c) nn96 n12_96)
                        have D7 := hid (show DocAt w (((((y96.setCell ⟨m96, 0, none⟩ (.int .i64 (most : Nat))).setCell ⟨m96, 1, none⟩ (.slice a7 Z.length c7)).setCell ⟨m88, 0, none⟩ (.int .i64 x7.f)).setCell ⟨m88, 1, none⟩ (.int .i64 x7.t)).setCell ⟨m88, 2, none⟩ (.slice x7.a x7.L.length x7.c)) (.slice a7 Z.length c7) Z from DocAt.chg2 (B := 0) dz96 FF.out.2.2 nn96 n12_96 (fun g e => ⟨Nm11.out g e, Nm12.out g e⟩))
                        have S7 := hid (show Sr w (((((y96.setCell ⟨m96, 0, none⟩ (.int .i64 (most : Nat))).setCell ⟨m96, 1, none⟩ (.slice a7 Z.length c7)).setCell ⟨m88, 0, none⟩ (.int .i64 x7.f)).setCell ⟨m88, 1, none⟩ (.int .i64 x7.t)).setCell ⟨m88, 2, none⟩ (.slice x7.a x7.L.length x7.c)) x7.v x7.L from Sr.chg2 sx96 FF.out.2.2 nn96 n12_96)
                        have F11 := hid (show (((((y96.setCell ⟨m96, 0, none⟩ (.int .i64 (most : Nat))).setCell ⟨m96, 1, none⟩ (.slice a7 Z.length c7)).setCell ⟨m88, 0, none⟩ (.int .i64 x7.f)).setCell ⟨m88, 1, none⟩ (.int .i64 x7.t)).setCell ⟨m88, 2, none⟩ (.slice x7.a x7.L.length x7.c)).heap[m96]? = some (.cells #[.int .i64 (most : Nat), .slice a7 Z.length c7] 46 (0, 0)) from FF.out.1)
                        have F12 := hid (show (((((y96.setCell ⟨m96, 0, none⟩ (.int .i64 (most : Nat))).setCell ⟨m96, 1, none⟩ (.slice a7 Z.length c7)).setCell ⟨m88, 0, none⟩ (.int .i64 x7.f)).setCell ⟨m88, 1, none⟩ (.int .i64 x7.t)).setCell ⟨m88, 2, none⟩ (.slice x7.a x7.L.length x7.c)).heap[m88]? = some (.cells #[.int .i64 x7.f, .int .i64 x7.t, .slice x7.a x7.L.length x7.c] 48 (0, 0)) from FF.out.2.1)
                        have UZ := hid (show Old w6 (((((y96.setCell ⟨m96, 0, none⟩ (.int .i64 (most : Nat))).setCell ⟨m96, 1, none⟩ (.slice a7 Z.length c7)).setCell ⟨m88, 0, none⟩ (.int .i64 x7.f)).setCell ⟨m88, 1, none⟩ (.int .i64 x7.t)).setCell ⟨m88, 2, none⟩ (.slice x7.a x7.L.length x7.c)) from U98)
                        clear FF Nm11 Nm12 nn96 n12_96 q97 dz96 sx96 U98
                        generalize (((((y96.setCell ⟨m96, 0, none⟩ (.int .i64 (most : Nat))).setCell ⟨m96, 1, none⟩ (.slice a7 Z.length c7)).setCell ⟨m88, 0, none⟩ (.int .i64 x7.f)).setCell ⟨m88, 1, none⟩ (.int .i64 x7.t)).setCell ⟨m88, 2, none⟩ (.slice x7.a x7.L.length x7.c)) = w7 at *
                        generalize m96 = b11 at *
                        generalize m88 = b12 at *
                        have N7 := hid (N6.out.old UZ.out)
                        have HBm7 := hid (UZ.out.block HBm6.out)
                        have HB97 := hid (UZ.out.block HB9.out)
                        have O7 := hid (O6.out.old UZ.out)
                        clear N6 HBm6 HB9 O6 D6 HBo6 HPS HOf HDc UZ
                        obtain ⟨xf7, xt7, xa7, xc7, xL7⟩ := x7
                        obtain ⟨e1, e2, e3⟩ : xf7 = xf ∧ xt7 = xt ∧ xL7 = xL := by
                          have h := HX7.out
                          unfold Lt.p at h
                          simp only [Prod.mk.injEq] at h
                          exact h
                        clear HX7
                        subst e1 e2 e3
                        dsimp only at S7 F12
                        unfold Lt.v at S7
                        dsimp only at S7
                        obtain ⟨r0, r1, -, -⟩ := box2 F11.out
                        obtain ⟨s0, s1, sf0, sf1⟩ := box2 HBm7.out
                        go_upto_region 12 with (fail)
                        have M8 := hid (PA.set (cs := #[]) (most := most) N7.out HBm7.out HNw.out D7.out HZ7.out)
                        have ne12 : b12 ≠ bm := fun e => by have h1 := F12.out; rw [e, HBm7.out] at h1; simp at h1
                        have ne9 : b9 ≠ bm := fun e => by have h1 := HB97.out; rw [e, HBm7.out] at h1; simp at h1
                        have G12 := hid (set_other (v := .slice a7 Z.length c7) (i := 1) (set_other (v := .int .i64 (most : Nat)) (i := 0) F12.out ne12) ne12)
                        have G9 := hid (set_other (v := .slice a7 Z.length c7) (i := 1) (set_other (v := .int .i64 (most : Nat)) (i := 0) HB97.out ne9) ne9)
                        have O8 := hid (O7.out.chg (chg2 w7 bm (.int .i64 (most : Nat)) (.slice a7 Z.length c7)) (O7.out.offT HBm7.out (by decide)))
                        have S8 := hid (S7.out.chgT (chg2 w7 bm (.int .i64 (most : Nat)) (.slice a7 Z.length c7)) HBm7.out)
                        clear r0 r1 s0 s1 sf0 sf1 F11 F12 HBm7 HB97 O7 N7 S7 D7 ne12 ne9
                        generalize (w7.setCell ⟨bm, 0, none⟩ (.int .i64 (most : Nat))).setCell ⟨bm, 1, none⟩ (.slice a7 Z.length c7) = w8 at *
                        have HS8 := hid (show (fun wz => (wz.cell? ⟨b9, 0, none⟩ = some (.int .i64 xf7) ∧ wz.cell? ⟨b9, 1, none⟩ = some (.int .i64 xt7) ∧ wz.cell? ⟨b9, 2, none⟩ = some (.slice a5 xL7.length c5)) ∧ (wz.cell? ⟨b12, 0, none⟩ = some (.int .i64 xf7) ∧ wz.cell? ⟨b12, 1, none⟩ = some (.int .i64 xt7) ∧ wz.cell? ⟨b12, 2, none⟩ = some (.slice xa7 xL7.length xc7)) ∧ wz.cell? ⟨bm, 1, none⟩ = some (.slice a7 Z.length c7)) w8 from ⟨⟨(box3 G9.out).1, (box3 G9.out).2.1, (box3 G9.out).2.2.1⟩, ⟨(box3 G12.out).1, (box3 G12.out).2.1, (box3 G12.out).2.2.1⟩, (box2 M8.out.box).2.1⟩)
                        dsimp only at HS8
                        have HOf8 := hid (fun (W : World) (u : Old w8 W) => rof_any xf7 xt7 a5 xL7.length c5 W)
                        have HSm8 := hid (fun (W : World) (u : Old w8 W) => rsame_any xf7 xt7 a5 xa7 c5 xc7 xL7 W ((O8.out.old u).row) ((S8.out.old u).row (M8.out.net.base.trans u)))
                        have HLn8 := hid (show ∀ W, Old w8 W → Calls Try.prog 11 #[.pointer (some ⟨nb, 0, none⟩)] W fun e w' => e = .returned (.int .i64 (Z.length : Nat)) ∧ Old W w' from fun W u => (lenN w W nb most P5 [] (M8.out.net.old u)).mono fun e w' q => ⟨by rw [q.1, ← HZ7.out, List.length_map], by rw [q.2]; exact Old.refl _⟩)
                        clear G12 G9 O8 S8
                        cases b5
                        case false =>
                          refine wp_region_noPanic ?_
                          refine wp_region_held_drew (S := fun wz => (wz.cell? ⟨b9, 0, none⟩ = some (.int .i64 xf7) ∧ wz.cell? ⟨b9, 1, none⟩ = some (.int .i64 xt7) ∧ wz.cell? ⟨b9, 2, none⟩ = some (.slice a5 xL7.length c5)) ∧ (wz.cell? ⟨b12, 0, none⟩ = some (.int .i64 xf7) ∧ wz.cell? ⟨b12, 1, none⟩ = some (.int .i64 xt7) ∧ wz.cell? ⟨b12, 2, none⟩ = some (.slice xa7 xL7.length xc7)) ∧ wz.cell? ⟨bm, 1, none⟩ = some (.slice a7 Z.length c7)) (by kernel_rfl) ?_ (fun hHeld => ?_)
                          · exact T7.old ((Old.refl _).drew) HS8.out
                          (try simp only [Act.put]); (try simp only [List.setIfInBounds_toArray]); (try simp only [List.set_cons_succ]); (try simp only [List.set_cons_zero])
                          clear hHeld
                          refine wpAnyH_take (i := 0) (oi := { dst := some 66, op := Op.move (Operand.tmp 10), type := 4, pos := "law.go:63", after := #[], guard := none }) (v := ?vk441) rfl (by kernel_rfl) (by kernel_rfl) (by kernel_rfl) (fun _ _ _ h => h) (Or.inl ⟨by rfl, ?hk441⟩) (T7.old ((Old.refl w8).drew) HS8.out) ?rk441
                          case hk441 => (intro wz hSw; (try dsimp only at hSw); go_simp; try with_reducible rfl)
                          (try simp only [Act.put]); (try simp only [List.setIfInBounds_toArray]); (try simp only [List.set_cons_succ]); (try simp only [List.set_cons_zero])
                          refine wpAnyH_take (i := 1) (oi := { dst := some 67, op := Op.move (Operand.tmp 13), type := 4, pos := "law.go:63", after := #[], guard := none }) (v := ?vk442) rfl (by kernel_rfl) (by kernel_rfl) (by kernel_rfl) (fun _ _ _ h => h) (Or.inl ⟨by rfl, ?hk442⟩) (T7.old ((Old.refl w8).drew) HS8.out) ?rk442
                          case hk442 => (intro wz hSw; (try dsimp only at hSw); go_simp; try with_reducible rfl)
                          (try simp only [Act.put]); (try simp only [List.setIfInBounds_toArray]); (try simp only [List.set_cons_succ]); (try simp only [List.set_cons_zero])
                          refine wpAnyH_take (i := 2) (oi := { dst := some 68, op := Op.binOp BinOp.neq 4 (Operand.tmp 66) (Operand.tmp 67) 4, type := 4, pos := "law.go:63", after := #[{ on := 0, ground := Ground.data }, { on := 1, ground := Ground.data }], guard := none }) (v := ?vk443) rfl (by kernel_rfl) (by kernel_rfl) (by kernel_rfl) (fun _ _ _ h => h) (Or.inl ⟨by rfl, ?hk443⟩) (T7.old ((Old.refl w8).drew) HS8.out) ?rk443
                          case hk443 => (intro wz hSw; (try dsimp only at hSw); go_simp; try with_reducible rfl)
                          (try simp only [Act.put]); (try simp only [List.setIfInBounds_toArray]); (try simp only [List.set_cons_succ]); (try simp only [List.set_cons_zero])
                          refine wpAnyH_take (i := 3) (oi := { dst := some 69, op := Op.move (Operand.tmp 68), type := 4, pos := "law.go:63", after := #[{ on := 2, ground := Ground.data }], guard := none }) (v := ?vk444) rfl (by kernel_rfl) (by kernel_rfl) (by kernel_rfl) (fun _ _ _ h => h) (Or.inl ⟨by rfl, ?hk444⟩) (T7.old ((Old.refl w8).drew) HS8.out) ?rk444
                          case hk444 => (intro wz hSw; (try dsimp only at hSw); go_simp; try with_reducible rfl)
                          (try simp only [Act.put]); (try simp only [List.setIfInBounds_toArray]); (try simp only [List.set_cons_succ]); (try simp only [List.set_cons_zero])
                          refine wpAnyH_take (i := 4) (oi := { dst := some 70, op := Op.load 30 (Operand.tmp 9), type := 30, pos := "law.go:63", after := #[{ on := 3, ground := Ground.guard }], guard := some (3, false) }) (v := ?vk445) rfl (by kernel_rfl) (by kernel_rfl) (by kernel_rfl) (fun _ _ _ h => h) (Or.inl ⟨by rfl, ?hk445⟩) (T7.old ((Old.refl w8).drew) HS8.out) ?rk445
                          case hk445 => (intro wz hSw; (try dsimp only at hSw); go_simp; try with_reducible rfl)
                          (try simp only [Act.put]); (try simp only [List.setIfInBounds_toArray]); (try simp only [List.set_cons_succ]); (try simp only [List.set_cons_zero])
                          refine wpAnyH_take (i := 6) (oi := { dst := some 72, op := Op.load 48 (Operand.tmp 12), type := 48, pos := "law.go:63", after := #[{ on := 3, ground := Ground.guard }], guard := some (3, false) }) (v := ?vk446) rfl (by kernel_rfl) (by kernel_rfl) (by kernel_rfl) (fun _ _ _ h => h) (Or.inl ⟨by rfl, ?hk446⟩) (T7.old ((Old.refl w8).drew) HS8.out) ?rk446
                          case hk446 => (intro wz hSw; (try dsimp only at hSw); go_simp; try with_reducible rfl)
                          (try simp only [Act.put]); (try simp only [List.setIfInBounds_toArray]); (try simp only [List.set_cons_succ]); (try simp only [List.set_cons_zero])
                          refine wpAnyH_ready (rs := [5]) (by kernel_rfl) (by simp) ?_
                          refine AllReadyH.cons (o := { dst := some 71, op := Op.call { callee := Callee.value (Operand.func 17), args := #[Operand.tmp 70], argTypes := #[30] }, type := 48, pos := "law.go:63", after := #[{ on := 4, ground := Ground.data }, { on := 3, ground := Ground.chain }, { on := 3, ground := Ground.guard }], guard := some (3, false) }) rfl (fun K hK => ?_) AllReadyH.nil
                          refine wantCall1 ?_ 17 (.tmp 70) #[30] ?_ (.agg #[.int .i64 xf7, .int .i64 xt7, .slice a5 xL7.length c5]) ?_ ?_ ((enters_of Try.func17 (by kernel_rfl) rfl) _ _) ?_
                          · rfl
                          · rfl
                          · rfl
                          · rfl
                          refine (HOf8.out _ ((Old.refl w8).drew)).mono ?_
                          rintro o x447 ⟨rfl, b447⟩
                          refine ⟨_, rfl, ?_⟩
                          have U447 := ((Old.refl w8).drew).trans b447
                          refine hK.out _ _ (T7.old U447 HS8.out) (fun _ => ?_)
                          clear hK K
                          (try simp only [Act.put]); (try simp only [List.setIfInBounds_toArray]); (try simp only [List.set_cons_succ]); (try simp only [List.set_cons_zero])
                          refine wpAnyH_ready (rs := [7]) (by kernel_rfl) (by simp) ?_
                          refine AllReadyH.cons (o := { dst := some 73, op := Op.call { callee := Callee.value (Operand.func 18), args := #[Operand.tmp 71, Operand.tmp 72], argTypes := #[48, 48] }, type := 4, pos := "law.go:63", after := #[{ on := 5, ground := Ground.data }, { on := 6, ground := Ground.data }, { on := 5, ground := Ground.chain }, { on := 3, ground := Ground.guard }], guard := some (3, false) }) rfl (fun K hK => ?_) AllReadyH.nil
                          refine wantCall2 ?_ 18 (.tmp 71) (.tmp 72) #[48, 48] ?_ (.agg #[.int .i64 xf7, .int .i64 xt7, .slice a5 xL7.length c5]) (.agg #[.int .i64 xf7, .int .i64 xt7, .slice xa7 xL7.length xc7]) ?_ ?_ ?_ ((enters_of Try.func18 (by kernel_rfl) rfl) _ _) ?_
                          · rfl
                          · rfl
                          · rfl
                          · rfl
                          · rfl
                          refine (HSm8.out _ U447).mono ?_
                          rintro o x448 ⟨rfl, b448⟩
                          refine ⟨_, rfl, ?_⟩
                          have U448 := U447.trans b448
                          refine hK.out _ _ (T7.old U448 HS8.out) (fun _ => ?_)
                          clear hK K
                          (try simp only [Act.put]); (try simp only [List.setIfInBounds_toArray]); (try simp only [List.set_cons_succ]); (try simp only [List.set_cons_zero])
                          refine wpAnyH_take (i := 8) (oi := { dst := some 74, op := Op.unOp UnOp.not 4 (Operand.tmp 73), type := 4, pos := "law.go:63", after := #[{ on := 7, ground := Ground.data }, { on := 3, ground := Ground.guard }], guard := some (3, false) }) (v := ?vk449) rfl (by kernel_rfl) (by kernel_rfl) (by kernel_rfl) (fun _ _ _ h => h) (Or.inl ⟨by rfl, ?hk449⟩) (T7.old U448 HS8.out) ?rk449
                          case hk449 => (intro wz hSw; (try dsimp only at hSw); go_simp; try with_reducible rfl)
                          (try simp only [Act.put]); (try simp only [List.setIfInBounds_toArray]); (try simp only [List.set_cons_succ]); (try simp only [List.set_cons_zero])
                          refine wpAnyH_take (i := 9) (oi := { dst := some 75, op := Op.pick (Operand.tmp 69) (Operand.const (Value.bool true)) (Operand.tmp 74), type := 4, pos := "law.go:63", after := #[{ on := 3, ground := Ground.data }, { on := 8, ground := Ground.data }], guard := none }) (v := ?vk450) rfl (by kernel_rfl) (by kernel_rfl) (by kernel_rfl) (fun _ _ _ h => h) (Or.inl ⟨by rfl, ?hk450⟩) (T7.old U448 HS8.out) ?rk450
                          case hk450 => (intro wz hSw; (try dsimp only at hSw); go_simp; try with_reducible rfl)
                          (try simp only [Act.put]); (try simp only [List.setIfInBounds_toArray]); (try simp only [List.set_cons_succ]); (try simp only [List.set_cons_zero])
                          refine wpAnyH_take (i := 10) (oi := { dst := some 76, op := Op.move (Operand.tmp 75), type := 4, pos := "law.go:63", after := #[{ on := 9, ground := Ground.data }, { on := 7, ground := Ground.chain }], guard := none }) (v := ?vk451) rfl (by kernel_rfl) (by kernel_rfl) (by kernel_rfl) (fun _ _ _ h => h) (Or.inl ⟨by rfl, ?hk451⟩) (T7.old U448 HS8.out) ?rk451
                          case hk451 => (intro wz hSw; (try dsimp only at hSw); go_simp; try with_reducible rfl)
                          (try simp only [Act.put]); (try simp only [List.setIfInBounds_toArray]); (try simp only [List.set_cons_succ]); (try simp only [List.set_cons_zero])
                          refine wpAnyH_take (i := 11) (oi := { dst := some 77, op := Op.move (Operand.tmp 5), type := 23, pos := "law.go:63", after := #[{ on := 10, ground := Ground.guard }], guard := some (10, false) }) (v := ?vk452) rfl (by kernel_rfl) (by kernel_rfl) (by kernel_rfl) (fun _ _ _ h => h) (Or.inl ⟨by rfl, ?hk452⟩) (T7.old U448 HS8.out) ?rk452
                          case hk452 => (intro wz hSw; (try dsimp only at hSw); go_simp; try with_reducible rfl)
                          (try simp only [Act.put]); (try simp only [List.setIfInBounds_toArray]); (try simp only [List.set_cons_succ]); (try simp only [List.set_cons_zero])
                          refine wpAnyH_take (i := 13) (oi := { dst := some 79, op := Op.fieldAddr 46 (Operand.tmp 6) 1, type := 0, pos := "law.go:63", after := #[{ on := 10, ground := Ground.guard }], guard := some (10, false) }) (v := ?vk453) rfl (by kernel_rfl) (by kernel_rfl) (by kernel_rfl) (fun _ _ _ h => h) (Or.inl ⟨by rfl, ?hk453⟩) (T7.old U448 HS8.out) ?rk453
                          case hk453 => (intro wz hSw; (try dsimp only at hSw); go_simp; try with_reducible rfl)
                          (try simp only [Act.put]); (try simp only [List.setIfInBounds_toArray]); (try simp only [List.set_cons_succ]); (try simp only [List.set_cons_zero])
                          refine wpAnyH_take (i := 14) (oi := { dst := some 80, op := Op.load 44 (Operand.tmp 79), type := 44, pos := "law.go:63", after := #[{ on := 13, ground := Ground.data }, { on := 10, ground := Ground.guard }], guard := some (10, false) }) (v := ?vk454) rfl (by kernel_rfl) (by kernel_rfl) (by kernel_rfl) (fun _ _ _ h => h) (Or.inl ⟨by rfl, ?hk454⟩) (T7.old U448 HS8.out) ?rk454
                          case hk454 => (intro wz hSw; (try dsimp only at hSw); go_simp; try with_reducible rfl)
                          (try simp only [Act.put]); (try simp only [List.setIfInBounds_toArray]); (try simp only [List.set_cons_succ]); (try simp only [List.set_cons_zero])
                          refine wpAnyH_take (i := 15) (oi := { dst := some 81, op := Op.call { callee := Callee.builtin Builtin.len, args := #[Operand.tmp 80], argTypes := #[44] }, type := 3, pos := "law.go:63", after := #[{ on := 14, ground := Ground.data }, { on := 10, ground := Ground.guard }], guard := some (10, false) }) (v := ?vk455) rfl (by kernel_rfl) (by kernel_rfl) (by kernel_rfl) (fun _ _ _ h => h) (Or.inl ⟨by rfl, ?hk455⟩) (T7.old U448 HS8.out) ?rk455
                          case hk455 => (intro wz hSw; (try dsimp only at hSw); go_simp; try with_reducible rfl)
                          (try simp only [Act.put]); (try simp only [List.setIfInBounds_toArray]); (try simp only [List.set_cons_succ]); (try simp only [List.set_cons_zero])
                          refine wpAnyH_ready (rs := [12]) (by kernel_rfl) (by simp) ?_
                          refine AllReadyH.cons (o := { dst := some 78, op := Op.call { callee := Callee.value (Operand.func 11), args := #[Operand.tmp 77], argTypes := #[23] }, type := 3, pos := "law.go:63", after := #[{ on := 11, ground := Ground.data }, { on := 10, ground := Ground.chain }, { on := 10, ground := Ground.guard }], guard := some (10, false) }) rfl (fun K hK => ?_) AllReadyH.nil
                          refine wantCall1 ?_ 11 (.tmp 77) #[23] ?_ (.pointer (some ⟨nb, 0, none⟩)) ?_ ?_ ((enters_of Try.func11 (by kernel_rfl) rfl) _ _) ?_
                          · rfl
                          · rfl
                          · rfl
                          · rfl
                          refine (HLn8.out _ U448).mono ?_
                          rintro o x456 ⟨rfl, b456⟩
                          refine ⟨_, rfl, ?_⟩
                          have U456 := U448.trans b456
                          refine hK.out _ _ (T7.old U456 HS8.out) (fun _ => ?_)
                          clear hK K
                          (try simp only [Act.put]); (try simp only [List.setIfInBounds_toArray]); (try simp only [List.set_cons_succ]); (try simp only [List.set_cons_zero])
                          refine wpAnyH_take (i := 16) (oi := { dst := some 82, op := Op.binOp BinOp.neq 3 (Operand.tmp 78) (Operand.tmp 81) 3, type := 4, pos := "law.go:63", after := #[{ on := 12, ground := Ground.data }, { on := 15, ground := Ground.data }, { on := 10, ground := Ground.guard }], guard := some (10, false) }) (v := ?vk457) rfl (by kernel_rfl) (by kernel_rfl) (by kernel_rfl) (fun _ _ _ h => h) (Or.inl ⟨by rfl, ?hk457⟩) (T7.old U456 HS8.out) ?rk457
                          case hk457 => (intro wz hSw; (try dsimp only at hSw); go_simp; try with_reducible rfl)
                          (try simp only [Act.put]); (try simp only [List.setIfInBounds_toArray]); (try simp only [List.set_cons_succ]); (try simp only [List.set_cons_zero])
                          refine wpAnyH_take (i := 17) (oi := { dst := some 83, op := Op.pick (Operand.tmp 76) (Operand.const (Value.bool true)) (Operand.tmp 82), type := 4, pos := "law.go:63", after := #[{ on := 10, ground := Ground.data }, { on := 16, ground := Ground.data }], guard := none }) (v := ?vk458) rfl (by kernel_rfl) (by kernel_rfl) (by kernel_rfl) (fun _ _ _ h => h) (Or.inl ⟨by rfl, ?hk458⟩) (T7.old U456 HS8.out) ?rk458
                          case hk458 => (intro wz hSw; (try dsimp only at hSw); go_simp; try with_reducible rfl)
                          (try simp only [Act.put]); (try simp only [List.setIfInBounds_toArray]); (try simp only [List.set_cons_succ]); (try simp only [List.set_cons_zero])
                          refine wpAnyH_done (by kernel_rfl) ?_ _
                          refine NoPanic.normal ?_
                          have UY := hid U456
                          go_wp2
                          go_roundw
                          case rel => exact ⟨i + 1, a7, c7, Z, P5, hlt, by go_num, M8.out.old UY.out⟩
                          case measure => simp [intOf]; omega
                        case true =>
                          refine wp_region_noPanic ?_
                          refine wp_region_held_drew (S := fun wz => (wz.cell? ⟨b9, 0, none⟩ = some (.int .i64 xf7) ∧ wz.cell? ⟨b9, 1, none⟩ = some (.int .i64 xt7) ∧ wz.cell? ⟨b9, 2, none⟩ = some (.slice a5 xL7.length c5)) ∧ (wz.cell? ⟨b12, 0, none⟩ = some (.int .i64 xf7) ∧ wz.cell? ⟨b12, 1, none⟩ = some (.int .i64 xt7) ∧ wz.cell? ⟨b12, 2, none⟩ = some (.slice xa7 xL7.length xc7)) ∧ wz.cell? ⟨bm, 1, none⟩ = some (.slice a7 Z.length c7)) (by kernel_rfl) ?_ (fun hHeld => ?_)
                          · exact T7.old ((Old.refl _).drew) HS8.out
                          (try simp only [Act.put]); (try simp only [List.setIfInBounds_toArray]); (try simp only [List.set_cons_succ]); (try simp only [List.set_cons_zero])
                          clear hHeld
                          refine wpAnyH_take (i := 0) (oi := { dst := some 66, op := Op.move (Operand.tmp 10), type := 4, pos := "law.go:63", after := #[], guard := none }) (v := ?vk459) rfl (by kernel_rfl) (by kernel_rfl) (by kernel_rfl) (fun _ _ _ h => h) (Or.inl ⟨by rfl, ?hk459⟩) (T7.old ((Old.refl w8).drew) HS8.out) ?rk459
                          case hk459 => (intro wz hSw; (try dsimp only at hSw); go_simp; try with_reducible rfl)
                          (try simp only [Act.put]); (try simp only [List.setIfInBounds_toArray]); (try simp only [List.set_cons_succ]); (try simp only [List.set_cons_zero])
                          refine wpAnyH_take (i := 1) (oi := { dst := some 67, op := Op.move (Operand.tmp 13), type := 4, pos := "law.go:63", after := #[], guard := none }) (v := ?vk460) rfl (by kernel_rfl) (by kernel_rfl) (by kernel_rfl) (fun _ _ _ h => h) (Or.inl ⟨by rfl, ?hk460⟩) (T7.old ((Old.refl w8).drew) HS8.out) ?rk460
                          case hk460 => (intro wz hSw; (try dsimp only at hSw); go_simp; try with_reducible rfl)
                          (try simp only [Act.put]); (try simp only [List.setIfInBounds_toArray]); (try simp only [List.set_cons_succ]); (try simp only [List.set_cons_zero])
                          refine wpAnyH_take (i := 2) (oi := { dst := some 68, op := Op.binOp BinOp.neq 4 (Operand.tmp 66) (Operand.tmp 67) 4, type := 4, pos := "law.go:63", after := #[{ on := 0, ground := Ground.data }, { on := 1, ground := Ground.data }], guard := none }) (v := ?vk461) rfl (by kernel_rfl) (by kernel_rfl) (by kernel_rfl) (fun _ _ _ h => h) (Or.inl ⟨by rfl, ?hk461⟩) (T7.old ((Old.refl w8).drew) HS8.out) ?rk461
                          case hk461 => (intro wz hSw; (try dsimp only at hSw); go_simp; try with_reducible rfl)
                          (try simp only [Act.put]); (try simp only [List.setIfInBounds_toArray]); (try simp only [List.set_cons_succ]); (try simp only [List.set_cons_zero])
                          refine wpAnyH_take (i := 3) (oi := { dst := some 69, op := Op.move (Operand.tmp 68), type := 4, pos := "law.go:63", after := #[{ on := 2, ground := Ground.data }], guard := none }) (v := ?vk462) rfl (by kernel_rfl) (by kernel_rfl) (by kernel_rfl) (fun _ _ _ h => h) (Or.inl ⟨by rfl, ?hk462⟩) (T7.old ((Old.refl w8).drew) HS8.out) ?rk462
                          case hk462 => (intro wz hSw; (try dsimp only at hSw); go_simp; try with_reducible rfl)
                          (try simp only [Act.put]); (try simp only [List.setIfInBounds_toArray]); (try simp only [List.set_cons_succ]); (try simp only [List.set_cons_zero])
                          refine wpAnyH_take (i := 4) (oi := { dst := some 70, op := Op.load 30 (Operand.tmp 9), type := 30, pos := "law.go:63", after := #[{ on := 3, ground := Ground.guard }], guard := some (3, false) }) (v := ?vk463) rfl (by kernel_rfl) (by kernel_rfl) (by kernel_rfl) (fun _ _ _ h => h) (Or.inl ⟨by rfl, ?hk463⟩) (T7.old ((Old.refl w8).drew) HS8.out) ?rk463
                          case hk463 => (intro wz hSw; (try dsimp only at hSw); go_simp; try with_reducible rfl)
                          (try simp only [Act.put]); (try simp only [List.setIfInBounds_toArray]); (try simp only [List.set_cons_succ]); (try simp only [List.set_cons_zero])
                          refine wpAnyH_take (i := 6) (oi := { dst := some 72, op := Op.load 48 (Operand.tmp 12), type := 48, pos := "law.go:63", after := #[{ on := 3, ground := Ground.guard }], guard := some (3, false) }) (v := ?vk464) rfl (by kernel_rfl) (by kernel_rfl) (by kernel_rfl) (fun _ _ _ h => h) (Or.inl ⟨by rfl, ?hk464⟩) (T7.old ((Old.refl w8).drew) HS8.out) ?rk464
                          case hk464 => (intro wz hSw; (try dsimp only at hSw); go_simp; try with_reducible rfl)
                          (try simp only [Act.put]); (try simp only [List.setIfInBounds_toArray]); (try simp only [List.set_cons_succ]); (try simp only [List.set_cons_zero])
                          refine wpAnyH_ready (rs := [5]) (by kernel_rfl) (by simp) ?_
                          refine AllReadyH.cons (o := { dst := some 71, op := Op.call { callee := Callee.value (Operand.func 17), args := #[Operand.tmp 70], argTypes := #[30] }, type := 48, pos := "law.go:63", after := #[{ on := 4, ground := Ground.data }, { on := 3, ground := Ground.chain }, { on := 3, ground := Ground.guard }], guard := some (3, false) }) rfl (fun K hK => ?_) AllReadyH.nil
                          refine wantCall1 ?_ 17 (.tmp 70) #[30] ?_ (.agg #[.int .i64 xf7, .int .i64 xt7, .slice a5 xL7.length c5]) ?_ ?_ ((enters_of Try.func17 (by kernel_rfl) rfl) _ _) ?_
                          · rfl
                          · rfl
                          · rfl
                          · rfl
                          refine (HOf8.out _ ((Old.refl w8).drew)).mono ?_
                          rintro o x465 ⟨rfl, b465⟩
                          refine ⟨_, rfl, ?_⟩
                          have U465 := ((Old.refl w8).drew).trans b465
                          refine hK.out _ _ (T7.old U465 HS8.out) (fun _ => ?_)
                          clear hK K
                          (try simp only [Act.put]); (try simp only [List.setIfInBounds_toArray]); (try simp only [List.set_cons_succ]); (try simp only [List.set_cons_zero])
                          refine wpAnyH_ready (rs := [7]) (by kernel_rfl) (by simp) ?_
                          refine AllReadyH.cons (o := { dst := some 73, op := Op.call { callee := Callee.value (Operand.func 18), args := #[Operand.tmp 71, Operand.tmp 72], argTypes := #[48, 48] }, type := 4, pos := "law.go:63", after := #[{ on := 5, ground := Ground.data }, { on := 6, ground := Ground.data }, { on := 5, ground := Ground.chain }, { on := 3, ground := Ground.guard }], guard := some (3, false) }) rfl (fun K hK => ?_) AllReadyH.nil
                          refine wantCall2 ?_ 18 (.tmp 71) (.tmp 72) #[48, 48] ?_ (.agg #[.int .i64 xf7, .int .i64 xt7, .slice a5 xL7.length c5]) (.agg #[.int .i64 xf7, .int .i64 xt7, .slice xa7 xL7.length xc7]) ?_ ?_ ?_ ((enters_of Try.func18 (by kernel_rfl) rfl) _ _) ?_
                          · rfl
                          · rfl
                          · rfl
                          · rfl
                          · rfl
                          refine (HSm8.out _ U465).mono ?_
                          rintro o x466 ⟨rfl, b466⟩
                          refine ⟨_, rfl, ?_⟩
                          have U466 := U465.trans b466
                          refine hK.out _ _ (T7.old U466 HS8.out) (fun _ => ?_)
                          clear hK K
                          (try simp only [Act.put]); (try simp only [List.setIfInBounds_toArray]); (try simp only [List.set_cons_succ]); (try simp only [List.set_cons_zero])
                          refine wpAnyH_take (i := 8) (oi := { dst := some 74, op := Op.unOp UnOp.not 4 (Operand.tmp 73), type := 4, pos := "law.go:63", after := #[{ on := 7, ground := Ground.data }, { on := 3, ground := Ground.guard }], guard := some (3, false) }) (v := ?vk467) rfl (by kernel_rfl) (by kernel_rfl) (by kernel_rfl) (fun _ _ _ h => h) (Or.inl ⟨by rfl, ?hk467⟩) (T7.old U466 HS8.out) ?rk467
                          case hk467 => (intro wz hSw; (try dsimp only at hSw); go_simp; try with_reducible rfl)
                          (try simp only [Act.put]); (try simp only [List.setIfInBounds_toArray]); (try simp only [List.set_cons_succ]); (try simp only [List.set_cons_zero])
                          refine wpAnyH_take (i := 9) (oi := { dst := some 75, op := Op.pick (Operand.tmp 69) (Operand.const (Value.bool true)) (Operand.tmp 74), type := 4, pos := "law.go:63", after := #[{ on := 3, ground := Ground.data }, { on := 8, ground := Ground.data }], guard := none }) (v := ?vk468) rfl (by kernel_rfl) (by kernel_rfl) (by kernel_rfl) (fun _ _ _ h => h) (Or.inl ⟨by rfl, ?hk468⟩) (T7.old U466 HS8.out) ?rk468
                          case hk468 => (intro wz hSw; (try dsimp only at hSw); go_simp; try with_reducible rfl)
                          (try simp only [Act.put]); (try simp only [List.setIfInBounds_toArray]); (try simp only [List.set_cons_succ]); (try simp only [List.set_cons_zero])
                          refine wpAnyH_take (i := 10) (oi := { dst := some 76, op := Op.move (Operand.tmp 75), type := 4, pos := "law.go:63", after := #[{ on := 9, ground := Ground.data }, { on := 7, ground := Ground.chain }], guard := none }) (v := ?vk469) rfl (by kernel_rfl) (by kernel_rfl) (by kernel_rfl) (fun _ _ _ h => h) (Or.inl ⟨by rfl, ?hk469⟩) (T7.old U466 HS8.out) ?rk469
                          case hk469 => (intro wz hSw; (try dsimp only at hSw); go_simp; try with_reducible rfl)
                          (try simp only [Act.put]); (try simp only [List.setIfInBounds_toArray]); (try simp only [List.set_cons_succ]); (try simp only [List.set_cons_zero])
                          refine wpAnyH_take (i := 11) (oi := { dst := some 77, op := Op.move (Operand.tmp 5), type := 23, pos := "law.go:63", after := #[{ on := 10, ground := Ground.guard }], guard := some (10, false) }) (v := ?vk470) rfl (by kernel_rfl) (by kernel_rfl) (by kernel_rfl) (fun _ _ _ h => h) (Or.inl ⟨by rfl, ?hk470⟩) (T7.old U466 HS8.out) ?rk470
                          case hk470 => (intro wz hSw; (try dsimp only at hSw); go_simp; try with_reducible rfl)
                          (try simp only [Act.put]); (try simp only [List.setIfInBounds_toArray]); (try simp only [List.set_cons_succ]); (try simp only [List.set_cons_zero])
                          refine wpAnyH_take (i := 13) (oi := { dst := some 79, op := Op.fieldAddr 46 (Operand.tmp 6) 1, type := 0, pos := "law.go:63", after := #[{ on := 10, ground := Ground.guard }], guard := some (10, false) }) (v := ?vk471) rfl (by kernel_rfl) (by kernel_rfl) (by kernel_rfl) (fun _ _ _ h => h) (Or.inl ⟨by rfl, ?hk471⟩) (T7.old U466 HS8.out) ?rk471
                          case hk471 => (intro wz hSw; (try dsimp only at hSw); go_simp; try with_reducible rfl)
                          (try simp only [Act.put]); (try simp only [List.setIfInBounds_toArray]); (try simp only [List.set_cons_succ]); (try simp only [List.set_cons_zero])
                          refine wpAnyH_take (i := 14) (oi := { dst := some 80, op := Op.load 44 (Operand.tmp 79), type := 44, pos := "law.go:63", after := #[{ on := 13, ground := Ground.data }, { on := 10, ground := Ground.guard }], guard := some (10, false) }) (v := ?vk472) rfl (by kernel_rfl) (by kernel_rfl) (by kernel_rfl) (fun _ _ _ h => h) (Or.inl ⟨by rfl, ?hk472⟩) (T7.old U466 HS8.out) ?rk472
                          case hk472 => (intro wz hSw; (try dsimp only at hSw); go_simp; try with_reducible rfl)
                          (try simp only [Act.put]); (try simp only [List.setIfInBounds_toArray]); (try simp only [List.set_cons_succ]); (try simp only [List.set_cons_zero])
                          refine wpAnyH_take (i := 15) (oi := { dst := some 81, op := Op.call { callee := Callee.builtin Builtin.len, args := #[Operand.tmp 80], argTypes := #[44] }, type := 3, pos := "law.go:63", after := #[{ on := 14, ground := Ground.data }, { on := 10, ground := Ground.guard }], guard := some (10, false) }) (v := ?vk473) rfl (by kernel_rfl) (by kernel_rfl) (by kernel_rfl) (fun _ _ _ h => h) (Or.inl ⟨by rfl, ?hk473⟩) (T7.old U466 HS8.out) ?rk473
                          case hk473 => (intro wz hSw; (try dsimp only at hSw); go_simp; try with_reducible rfl)
                          (try simp only [Act.put]); (try simp only [List.setIfInBounds_toArray]); (try simp only [List.set_cons_succ]); (try simp only [List.set_cons_zero])
                          refine wpAnyH_ready (rs := [12]) (by kernel_rfl) (by simp) ?_
                          refine AllReadyH.cons (o := { dst := some 78, op := Op.call { callee := Callee.value (Operand.func 11), args := #[Operand.tmp 77], argTypes := #[23] }, type := 3, pos := "law.go:63", after := #[{ on := 11, ground := Ground.data }, { on := 10, ground := Ground.chain }, { on := 10, ground := Ground.guard }], guard := some (10, false) }) rfl (fun K hK => ?_) AllReadyH.nil
                          refine wantCall1 ?_ 11 (.tmp 77) #[23] ?_ (.pointer (some ⟨nb, 0, none⟩)) ?_ ?_ ((enters_of Try.func11 (by kernel_rfl) rfl) _ _) ?_
                          · rfl
                          · rfl
                          · rfl
                          · rfl
                          refine (HLn8.out _ U466).mono ?_
                          rintro o x474 ⟨rfl, b474⟩
                          refine ⟨_, rfl, ?_⟩
                          have U474 := U466.trans b474
                          refine hK.out _ _ (T7.old U474 HS8.out) (fun _ => ?_)
                          clear hK K
                          (try simp only [Act.put]); (try simp only [List.setIfInBounds_toArray]); (try simp only [List.set_cons_succ]); (try simp only [List.set_cons_zero])
                          refine wpAnyH_take (i := 16) (oi := { dst := some 82, op := Op.binOp BinOp.neq 3 (Operand.tmp 78) (Operand.tmp 81) 3, type := 4, pos := "law.go:63", after := #[{ on := 12, ground := Ground.data }, { on := 15, ground := Ground.data }, { on := 10, ground := Ground.guard }], guard := some (10, false) }) (v := ?vk475) rfl (by kernel_rfl) (by kernel_rfl) (by kernel_rfl) (fun _ _ _ h => h) (Or.inl ⟨by rfl, ?hk475⟩) (T7.old U474 HS8.out) ?rk475
                          case hk475 => (intro wz hSw; (try dsimp only at hSw); go_simp; try with_reducible rfl)
                          (try simp only [Act.put]); (try simp only [List.setIfInBounds_toArray]); (try simp only [List.set_cons_succ]); (try simp only [List.set_cons_zero])
                          refine wpAnyH_take (i := 17) (oi := { dst := some 83, op := Op.pick (Operand.tmp 76) (Operand.const (Value.bool true)) (Operand.tmp 82), type := 4, pos := "law.go:63", after := #[{ on := 10, ground := Ground.data }, { on := 16, ground := Ground.data }], guard := none }) (v := ?vk476) rfl (by kernel_rfl) (by kernel_rfl) (by kernel_rfl) (fun _ _ _ h => h) (Or.inl ⟨by rfl, ?hk476⟩) (T7.old U474 HS8.out) ?rk476
                          case hk476 => (intro wz hSw; (try dsimp only at hSw); go_simp; try with_reducible rfl)
                          (try simp only [Act.put]); (try simp only [List.setIfInBounds_toArray]); (try simp only [List.set_cons_succ]); (try simp only [List.set_cons_zero])
                          refine wpAnyH_done (by kernel_rfl) ?_ _
                          refine NoPanic.normal ?_
                          have UY := hid U474
                          go_wp2
                          go_roundw
                          case rel => exact ⟨i + 1, a7, c7, Z, P5, hlt, by go_num, M8.out.old UY.out⟩
                          case measure => simp [intOf]; omega
              · skip
                refine stepAllocN ?_ ?_ ?_
                · rfl
                · rfl
                intro m99 y99 hm99 hy99
                have nn99 : y99.heap[m99]? = some (.cells #[.int .i64 0, .slice none 0 0] 46 (0, 0)) := by rw [hy99, hm99]; exact alloc_at _ _
                have b99 : Old (x89) y99 := by rw [hy99]; exact (Old.refl _).alloc _
                have Z99 : w6.heap.size ≤ m99 := by rw [hm99]; exact (U89).size
                clear hm99 hy99
                have U99 := (U89).trans b99
                have n12_99 := (b99).block n12_89
                refine hK.out _ _ (PS.old U99 HPS.out) (fun _ => ?_)
                clear hK K
                (try simp only [Act.put]); (try simp only [List.setIfInBounds_toArray]); (try simp only [List.set_cons_succ]); (try simp only [List.set_cons_zero])
                refine wpAnyH_ready (rs := [11]) (by kernel_rfl) (by simp) ?_
                refine AllReadyH.cons (o := { dst := some 61, op := Op.call { callee := Callee.value (Operand.func 16), args := #[Operand.tmp 50, Operand.tmp 60], argTypes := #[46, 53] }, type := 49, pos := "law.go:61", after := #[{ on := 0, ground := Ground.data }, { on := 10, ground := Ground.data }, { on := 9, ground := Ground.chain }], guard := none }) rfl (fun K hK => ?_) AllReadyH.nil
                · skip
                  refine wantCall2 ?_ 16 (.tmp 50) (.tmp 60) #[46, 53] ?_ (.agg #[.int .i64 (most : Nat), .slice a Y.length cp]) (.agg #[.int .i64 ok, .int .i64 oi, .int .i64 om, .int .i64 of, .int .i64 ot, .slice pB oL.length cB]) ?_ ?_ ?_ ((enters_of Try.func16 (by kernel_rfl) rfl) _ _) ?_
                  · rfl
                  · rfl
                  · rfl
                  · rfl
                  · rfl
                  refine (HDc.out _ U99).mono ?_
                  rintro o x100 ⟨a7, c7, Z, x7, rfl, d100, hZ100, hx100, s100, b100, nw100⟩
                  refine ⟨_, rfl, ?_⟩
                  have HZ7 := hid hZ100
                  have HX7 := hid hx100
                  have Nm11 := hid (show ∀ g, (Value.slice a7 Z.length c7).ownBlock = some g → g ≠ m99 from fun g e => by rcases nw100 g e with h | h; (have := (D6.out.row.lt g h).2; have := Z99; omega); (have := blk_lt nn99; omega))
                  have Nm12 := hid (show ∀ g, (Value.slice a7 Z.length c7).ownBlock = some g → g ≠ m88 from fun g e => by rcases nw100 g e with h | h; (have := (D6.out.row.lt g h).2; have := Z88; omega); (have := blk_lt n12_99; omega))
                  clear hZ100 hx100 nw100
                  have U100 := (U99).trans b100
                  have n11_100 := (b100).block nn99
                  have n12_100 := (b100).block n12_99
                  refine hK.out _ _ (PS.old U100 HPS.out) (fun _ => ?_)
                  clear hK K
                  (try simp only [Act.put]); (try simp only [List.setIfInBounds_toArray]); (try simp only [List.set_cons_succ]); (try simp only [List.set_cons_zero])
                  refine wpAnyH_take (i := 12) (oi := { dst := some 49, op := Op.move (Operand.tmp 61), type := 49, pos := "law.go:61", after := #[{ on := 11, ground := Ground.data }], guard := none }) (v := ?vk101) rfl (by kernel_rfl) (by kernel_rfl) (by kernel_rfl) (fun _ _ _ h => h) (Or.inl ⟨by rfl, ?hk101⟩) (PS.old U100 HPS.out) ?rk101
                  case hk101 => (intro wz hSw; (try dsimp only at hSw); go_simp; try with_reducible rfl)
                  (try simp only [Act.put]); (try simp only [List.setIfInBounds_toArray]); (try simp only [List.set_cons_succ]); (try simp only [List.set_cons_zero])
                  refine wpAnyH_take (i := 13) (oi := { dst := some 62, op := Op.extract (Operand.tmp 49) 0, type := 46, pos := "law.go:61", after := #[{ on := 12, ground := Ground.data }], guard := none }) (v := ?vk102) rfl (by kernel_rfl) (by kernel_rfl) (by kernel_rfl) (fun _ _ _ h => h) (Or.inl ⟨by rfl, ?hk102⟩) (PS.old U100 HPS.out) ?rk102
                  case hk102 => (intro wz hSw; (try dsimp only at hSw); go_simp; try with_reducible rfl)
                  (try simp only [Act.put]); (try simp only [List.setIfInBounds_toArray]); (try simp only [List.set_cons_succ]); (try simp only [List.set_cons_zero])
                  refine wpAnyH_take (i := 14) (oi := { dst := some 63, op := Op.extract (Operand.tmp 49) 1, type := 48, pos := "law.go:61", after := #[{ on := 12, ground := Ground.data }, { on := 18, ground := Ground.gcOnly Departure.lateStores }], guard := none }) (v := ?vk103) rfl (by kernel_rfl) (by kernel_rfl) (by kernel_rfl) (fun _ _ _ h => h) (Or.inl ⟨by rfl, ?hk103⟩) (PS.old U100 HPS.out) ?rk103
                  case hk103 => (intro wz hSw; (try dsimp only at hSw); go_simp; try with_reducible rfl)
                  (try simp only [Act.put]); (try simp only [List.setIfInBounds_toArray]); (try simp only [List.set_cons_succ]); (try simp only [List.set_cons_zero])
                  refine wpAnyH_take (i := 15) (oi := { dst := some 64, op := Op.extract (Operand.tmp 49) 2, type := 4, pos := "law.go:61", after := #[{ on := 12, ground := Ground.data }, { on := 19, ground := Ground.gcOnly Departure.lateStores }], guard := none }) (v := ?vk104) rfl (by kernel_rfl) (by kernel_rfl) (by kernel_rfl) (fun _ _ _ h => h) (Or.inl ⟨by rfl, ?hk104⟩) (PS.old U100 HPS.out) ?rk104
                  case hk104 => (intro wz hSw; (try dsimp only at hSw); go_simp; try with_reducible rfl)
                  (try simp only [Act.put]); (try simp only [List.setIfInBounds_toArray]); (try simp only [List.set_cons_succ]); (try simp only [List.set_cons_zero])
                  refine wpAnyH_ready (rs := [18]) (by kernel_rfl) (by simp) ?_
                  refine AllReadyH.cons (o := { dst := none, op := Op.store 46 (Operand.tmp 11) (Operand.tmp 62), type := 0, pos := "law.go:61", after := #[{ on := 16, ground := Ground.data }, { on := 13, ground := Ground.data }, { on := 11, ground := Ground.chain }, { on := 0, ground := Ground.phase }, { on := 1, ground := Ground.phase }, { on := 2, ground := Ground.phase }, { on := 3, ground := Ground.phase }, { on := 4, ground := Ground.phase }, { on := 5, ground := Ground.phase }, { on := 6, ground := Ground.phase }, { on := 7, ground := Ground.phase }, { on := 8, ground := Ground.phase }, { on := 9, ground := Ground.phase }, { on := 10, ground := Ground.phase }, { on := 11, ground := Ground.phase }, { on := 12, ground := Ground.phase }, { on := 13, ground := Ground.phase }, { on := 14, ground := Ground.textOnly Departure.lateStores }, { on := 15, ground := Ground.textOnly Departure.lateStores }, { on := 16, ground := Ground.phase }, { on := 17, ground := Ground.phase }], guard := none }) rfl (fun K hK => ?_) AllReadyH.nil
                  · skip
                    refine stepStoreN2 ?_ (.tmp 11) (.tmp 62) ?_ m99 (.int .i64 (most : Nat)) (.slice a7 Z.length c7) ?_ ?_ (there2 n11_100) ⟨rfl, rfl⟩ ?_
                    · rfl
                    · rfl
                    · rfl
                    · rfl
                    have ne105 : m88 ≠ m99 := fun e => by have h1 := n11_100; have h2 := n12_100; rw [e, h1] at h2; simp at h2
                    have q105 := set_other (v := .slice a7 Z.length c7) (i := 1) (set_other (v := .int .i64 (most : Nat)) (i := 0) n12_100 ne105) ne105
                    have U105 := ((U100).setCell (p := ⟨m99, 0, none⟩) Z99 (.int .i64 (most : Nat))).setCell (p := ⟨m99, 1, none⟩) Z99 (.slice a7 Z.length c7)
                    refine hK.out _ _ (PS.old U105 HPS.out) (fun _ => ?_)
                    clear hK K
                    (try simp only [Act.put]); (try simp only [List.setIfInBounds_toArray]); (try simp only [List.set_cons_succ]); (try simp only [List.set_cons_zero])
                    refine wpAnyH_ready (rs := [19]) (by kernel_rfl) (by simp) ?_
                    refine AllReadyH.cons (o := { dst := none, op := Op.store 48 (Operand.tmp 12) (Operand.tmp 63), type := 0, pos := "law.go:61", after := #[{ on := 17, ground := Ground.data }, { on := 14, ground := Ground.data }, { on := 18, ground := Ground.chain }, { on := 0, ground := Ground.phase }, { on := 1, ground := Ground.phase }, { on := 2, ground := Ground.phase }, { on := 3, ground := Ground.phase }, { on := 4, ground := Ground.phase }, { on := 5, ground := Ground.phase }, { on := 6, ground := Ground.phase }, { on := 7, ground := Ground.phase }, { on := 8, ground := Ground.phase }, { on := 9, ground := Ground.phase }, { on := 10, ground := Ground.phase }, { on := 11, ground := Ground.phase }, { on := 12, ground := Ground.phase }, { on := 13, ground := Ground.phase }, { on := 14, ground := Ground.phase }, { on := 15, ground := Ground.textOnly Departure.lateStores }, { on := 16, ground := Ground.phase }, { on := 17, ground := Ground.phase }, { on := 18, ground := Ground.phase }], guard := none }) rfl (fun K hK => ?_) AllReadyH.nil
                    · skip
                      refine stepStoreR3 ?_ (.tmp 12) (.tmp 63) ?_ m88 (.int .i64 x7.f) (.int .i64 x7.t) (.slice x7.a x7.L.length x7.c) ?_ ?_ (there3 q105) ⟨rfl, rfl, rfl⟩ ?_
                      · rfl
                      · rfl
                      · rfl
                      · rfl
                      have U106 := (((U105).setCell (p := ⟨m88, 0, none⟩) Z88 (.int .i64 x7.f)).setCell (p := ⟨m88, 1, none⟩) Z88 (.int .i64 x7.t)).setCell (p := ⟨m88, 2, none⟩) Z88 (.slice x7.a x7.L.length x7.c)
                      refine hK.out _ _ (PS.old U106 HPS.out) (fun _ => ?_)
                      clear hK K
                      (try simp only [Act.put]); (try simp only [List.setIfInBounds_toArray]); (try simp only [List.set_cons_succ]); (try simp only [List.set_cons_zero])
                      refine wpAnyH_ready (rs := [20]) (by kernel_rfl) (by simp) ?_
                      refine AllReadyH.cons (o := { dst := some 13, op := Op.assign (Operand.tmp 64), type := 4, pos := "law.go:61", after := #[{ on := 15, ground := Ground.data }, { on := 19, ground := Ground.chain }, { on := 0, ground := Ground.phase }, { on := 1, ground := Ground.phase }, { on := 2, ground := Ground.phase }, { on := 3, ground := Ground.phase }, { on := 4, ground := Ground.phase }, { on := 5, ground := Ground.phase }, { on := 6, ground := Ground.phase }, { on := 7, ground := Ground.phase }, { on := 8, ground := Ground.phase }, { on := 9, ground := Ground.phase }, { on := 10, ground := Ground.phase }, { on := 11, ground := Ground.phase }, { on := 12, ground := Ground.phase }, { on := 13, ground := Ground.phase }, { on := 14, ground := Ground.phase }, { on := 15, ground := Ground.phase }, { on := 16, ground := Ground.phase }, { on := 17, ground := Ground.phase }, { on := 18, ground := Ground.phase }, { on := 19, ground := Ground.phase }], guard := none }) rfl (fun K hK => ?_) AllReadyH.nil
                      · skip
                        go_simp
                        refine hK.out _ _ (PS.old U106 HPS.out) (fun _ => ?_)
                        clear hK K
                        (try simp only [Act.put]); (try simp only [List.setIfInBounds_toArray]); (try simp only [List.set_cons_succ]); (try simp only [List.set_cons_zero])
                        refine wpAnyH_done (by kernel_rfl) ?_ _
                        refine NoPanic.normal ?_
                        have FF := hid (rfin (p := .int .i64 (most : Nat)) (q := .slice a7 Z.length c7) (x := .int .i64 x7.f) (y := .int .i64 x7.t) (z := .slice x7.a x7.L.length x7.c) n11_100 n12_100)
                        have D7 := hid (show DocAt w (((((x100.setCell ⟨m99, 0, none⟩ (.int .i64 (most : Nat))).setCell ⟨m99, 1, none⟩ (.slice a7 Z.length c7)).setCell ⟨m88, 0, none⟩ (.int .i64 x7.f)).setCell ⟨m88, 1, none⟩ (.int .i64 x7.t)).setCell ⟨m88, 2, none⟩ (.slice x7.a x7.L.length x7.c)) (.slice a7 Z.length c7) Z from DocAt.chg2 (B := 0) d100 FF.out.2.2 n11_100 n12_100 (fun g e => ⟨Nm11.out g e, Nm12.out g e⟩))
                        have S7 := hid (show Sr w (((((x100.setCell ⟨m99, 0, none⟩ (.int .i64 (most : Nat))).setCell ⟨m99, 1, none⟩ (.slice a7 Z.length c7)).setCell ⟨m88, 0, none⟩ (.int .i64 x7.f)).setCell ⟨m88, 1, none⟩ (.int .i64 x7.t)).setCell ⟨m88, 2, none⟩ (.slice x7.a x7.L.length x7.c)) x7.v x7.L from Sr.chg2 s100 FF.out.2.2 n11_100 n12_100)
                        have F11 := hid (show (((((x100.setCell ⟨m99, 0, none⟩ (.int .i64 (most : Nat))).setCell ⟨m99, 1, none⟩ (.slice a7 Z.length c7)).setCell ⟨m88, 0, none⟩ (.int .i64 x7.f)).setCell ⟨m88, 1, none⟩ (.int .i64 x7.t)).setCell ⟨m88, 2, none⟩ (.slice x7.a x7.L.length x7.c)).heap[m99]? = some (.cells #[.int .i64 (most : Nat), .slice a7 Z.length c7] 46 (0, 0)) from FF.out.1)
                        have F12 := hid (show (((((x100.setCell ⟨m99, 0, none⟩ (.int .i64 (most : Nat))).setCell ⟨m99, 1, none⟩ (.slice a7 Z.length c7)).setCell ⟨m88, 0, none⟩ (.int .i64 x7.f)).setCell ⟨m88, 1, none⟩ (.int .i64 x7.t)).setCell ⟨m88, 2, none⟩ (.slice x7.a x7.L.length x7.c)).heap[m88]? = some (.cells #[.int .i64 x7.f, .int .i64 x7.t, .slice x7.a x7.L.length x7.c] 48 (0, 0)) from FF.out.2.1)
                        have UZ := hid (show Old w6 (((((x100.setCell ⟨m99, 0, none⟩ (.int .i64 (most : Nat))).setCell ⟨m99, 1, none⟩ (.slice a7 Z.length c7)).setCell ⟨m88, 0, none⟩ (.int .i64 x7.f)).setCell ⟨m88, 1, none⟩ (.int .i64 x7.t)).setCell ⟨m88, 2, none⟩ (.slice x7.a x7.L.length x7.c)) from U106)
                        clear FF Nm11 Nm12 n11_100 n12_100 q105 d100 s100 U106
                        generalize (((((x100.setCell ⟨m99, 0, none⟩ (.int .i64 (most : Nat))).setCell ⟨m99, 1, none⟩ (.slice a7 Z.length c7)).setCell ⟨m88, 0, none⟩ (.int .i64 x7.f)).setCell ⟨m88, 1, none⟩ (.int .i64 x7.t)).setCell ⟨m88, 2, none⟩ (.slice x7.a x7.L.length x7.c)) = w7 at *
                        generalize m99 = b11 at *
                        generalize m88 = b12 at *
                        have N7 := hid (N6.out.old UZ.out)
                        have HBm7 := hid (UZ.out.block HBm6.out)
                        have HB97 := hid (UZ.out.block HB9.out)
                        have O7 := hid (O6.out.old UZ.out)
                        clear N6 HBm6 HB9 O6 D6 HBo6 HPS HOf HDc UZ
                        obtain ⟨xf7, xt7, xa7, xc7, xL7⟩ := x7
                        obtain ⟨e1, e2, e3⟩ : xf7 = xf ∧ xt7 = xt ∧ xL7 = xL := by
                          have h := HX7.out
                          unfold Lt.p at h
                          simp only [Prod.mk.injEq] at h
                          exact h
                        clear HX7
                        subst e1 e2 e3
                        dsimp only at S7 F12
                        unfold Lt.v at S7
                        dsimp only at S7
                        obtain ⟨r0, r1, -, -⟩ := box2 F11.out
                        obtain ⟨s0, s1, sf0, sf1⟩ := box2 HBm7.out
                        go_upto_region 12 with (fail)
                        have M8 := hid (PA.set (cs := #[]) (most := most) N7.out HBm7.out HNw.out D7.out HZ7.out)
                        have ne12 : b12 ≠ bm := fun e => by have h1 := F12.out; rw [e, HBm7.out] at h1; simp at h1
                        have ne9 : b9 ≠ bm := fun e => by have h1 := HB97.out; rw [e, HBm7.out] at h1; simp at h1
                        have G12 := hid (set_other (v := .slice a7 Z.length c7) (i := 1) (set_other (v := .int .i64 (most : Nat)) (i := 0) F12.out ne12) ne12)
                        have G9 := hid (set_other (v := .slice a7 Z.length c7) (i := 1) (set_other (v := .int .i64 (most : Nat)) (i := 0) HB97.out ne9) ne9)
                        have O8 := hid (O7.out.chg (chg2 w7 bm (.int .i64 (most : Nat)) (.slice a7 Z.length c7)) (O7.out.offT HBm7.out (by decide)))
                        have S8 := hid (S7.out.chgT (chg2 w7 bm (.int .i64 (most : Nat)) (.slice a7 Z.length c7)) HBm7.out)
                        clear r0 r1 s0 s1 sf0 sf1 F11 F12 HBm7 HB97 O7 N7 S7 D7 ne12 ne9
                        generalize (w7.setCell ⟨bm, 0, none⟩ (.int .i64 (most : Nat))).setCell ⟨bm, 1, none⟩ (.slice a7 Z.length c7) = w8 at *
                        have HS8 := hid (show (fun wz => (wz.cell? ⟨b9, 0, none⟩ = some (.int .i64 xf7) ∧ wz.cell? ⟨b9, 1, none⟩ = some (.int .i64 xt7) ∧ wz.cell? ⟨b9, 2, none⟩ = some (.slice a5 xL7.length c5)) ∧ (wz.cell? ⟨b12, 0, none⟩ = some (.int .i64 xf7) ∧ wz.cell? ⟨b12, 1, none⟩ = some (.int .i64 xt7) ∧ wz.cell? ⟨b12, 2, none⟩ = some (.slice xa7 xL7.length xc7)) ∧ wz.cell? ⟨bm, 1, none⟩ = some (.slice a7 Z.length c7)) w8 from ⟨⟨(box3 G9.out).1, (box3 G9.out).2.1, (box3 G9.out).2.2.1⟩, ⟨(box3 G12.out).1, (box3 G12.out).2.1, (box3 G12.out).2.2.1⟩, (box2 M8.out.box).2.1⟩)
                        dsimp only at HS8
                        have HOf8 := hid (fun (W : World) (u : Old w8 W) => rof_any xf7 xt7 a5 xL7.length c5 W)
                        have HSm8 := hid (fun (W : World) (u : Old w8 W) => rsame_any xf7 xt7 a5 xa7 c5 xc7 xL7 W ((O8.out.old u).row) ((S8.out.old u).row (M8.out.net.base.trans u)))
                        have HLn8 := hid (show ∀ W, Old w8 W → Calls Try.prog 11 #[.pointer (some ⟨nb, 0, none⟩)] W fun e w' => e = .returned (.int .i64 (Z.length : Nat)) ∧ Old W w' from fun W u => (lenN w W nb most P5 [] (M8.out.net.old u)).mono fun e w' q => ⟨by rw [q.1, ← HZ7.out, List.length_map], by rw [q.2]; exact Old.refl _⟩)
                        clear G12 G9 O8 S8
                        cases b5
                        case false =>
                          refine wp_region_noPanic ?_
                          refine wp_region_held_drew (S := fun wz => (wz.cell? ⟨b9, 0, none⟩ = some (.int .i64 xf7) ∧ wz.cell? ⟨b9, 1, none⟩ = some (.int .i64 xt7) ∧ wz.cell? ⟨b9, 2, none⟩ = some (.slice a5 xL7.length c5)) ∧ (wz.cell? ⟨b12, 0, none⟩ = some (.int .i64 xf7) ∧ wz.cell? ⟨b12, 1, none⟩ = some (.int .i64 xt7) ∧ wz.cell? ⟨b12, 2, none⟩ = some (.slice xa7 xL7.length xc7)) ∧ wz.cell? ⟨bm, 1, none⟩ = some (.slice a7 Z.length c7)) (by kernel_rfl) ?_ (fun hHeld => ?_)
                          · exact T7.old ((Old.refl _).drew) HS8.out
                          (try simp only [Act.put]); (try simp only [List.setIfInBounds_toArray]); (try simp only [List.set_cons_succ]); (try simp only [List.set_cons_zero])
                          clear hHeld
                          refine wpAnyH_take (i := 0) (oi := { dst := some 66, op := Op.move (Operand.tmp 10), type := 4, pos := "law.go:63", after := #[], guard := none }) (v := ?vk477) rfl (by kernel_rfl) (by kernel_rfl) (by kernel_rfl) (fun _ _ _ h => h) (Or.inl ⟨by rfl, ?hk477⟩) (T7.old ((Old.refl w8).drew) HS8.out) ?rk477
                          case hk477 => (intro wz hSw; (try dsimp only at hSw); go_simp; try with_reducible rfl)
                          (try simp only [Act.put]); (try simp only [List.setIfInBounds_toArray]); (try simp only [List.set_cons_succ]); (try simp only [List.set_cons_zero])
                          refine wpAnyH_take (i := 1) (oi := { dst := some 67, op := Op.move (Operand.tmp 13), type := 4, pos := "law.go:63", after := #[], guard := none }) (v := ?vk478) rfl (by kernel_rfl) (by kernel_rfl) (by kernel_rfl) (fun _ _ _ h => h) (Or.inl ⟨by rfl, ?hk478⟩) (T7.old ((Old.refl w8).drew) HS8.out) ?rk478
                          case hk478 => (intro wz hSw; (try dsimp only at hSw); go_simp; try with_reducible rfl)
                          (try simp only [Act.put]); (try simp only [List.setIfInBounds_toArray]); (try simp only [List.set_cons_succ]); (try simp only [List.set_cons_zero])
                          refine wpAnyH_take (i := 2) (oi := { dst := some 68, op := Op.binOp BinOp.neq 4 (Operand.tmp 66) (Operand.tmp 67) 4, type := 4, pos := "law.go:63", after := #[{ on := 0, ground := Ground.data }, { on := 1, ground := Ground.data }], guard := none }) (v := ?vk479) rfl (by kernel_rfl) (by kernel_rfl) (by kernel_rfl) (fun _ _ _ h => h) (Or.inl ⟨by rfl, ?hk479⟩) (T7.old ((Old.refl w8).drew) HS8.out) ?rk479
                          case hk479 => (intro wz hSw; (try dsimp only at hSw); go_simp; try with_reducible rfl)
                          (try simp only [Act.put]); (try simp only [List.setIfInBounds_toArray]); (try simp only [List.set_cons_succ]); (try simp only [List.set_cons_zero])
                          refine wpAnyH_take (i := 3) (oi := { dst := some 69, op := Op.move (Operand.tmp 68), type := 4, pos := "law.go:63", after := #[{ on := 2, ground := Ground.data }], guard := none }) (v := ?vk480) rfl (by kernel_rfl) (by kernel_rfl) (by kernel_rfl) (fun _ _ _ h => h) (Or.inl ⟨by rfl, ?hk480⟩) (T7.old ((Old.refl w8).drew) HS8.out) ?rk480
                          case hk480 => (intro wz hSw; (try dsimp only at hSw); go_simp; try with_reducible rfl)
                          (try simp only [Act.put]); (try simp only [List.setIfInBounds_toArray]); (try simp only [List.set_cons_succ]); (try simp only [List.set_cons_zero])
                          refine wpAnyH_take (i := 4) (oi := { dst := some 70, op := Op.load 30 (Operand.tmp 9), type := 30, pos := "law.go:63", after := #[{ on := 3, ground := Ground.guard }], guard := some (3, false) }) (v := ?vk481) rfl (by kernel_rfl) (by kernel_rfl) (by kernel_rfl) (fun _ _ _ h => h) (Or.inl ⟨by rfl, ?hk481⟩) (T7.old ((Old.refl w8).drew) HS8.out) ?rk481
                          case hk481 => (intro wz hSw; (try dsimp only at hSw); go_simp; try with_reducible rfl)
                          (try simp only [Act.put]); (try simp only [List.setIfInBounds_toArray]); (try simp only [List.set_cons_succ]); (try simp only [List.set_cons_zero])
                          refine wpAnyH_take (i := 6) (oi := { dst := some 72, op := Op.load 48 (Operand.tmp 12), type := 48, pos := "law.go:63", after := #[{ on := 3, ground := Ground.guard }], guard := some (3, false) }) (v := ?vk482) rfl (by kernel_rfl) (by kernel_rfl) (by kernel_rfl) (fun _ _ _ h => h) (Or.inl ⟨by rfl, ?hk482⟩) (T7.old ((Old.refl w8).drew) HS8.out) ?rk482
                          case hk482 => (intro wz hSw; (try dsimp only at hSw); go_simp; try with_reducible rfl)
                          (try simp only [Act.put]); (try simp only [List.setIfInBounds_toArray]); (try simp only [List.set_cons_succ]); (try simp only [List.set_cons_zero])
                          refine wpAnyH_ready (rs := [5]) (by kernel_rfl) (by simp) ?_
                          refine AllReadyH.cons (o := { dst := some 71, op := Op.call { callee := Callee.value (Operand.func 17), args := #[Operand.tmp 70], argTypes := #[30] }, type := 48, pos := "law.go:63", after := #[{ on := 4, ground := Ground.data }, { on := 3, ground := Ground.chain }, { on := 3, ground := Ground.guard }], guard := some (3, false) }) rfl (fun K hK => ?_) AllReadyH.nil
                          refine wantCall1 ?_ 17 (.tmp 70) #[30] ?_ (.agg #[.int .i64 xf7, .int .i64 xt7, .slice a5 xL7.length c5]) ?_ ?_ ((enters_of Try.func17 (by kernel_rfl) rfl) _ _) ?_
                          · rfl
                          · rfl
                          · rfl
                          · rfl
                          refine (HOf8.out _ ((Old.refl w8).drew)).mono ?_
                          rintro o x483 ⟨rfl, b483⟩
                          refine ⟨_, rfl, ?_⟩
                          have U483 := ((Old.refl w8).drew).trans b483
                          refine hK.out _ _ (T7.old U483 HS8.out) (fun _ => ?_)
                          clear hK K
                          (try simp only [Act.put]); (try simp only [List.setIfInBounds_toArray]); (try simp only [List.set_cons_succ]); (try simp only [List.set_cons_zero])
                          refine wpAnyH_ready (rs := [7]) (by kernel_rfl) (by simp) ?_
                          refine AllReadyH.cons (o := { dst := some 73, op := Op.call { callee := Callee.value (Operand.func 18), args := #[Operand.tmp 71, Operand.tmp 72], argTypes := #[48, 48] }, type := 4, pos := "law.go:63", after := #[{ on := 5, ground := Ground.data }, { on := 6, ground := Ground.data }, { on := 5, ground := Ground.chain }, { on := 3, ground := Ground.guard }], guard := some (3, false) }) rfl (fun K hK => ?_) AllReadyH.nil
                          refine wantCall2 ?_ 18 (.tmp 71) (.tmp 72) #[48, 48] ?_ (.agg #[.int .i64 xf7, .int .i64 xt7, .slice a5 xL7.length c5]) (.agg #[.int .i64 xf7, .int .i64 xt7, .slice xa7 xL7.length xc7]) ?_ ?_ ?_ ((enters_of Try.func18 (by kernel_rfl) rfl) _ _) ?_
                          · rfl
                          · rfl
                          · rfl
                          · rfl
                          · rfl
                          refine (HSm8.out _ U483).mono ?_
                          rintro o x484 ⟨rfl, b484⟩
                          refine ⟨_, rfl, ?_⟩
                          have U484 := U483.trans b484
                          refine hK.out _ _ (T7.old U484 HS8.out) (fun _ => ?_)
                          clear hK K
                          (try simp only [Act.put]); (try simp only [List.setIfInBounds_toArray]); (try simp only [List.set_cons_succ]); (try simp only [List.set_cons_zero])
                          refine wpAnyH_take (i := 8) (oi := { dst := some 74, op := Op.unOp UnOp.not 4 (Operand.tmp 73), type := 4, pos := "law.go:63", after := #[{ on := 7, ground := Ground.data }, { on := 3, ground := Ground.guard }], guard := some (3, false) }) (v := ?vk485) rfl (by kernel_rfl) (by kernel_rfl) (by kernel_rfl) (fun _ _ _ h => h) (Or.inl ⟨by rfl, ?hk485⟩) (T7.old U484 HS8.out) ?rk485
                          case hk485 => (intro wz hSw; (try dsimp only at hSw); go_simp; try with_reducible rfl)
                          (try simp only [Act.put]); (try simp only [List.setIfInBounds_toArray]); (try simp only [List.set_cons_succ]); (try simp only [List.set_cons_zero])
                          refine wpAnyH_take (i := 9) (oi := { dst := some 75, op := Op.pick (Operand.tmp 69) (Operand.const (Value.bool true)) (Operand.tmp 74), type := 4, pos := "law.go:63", after := #[{ on := 3, ground := Ground.data }, { on := 8, ground := Ground.data }], guard := none }) (v := ?vk486) rfl (by kernel_rfl) (by kernel_rfl) (by kernel_rfl) (fun _ _ _ h => h) (Or.inl ⟨by rfl, ?hk486⟩) (T7.old U484 HS8.out) ?rk486
                          case hk486 => (intro wz hSw; (try dsimp only at hSw); go_simp; try with_reducible rfl)
                          (try simp only [Act.put]); (try simp only [List.setIfInBounds_toArray]); (try simp only [List.set_cons_succ]); (try simp only [List.set_cons_zero])
                          refine wpAnyH_take (i := 10) (oi := { dst := some 76, op := Op.move (Operand.tmp 75), type := 4, pos := "law.go:63", after := #[{ on := 9, ground := Ground.data }, { on := 7, ground := Ground.chain }], guard := none }) (v := ?vk487) rfl (by kernel_rfl) (by kernel_rfl) (by kernel_rfl) (fun _ _ _ h => h) (Or.inl ⟨by rfl, ?hk487⟩) (T7.old U484 HS8.out) ?rk487
                          case hk487 => (intro wz hSw; (try dsimp only at hSw); go_simp; try with_reducible rfl)
                          (try simp only [Act.put]); (try simp only [List.setIfInBounds_toArray]); (try simp only [List.set_cons_succ]); (try simp only [List.set_cons_zero])
                          refine wpAnyH_take (i := 11) (oi := { dst := some 77, op := Op.move (Operand.tmp 5), type := 23, pos := "law.go:63", after := #[{ on := 10, ground := Ground.guard }], guard := some (10, false) }) (v := ?vk488) rfl (by kernel_rfl) (by kernel_rfl) (by kernel_rfl) (fun _ _ _ h => h) (Or.inl ⟨by rfl, ?hk488⟩) (T7.old U484 HS8.out) ?rk488
                          case hk488 => (intro wz hSw; (try dsimp only at hSw); go_simp; try with_reducible rfl)
                          (try simp only [Act.put]); (try simp only [List.setIfInBounds_toArray]); (try simp only [List.set_cons_succ]); (try simp only [List.set_cons_zero])
                          refine wpAnyH_take (i := 13) (oi := { dst := some 79, op := Op.fieldAddr 46 (Operand.tmp 6) 1, type := 0, pos := "law.go:63", after := #[{ on := 10, ground := Ground.guard }], guard := some (10, false) }) (v := ?vk489) rfl (by kernel_rfl) (by kernel_rfl) (by kernel_rfl) (fun _ _ _ h => h) (Or.inl ⟨by rfl, ?hk489⟩) (T7.old U484 HS8.out) ?rk489
                          case hk489 => (intro wz hSw; (try dsimp only at hSw); go_simp; try with_reducible rfl)
                          (try simp only [Act.put]); (try simp only [List.setIfInBounds_toArray]); (try simp only [List.set_cons_succ]); (try simp only [List.set_cons_zero])
                          refine wpAnyH_take (i := 14) (oi := { dst := some 80, op := Op.load 44 (Operand.tmp 79), type := 44, pos := "law.go:63", after := #[{ on := 13, ground := Ground.data }, { on := 10, ground := Ground.guard }], guard := some (10, false) }) (v := ?vk490) rfl (by kernel_rfl) (by kernel_rfl) (by kernel_rfl) (fun _ _ _ h => h) (Or.inl ⟨by rfl, ?hk490⟩) (T7.old U484 HS8.out) ?rk490
                          case hk490 => (intro wz hSw; (try dsimp only at hSw); go_simp; try with_reducible rfl)
                          (try simp only [Act.put]); (try simp only [List.setIfInBounds_toArray]); (try simp only [List.set_cons_succ]); (try simp only [List.set_cons_zero])
                          refine wpAnyH_take (i := 15) (oi := { dst := some 81, op := Op.call { callee := Callee.builtin Builtin.len, args := #[Operand.tmp 80], argTypes := #[44] }, type := 3, pos := "law.go:63", after := #[{ on := 14, ground := Ground.data }, { on := 10, ground := Ground.guard }], guard := some (10, false) }) (v := ?vk491) rfl (by kernel_rfl) (by kernel_rfl) (by kernel_rfl) (fun _ _ _ h => h) (Or.inl ⟨by rfl, ?hk491⟩) (T7.old U484 HS8.out) ?rk491
                          case hk491 => (intro wz hSw; (try dsimp only at hSw); go_simp; try with_reducible rfl)
                          (try simp only [Act.put]); (try simp only [List.setIfInBounds_toArray]); (try simp only [List.set_cons_succ]); (try simp only [List.set_cons_zero])
                          refine wpAnyH_ready (rs := [12]) (by kernel_rfl) (by simp) ?_
                          refine AllReadyH.cons (o := { dst := some 78, op := Op.call { callee := Callee.value (Operand.func 11), args := #[Operand.tmp 77], argTypes := #[23] }, type := 3, pos := "law.go:63", after := #[{ on := 11, ground := Ground.data }, { on := 10, ground := Ground.chain }, { on := 10, ground := Ground.guard }], guard := some (10, false) }) rfl (fun K hK => ?_) AllReadyH.nil
                          refine wantCall1 ?_ 11 (.tmp 77) #[23] ?_ (.pointer (some ⟨nb, 0, none⟩)) ?_ ?_ ((enters_of Try.func11 (by kernel_rfl) rfl) _ _) ?_
                          · rfl
                          · rfl
                          · rfl
                          · rfl
                          refine (HLn8.out _ U484).mono ?_
                          rintro o x492 ⟨rfl, b492⟩
                          refine ⟨_, rfl, ?_⟩
                          have U492 := U484.trans b492
                          refine hK.out _ _ (T7.old U492 HS8.out) (fun _ => ?_)
                          clear hK K
                          (try simp only [Act.put]); (try simp only [List.setIfInBounds_toArray]); (try simp only [List.set_cons_succ]); (try simp only [List.set_cons_zero])
                          refine wpAnyH_take (i := 16) (oi := { dst := some 82, op := Op.binOp BinOp.neq 3 (Operand.tmp 78) (Operand.tmp 81) 3, type := 4, pos := "law.go:63", after := #[{ on := 12, ground := Ground.data }, { on := 15, ground := Ground.data }, { on := 10, ground := Ground.guard }], guard := some (10, false) }) (v := ?vk493) rfl (by kernel_rfl) (by kernel_rfl) (by kernel_rfl) (fun _ _ _ h => h) (Or.inl ⟨by rfl, ?hk493⟩) (T7.old U492 HS8.out) ?rk493
                          case hk493 => (intro wz hSw; (try dsimp only at hSw); go_simp; try with_reducible rfl)
                          (try simp only [Act.put]); (try simp only [List.setIfInBounds_toArray]); (try simp only [List.set_cons_succ]); (try simp only [List.set_cons_zero])
                          refine wpAnyH_take (i := 17) (oi := { dst := some 83, op := Op.pick (Operand.tmp 76) (Operand.const (Value.bool true)) (Operand.tmp 82), type := 4, pos := "law.go:63", after := #[{ on := 10, ground := Ground.data }, { on := 16, ground := Ground.data }], guard := none }) (v := ?vk494) rfl (by kernel_rfl) (by kernel_rfl) (by kernel_rfl) (fun _ _ _ h => h) (Or.inl ⟨by rfl, ?hk494⟩) (T7.old U492 HS8.out) ?rk494
                          case hk494 => (intro wz hSw; (try dsimp only at hSw); go_simp; try with_reducible rfl)
                          (try simp only [Act.put]); (try simp only [List.setIfInBounds_toArray]); (try simp only [List.set_cons_succ]); (try simp only [List.set_cons_zero])
                          refine wpAnyH_done (by kernel_rfl) ?_ _
                          refine NoPanic.normal ?_
                          have UY := hid U492
                          go_wp2
                          go_roundw
                          case rel => exact ⟨i + 1, a7, c7, Z, P5, hlt, by go_num, M8.out.old UY.out⟩
                          case measure => simp [intOf]; omega
                        case true =>
                          refine wp_region_noPanic ?_
                          refine wp_region_held_drew (S := fun wz => (wz.cell? ⟨b9, 0, none⟩ = some (.int .i64 xf7) ∧ wz.cell? ⟨b9, 1, none⟩ = some (.int .i64 xt7) ∧ wz.cell? ⟨b9, 2, none⟩ = some (.slice a5 xL7.length c5)) ∧ (wz.cell? ⟨b12, 0, none⟩ = some (.int .i64 xf7) ∧ wz.cell? ⟨b12, 1, none⟩ = some (.int .i64 xt7) ∧ wz.cell? ⟨b12, 2, none⟩ = some (.slice xa7 xL7.length xc7)) ∧ wz.cell? ⟨bm, 1, none⟩ = some (.slice a7 Z.length c7)) (by kernel_rfl) ?_ (fun hHeld => ?_)
                          · exact T7.old ((Old.refl _).drew) HS8.out
                          (try simp only [Act.put]); (try simp only [List.setIfInBounds_toArray]); (try simp only [List.set_cons_succ]); (try simp only [List.set_cons_zero])
                          clear hHeld
                          refine wpAnyH_take (i := 0) (oi := { dst := some 66, op := Op.move (Operand.tmp 10), type := 4, pos := "law.go:63", after := #[], guard := none }) (v := ?vk495) rfl (by kernel_rfl) (by kernel_rfl) (by kernel_rfl) (fun _ _ _ h => h) (Or.inl ⟨by rfl, ?hk495⟩) (T7.old ((Old.refl w8).drew) HS8.out) ?rk495
                          case hk495 => (intro wz hSw; (try dsimp only at hSw); go_simp; try with_reducible rfl)
                          (try simp only [Act.put]); (try simp only [List.setIfInBounds_toArray]); (try simp only [List.set_cons_succ]); (try simp only [List.set_cons_zero])
                          refine wpAnyH_take (i := 1) (oi := { dst := some 67, op := Op.move (Operand.tmp 13), type := 4, pos := "law.go:63", after := #[], guard := none }) (v := ?vk496) rfl (by kernel_rfl) (by kernel_rfl) (by kernel_rfl) (fun _ _ _ h => h) (Or.inl ⟨by rfl, ?hk496⟩) (T7.old ((Old.refl w8).drew) HS8.out) ?rk496
                          case hk496 => (intro wz hSw; (try dsimp only at hSw); go_simp; try with_reducible rfl)
                          (try simp only [Act.put]); (try simp only [List.setIfInBounds_toArray]); (try simp only [List.set_cons_succ]); (try simp only [List.set_cons_zero])
                          refine wpAnyH_take (i := 2) (oi := { dst := some 68, op := Op.binOp BinOp.neq 4 (Operand.tmp 66) (Operand.tmp 67) 4, type := 4, pos := "law.go:63", after := #[{ on := 0, ground := Ground.data }, { on := 1, ground := Ground.data }], guard := none }) (v := ?vk497) rfl (by kernel_rfl) (by kernel_rfl) (by kernel_rfl) (fun _ _ _ h => h) (Or.inl ⟨by rfl, ?hk497⟩) (T7.old ((Old.refl w8).drew) HS8.out) ?rk497
                          case hk497 => (intro wz hSw; (try dsimp only at hSw); go_simp; try with_reducible rfl)
                          (try simp only [Act.put]); (try simp only [List.setIfInBounds_toArray]); (try simp only [List.set_cons_succ]); (try simp only [List.set_cons_zero])
                          refine wpAnyH_take (i := 3) (oi := { dst := some 69, op := Op.move (Operand.tmp 68), type := 4, pos := "law.go:63", after := #[{ on := 2, ground := Ground.data }], guard := none }) (v := ?vk498) rfl (by kernel_rfl) (by kernel_rfl) (by kernel_rfl) (fun _ _ _ h => h) (Or.inl ⟨by rfl, ?hk498⟩) (T7.old ((Old.refl w8).drew) HS8.out) ?rk498
                          case hk498 => (intro wz hSw; (try dsimp only at hSw); go_simp; try with_reducible rfl)
                          (try simp only [Act.put]); (try simp only [List.setIfInBounds_toArray]); (try simp only [List.set_cons_succ]); (try simp only [List.set_cons_zero])
                          refine wpAnyH_take (i := 4) (oi := { dst := some 70, op := Op.load 30 (Operand.tmp 9), type := 30, pos := "law.go:63", after := #[{ on := 3, ground := Ground.guard }], guard := some (3, false) }) (v := ?vk499) rfl (by kernel_rfl) (by kernel_rfl) (by kernel_rfl) (fun _ _ _ h => h) (Or.inl ⟨by rfl, ?hk499⟩) (T7.old ((Old.refl w8).drew) HS8.out) ?rk499
                          case hk499 => (intro wz hSw; (try dsimp only at hSw); go_simp; try with_reducible rfl)
                          (try simp only [Act.put]); (try simp only [List.setIfInBounds_toArray]); (try simp only [List.set_cons_succ]); (try simp only [List.set_cons_zero])
                          refine wpAnyH_take (i := 6) (oi := { dst := some 72, op := Op.load 48 (Operand.tmp 12), type := 48, pos := "law.go:63", after := #[{ on := 3, ground := Ground.guard }], guard := some (3, false) }) (v := ?vk500) rfl (by kernel_rfl) (by kernel_rfl) (by kernel_rfl) (fun _ _ _ h => h) (Or.inl ⟨by rfl, ?hk500⟩) (T7.old ((Old.refl w8).drew) HS8.out) ?rk500
                          case hk500 => (intro wz hSw; (try dsimp only at hSw); go_simp; try with_reducible rfl)
                          (try simp only [Act.put]); (try simp only [List.setIfInBounds_toArray]); (try simp only [List.set_cons_succ]); (try simp only [List.set_cons_zero])
                          refine wpAnyH_ready (rs := [5]) (by kernel_rfl) (by simp) ?_
                          refine AllReadyH.cons (o := { dst := some 71, op := Op.call { callee := Callee.value (Operand.func 17), args := #[Operand.tmp 70], argTypes := #[30] }, type := 48, pos := "law.go:63", after := #[{ on := 4, ground := Ground.data }, { on := 3, ground := Ground.chain }, { on := 3, ground := Ground.guard }], guard := some (3, false) }) rfl (fun K hK => ?_) AllReadyH.nil
                          refine wantCall1 ?_ 17 (.tmp 70) #[30] ?_ (.agg #[.int .i64 xf7, .int .i64 xt7, .slice a5 xL7.length c5]) ?_ ?_ ((enters_of Try.func17 (by kernel_rfl) rfl) _ _) ?_
                          · rfl
                          · rfl
                          · rfl
                          · rfl
                          refine (HOf8.out _ ((Old.refl w8).drew)).mono ?_
                          rintro o x501 ⟨rfl, b501⟩
                          refine ⟨_, rfl, ?_⟩
                          have U501 := ((Old.refl w8).drew).trans b501
                          refine hK.out _ _ (T7.old U501 HS8.out) (fun _ => ?_)
                          clear hK K
                          (try simp only [Act.put]); (try simp only [List.setIfInBounds_toArray]); (try simp only [List.set_cons_succ]); (try simp only [List.set_cons_zero])
                          refine wpAnyH_ready (rs := [7]) (by kernel_rfl) (by simp) ?_
                          refine AllReadyH.cons (o := { dst := some 73, op := Op.call { callee := Callee.value (Operand.func 18), args := #[Operand.tmp 71, Operand.tmp 72], argTypes := #[48, 48] }, type := 4, pos := "law.go:63", after := #[{ on := 5, ground := Ground.data }, { on := 6, ground := Ground.data }, { on := 5, ground := Ground.chain }, { on := 3, ground := Ground.guard }], guard := some (3, false) }) rfl (fun K hK => ?_) AllReadyH.nil
                          refine wantCall2 ?_ 18 (.tmp 71) (.tmp 72) #[48, 48] ?_ (.agg #[.int .i64 xf7, .int .i64 xt7, .slice a5 xL7.length c5]) (.agg #[.int .i64 xf7, .int .i64 xt7, .slice xa7 xL7.length xc7]) ?_ ?_ ?_ ((enters_of Try.func18 (by kernel_rfl) rfl) _ _) ?_
                          · rfl
                          · rfl
                          · rfl
                          · rfl
                          · rfl
                          refine (HSm8.out _ U501).mono ?_
                          rintro o x502 ⟨rfl, b502⟩
                          refine ⟨_, rfl, ?_⟩
                          have U502 := U501.trans b502
                          refine hK.out _ _ (T7.old U502 HS8.out) (fun _ => ?_)
                          clear hK K
                          (try simp only [Act.put]); (try simp only [List.setIfInBounds_toArray]); (try simp only [List.set_cons_succ]); (try simp only [List.set_cons_zero])
                          refine wpAnyH_take (i := 8) (oi := { dst := some 74, op := Op.unOp UnOp.not 4 (Operand.tmp 73), type := 4, pos := "law.go:63", after := #[{ on := 7, ground := Ground.data }, { on := 3, ground := Ground.guard }], guard := some (3, false) }) (v := ?vk503) rfl (by kernel_rfl) (by kernel_rfl) (by kernel_rfl) (fun _ _ _ h => h) (Or.inl ⟨by rfl, ?hk503⟩) (T7.old U502 HS8.out) ?rk503
                          case hk503 => (intro wz hSw; (try dsimp only at hSw); go_simp; try with_reducible rfl)
                          (try simp only [Act.put]); (try simp only [List.setIfInBounds_toArray]); (try simp only [List.set_cons_succ]); (try simp only [List.set_cons_zero])
                          refine wpAnyH_take (i := 9) (oi := { dst := some 75, op := Op.pick (Operand.tmp 69) (Operand.const (Value.bool true)) (Operand.tmp 74), type := 4, pos := "law.go:63", after := #[{ on := 3, ground := Ground.data }, { on := 8, ground := Ground.data }], guard := none }) (v := ?vk504) rfl (by kernel_rfl) (by kernel_rfl) (by kernel_rfl) (fun _ _ _ h => h) (Or.inl ⟨by rfl, ?hk504⟩) (T7.old U502 HS8.out) ?rk504
                          case hk504 => (intro wz hSw; (try dsimp only at hSw); go_simp; try with_reducible rfl)
                          (try simp only [Act.put]); (try simp only [List.setIfInBounds_toArray]); (try simp only [List.set_cons_succ]); (try simp only [List.set_cons_zero])
                          refine wpAnyH_take (i := 10) (oi := { dst := some 76, op := Op.move (Operand.tmp 75), type := 4, pos := "law.go:63", after := #[{ on := 9, ground := Ground.data }, { on := 7, ground := Ground.chain }], guard := none }) (v := ?vk505) rfl (by kernel_rfl) (by kernel_rfl) (by kernel_rfl) (fun _ _ _ h => h) (Or.inl ⟨by rfl, ?hk505⟩) (T7.old U502 HS8.out) ?rk505
                          case hk505 => (intro wz hSw; (try dsimp only at hSw); go_simp; try with_reducible rfl)
                          (try simp only [Act.put]); (try simp only [List.setIfInBounds_toArray]); (try simp only [List.set_cons_succ]); (try simp only [List.set_cons_zero])
                          refine wpAnyH_take (i := 11) (oi := { dst := some 77, op := Op.move (Operand.tmp 5), type := 23, pos := "law.go:63", after := #[{ on := 10, ground := Ground.guard }], guard := some (10, false) }) (v := ?vk506) rfl (by kernel_rfl) (by kernel_rfl) (by kernel_rfl) (fun _ _ _ h => h) (Or.inl ⟨by rfl, ?hk506⟩) (T7.old U502 HS8.out) ?rk506
                          case hk506 => (intro wz hSw; (try dsimp only at hSw); go_simp; try with_reducible rfl)
                          (try simp only [Act.put]); (try simp only [List.setIfInBounds_toArray]); (try simp only [List.set_cons_succ]); (try simp only [List.set_cons_zero])
                          refine wpAnyH_take (i := 13) (oi := { dst := some 79, op := Op.fieldAddr 46 (Operand.tmp 6) 1, type := 0, pos := "law.go:63", after := #[{ on := 10, ground := Ground.guard }], guard := some (10, false) }) (v := ?vk507) rfl (by kernel_rfl) (by kernel_rfl) (by kernel_rfl) (fun _ _ _ h => h) (Or.inl ⟨by rfl, ?hk507⟩) (T7.old U502 HS8.out) ?rk507
                          case hk507 => (intro wz hSw; (try dsimp only at hSw); go_simp; try with_reducible rfl)
                          (try simp only [Act.put]); (try simp only [List.setIfInBounds_toArray]); (try simp only [List.set_cons_succ]); (try simp only [List.set_cons_zero])
                          refine wpAnyH_take (i := 14) (oi := { dst := some 80, op := Op.load 44 (Operand.tmp 79), type := 44, pos := "law.go:63", after := #[{ on := 13, ground := Ground.data }, { on := 10, ground := Ground.guard }], guard := some (10, false) }) (v := ?vk508) rfl (by kernel_rfl) (by kernel_rfl) (by kernel_rfl) (fun _ _ _ h => h) (Or.inl ⟨by rfl, ?hk508⟩) (T7.old U502 HS8.out) ?rk508
                          case hk508 => (intro wz hSw; (try dsimp only at hSw); go_simp; try with_reducible rfl)
                          (try simp only [Act.put]); (try simp only [List.setIfInBounds_toArray]); (try simp only [List.set_cons_succ]); (try simp only [List.set_cons_zero])
                          refine wpAnyH_take (i := 15) (oi := { dst := some 81, op := Op.call { callee := Callee.builtin Builtin.len, args := #[Operand.tmp 80], argTypes := #[44] }, type := 3, pos := "law.go:63", after := #[{ on := 14, ground := Ground.data }, { on := 10, ground := Ground.guard }], guard := some (10, false) }) (v := ?vk509) rfl (by kernel_rfl) (by kernel_rfl) (by kernel_rfl) (fun _ _ _ h => h) (Or.inl ⟨by rfl, ?hk509⟩) (T7.old U502 HS8.out) ?rk509
                          case hk509 => (intro wz hSw; (try dsimp only at hSw); go_simp; try with_reducible rfl)
                          (try simp only [Act.put]); (try simp only [List.setIfInBounds_toArray]); (try simp only [List.set_cons_succ]); (try simp only [List.set_cons_zero])
                          refine wpAnyH_ready (rs := [12]) (by kernel_rfl) (by simp) ?_
                          refine AllReadyH.cons (o := { dst := some 78, op := Op.call { callee := Callee.value (Operand.func 11), args := #[Operand.tmp 77], argTypes := #[23] }, type := 3, pos := "law.go:63", after := #[{ on := 11, ground := Ground.data }, { on := 10, ground := Ground.chain }, { on := 10, ground := Ground.guard }], guard := some (10, false) }) rfl (fun K hK => ?_) AllReadyH.nil
                          refine wantCall1 ?_ 11 (.tmp 77) #[23] ?_ (.pointer (some ⟨nb, 0, none⟩)) ?_ ?_ ((enters_of Try.func11 (by kernel_rfl) rfl) _ _) ?_
                          · rfl
                          · rfl
                          · rfl
                          · rfl
                          refine (HLn8.out _ U502).mono ?_
                          rintro o x510 ⟨rfl, b510⟩
                          refine ⟨_, rfl, ?_⟩
                          have U510 := U502.trans b510
                          refine hK.out _ _ (T7.old U510 HS8.out) (fun _ => ?_)
                          clear hK K
                          (try simp only [Act.put]); (try simp only [List.setIfInBounds_toArray]); (try simp only [List.set_cons_succ]); (try simp only [List.set_cons_zero])
                          refine wpAnyH_take (i := 16) (oi := { dst := some 82, op := Op.binOp BinOp.neq 3 (Operand.tmp 78) (Operand.tmp 81) 3, type := 4, pos := "law.go:63", after := #[{ on := 12, ground := Ground.data }, { on := 15, ground := Ground.data }, { on := 10, ground := Ground.guard }], guard := some (10, false) }) (v := ?vk511) rfl (by kernel_rfl) (by kernel_rfl) (by kernel_rfl) (fun _ _ _ h => h) (Or.inl ⟨by rfl, ?hk511⟩) (T7.old U510 HS8.out) ?rk511
                          case hk511 => (intro wz hSw; (try dsimp only at hSw); go_simp; try with_reducible rfl)
                          (try simp only [Act.put]); (try simp only [List.setIfInBounds_toArray]); (try simp only [List.set_cons_succ]); (try simp only [List.set_cons_zero])
                          refine wpAnyH_take (i := 17) (oi := { dst := some 83, op := Op.pick (Operand.tmp 76) (Operand.const (Value.bool true)) (Operand.tmp 82), type := 4, pos := "law.go:63", after := #[{ on := 10, ground := Ground.data }, { on := 16, ground := Ground.data }], guard := none }) (v := ?vk512) rfl (by kernel_rfl) (by kernel_rfl) (by kernel_rfl) (fun _ _ _ h => h) (Or.inl ⟨by rfl, ?hk512⟩) (T7.old U510 HS8.out) ?rk512
                          case hk512 => (intro wz hSw; (try dsimp only at hSw); go_simp; try with_reducible rfl)
                          (try simp only [Act.put]); (try simp only [List.setIfInBounds_toArray]); (try simp only [List.set_cons_succ]); (try simp only [List.set_cons_zero])
                          refine wpAnyH_done (by kernel_rfl) ?_ _
                          refine NoPanic.normal ?_
                          have UY := hid U510
                          go_wp2
                          go_roundw
                          case rel => exact ⟨i + 1, a7, c7, Z, P5, hlt, by go_num, M8.out.old UY.out⟩
                          case measure => simp [intOf]; omega
            · skip
              refine stepAllocN ?_ ?_ ?_
              · rfl
              · rfl
              intro m107 y107 hm107 hy107
              have nn107 : y107.heap[m107]? = some (.cells #[.int .i64 0, .slice none 0 0] 46 (0, 0)) := by rw [hy107, hm107]; exact alloc_at _ _
              have b107 : Old (y88) y107 := by rw [hy107]; exact (Old.refl _).alloc _
              have Z107 : w6.heap.size ≤ m107 := by rw [hm107]; exact (U88).size
              clear hm107 hy107
              have U107 := (U88).trans b107
              have n12_107 := (b107).block nn88
              refine hK.out _ _ (PS.old U107 HPS.out) (fun _ => ?_)
              clear hK K
              (try simp only [Act.put]); (try simp only [List.setIfInBounds_toArray]); (try simp only [List.set_cons_succ]); (try simp only [List.set_cons_zero])
              refine wpAnyH_ready (rs := [9]) (by kernel_rfl) (by simp) ?_
              refine AllReadyH.cons (o := { dst := some 59, op := Op.call { callee := Callee.value (Operand.func 17), args := #[Operand.tmp 58], argTypes := #[30] }, type := 48, pos := "law.go:61", after := #[{ on := 8, ground := Ground.data }], guard := none }) rfl (fun K hK => ?_) AllReadyH.nil
              · skip
                refine wantCall1 ?_ 17 (.tmp 58) #[30] ?_ (.agg #[.int .i64 of, .int .i64 ot, .slice pB oL.length cB]) ?_ ?_ ((enters_of Try.func17 (by kernel_rfl) rfl) _ _) ?_
                · rfl
                · rfl
                · rfl
                · rfl
                refine (HOf.out _).mono ?_
                rintro o x108 ⟨rfl, b108⟩
                refine ⟨_, rfl, ?_⟩
                have U108 := (U107).trans b108
                have n11_108 := (b108).block nn107
                have n12_108 := (b108).block n12_107
                refine hK.out _ _ (PS.old U108 HPS.out) (fun _ => ?_)
                clear hK K
                (try simp only [Act.put]); (try simp only [List.setIfInBounds_toArray]); (try simp only [List.set_cons_succ]); (try simp only [List.set_cons_zero])
                refine wpAnyH_take (i := 10) (oi := { dst := some 60, op := Op.build 53 #[(0, Operand.tmp 52), (1, Operand.tmp 54), (2, Operand.tmp 56), (3, Operand.tmp 59)], type := 53, pos := "law.go:61", after := #[{ on := 2, ground := Ground.data }, { on := 4, ground := Ground.data }, { on := 6, ground := Ground.data }, { on := 9, ground := Ground.data }], guard := none }) (v := ?vk109) rfl (by kernel_rfl) (by kernel_rfl) (by kernel_rfl) (fun _ _ _ h => h) (Or.inl ⟨by rfl, ?hk109⟩) (PS.old U108 HPS.out) ?rk109
                case hk109 => (intro wz hSw; (try dsimp only at hSw); go_simp; try with_reducible rfl)
                (try simp only [Act.put]); (try simp only [List.setIfInBounds_toArray]); (try simp only [List.set_cons_succ]); (try simp only [List.set_cons_zero])
                refine wpAnyH_ready (rs := [11]) (by kernel_rfl) (by simp) ?_
                refine AllReadyH.cons (o := { dst := some 61, op := Op.call { callee := Callee.value (Operand.func 16), args := #[Operand.tmp 50, Operand.tmp 60], argTypes := #[46, 53] }, type := 49, pos := "law.go:61", after := #[{ on := 0, ground := Ground.data }, { on := 10, ground := Ground.data }, { on := 9, ground := Ground.chain }], guard := none }) rfl (fun K hK => ?_) AllReadyH.nil
                · skip
                  refine wantCall2 ?_ 16 (.tmp 50) (.tmp 60) #[46, 53] ?_ (.agg #[.int .i64 (most : Nat), .slice a Y.length cp]) (.agg #[.int .i64 ok, .int .i64 oi, .int .i64 om, .int .i64 of, .int .i64 ot, .slice pB oL.length cB]) ?_ ?_ ?_ ((enters_of Try.func16 (by kernel_rfl) rfl) _ _) ?_
                  · rfl
                  · rfl
                  · rfl
                  · rfl
                  · rfl
                  refine (HDc.out _ U108).mono ?_
                  rintro o x110 ⟨a7, c7, Z, x7, rfl, d110, hZ110, hx110, s110, b110, nw110⟩
                  refine ⟨_, rfl, ?_⟩
                  have HZ7 := hid hZ110
                  have HX7 := hid hx110
                  have Nm11 := hid (show ∀ g, (Value.slice a7 Z.length c7).ownBlock = some g → g ≠ m107 from fun g e => by rcases nw110 g e with h | h; (have := (D6.out.row.lt g h).2; have := Z107; omega); (have := blk_lt n11_108; omega))
                  have Nm12 := hid (show ∀ g, (Value.slice a7 Z.length c7).ownBlock = some g → g ≠ m88 from fun g e => by rcases nw110 g e with h | h; (have := (D6.out.row.lt g h).2; have := Z88; omega); (have := blk_lt n12_108; omega))
                  clear hZ110 hx110 nw110
                  have U110 := (U108).trans b110
                  have n11_110 := (b110).block n11_108
                  have n12_110 := (b110).block n12_108
                  refine hK.out _ _ (PS.old U110 HPS.out) (fun _ => ?_)
                  clear hK K
                  (try simp only [Act.put]); (try simp only [List.setIfInBounds_toArray]); (try simp only [List.set_cons_succ]); (try simp only [List.set_cons_zero])
                  refine wpAnyH_take (i := 12) (oi := { dst := some 49, op := Op.move (Operand.tmp 61), type := 49, pos := "law.go:61", after := #[{ on := 11, ground := Ground.data }], guard := none }) (v := ?vk111) rfl (by kernel_rfl) (by kernel_rfl) (by kernel_rfl) (fun _ _ _ h => h) (Or.inl ⟨by rfl, ?hk111⟩) (PS.old U110 HPS.out) ?rk111
                  case hk111 => (intro wz hSw; (try dsimp only at hSw); go_simp; try with_reducible rfl)
                  (try simp only [Act.put]); (try simp only [List.setIfInBounds_toArray]); (try simp only [List.set_cons_succ]); (try simp only [List.set_cons_zero])
                  refine wpAnyH_take (i := 13) (oi := { dst := some 62, op := Op.extract (Operand.tmp 49) 0, type := 46, pos := "law.go:61", after := #[{ on := 12, ground := Ground.data }], guard := none }) (v := ?vk112) rfl (by kernel_rfl) (by kernel_rfl) (by kernel_rfl) (fun _ _ _ h => h) (Or.inl ⟨by rfl, ?hk112⟩) (PS.old U110 HPS.out) ?rk112
                  case hk112 => (intro wz hSw; (try dsimp only at hSw); go_simp; try with_reducible rfl)
                  (try simp only [Act.put]); (try simp only [List.setIfInBounds_toArray]); (try simp only [List.set_cons_succ]); (try simp only [List.set_cons_zero])
                  refine wpAnyH_take (i := 14) (oi := { dst := some 63, op := Op.extract (Operand.tmp 49) 1, type := 48, pos := "law.go:61", after := #[{ on := 12, ground := Ground.data }, { on := 18, ground := Ground.gcOnly Departure.lateStores }], guard := none }) (v := ?vk113) rfl (by kernel_rfl) (by kernel_rfl) (by kernel_rfl) (fun _ _ _ h => h) (Or.inl ⟨by rfl, ?hk113⟩) (PS.old U110 HPS.out) ?rk113
                  case hk113 => (intro wz hSw; (try dsimp only at hSw); go_simp; try with_reducible rfl)
                  (try simp only [Act.put]); (try simp only [List.setIfInBounds_toArray]); (try simp only [List.set_cons_succ]); (try simp only [List.set_cons_zero])
                  refine wpAnyH_take (i := 15) (oi := { dst := some 64, op := Op.extract (Operand.tmp 49) 2, type := 4, pos := "law.go:61", after := #[{ on := 12, ground := Ground.data }, { on := 19, ground := Ground.gcOnly Departure.lateStores }], guard := none }) (v := ?vk114) rfl (by kernel_rfl) (by kernel_rfl) (by kernel_rfl) (fun _ _ _ h => h) (Or.inl ⟨by rfl, ?hk114⟩) (PS.old U110 HPS.out) ?rk114
                  case hk114 => (intro wz hSw; (try dsimp only at hSw); go_simp; try with_reducible rfl)
                  (try simp only [Act.put]); (try simp only [List.setIfInBounds_toArray]); (try simp only [List.set_cons_succ]); (try simp only [List.set_cons_zero])
                  refine wpAnyH_ready (rs := [18]) (by kernel_rfl) (by simp) ?_
                  refine AllReadyH.cons (o := { dst := none, op := Op.store 46 (Operand.tmp 11) (Operand.tmp 62), type := 0, pos := "law.go:61", after := #[{ on := 16, ground := Ground.data }, { on := 13, ground := Ground.data }, { on := 11, ground := Ground.chain }, { on := 0, ground := Ground.phase }, { on := 1, ground := Ground.phase }, { on := 2, ground := Ground.phase }, { on := 3, ground := Ground.phase }, { on := 4, ground := Ground.phase }, { on := 5, ground := Ground.phase }, { on := 6, ground := Ground.phase }, { on := 7, ground := Ground.phase }, { on := 8, ground := Ground.phase }, { on := 9, ground := Ground.phase }, { on := 10, ground := Ground.phase }, { on := 11, ground := Ground.phase }, { on := 12, ground := Ground.phase }, { on := 13, ground := Ground.phase }, { on := 14, ground := Ground.textOnly Departure.lateStores }, { on := 15, ground := Ground.textOnly Departure.lateStores }, { on := 16, ground := Ground.phase }, { on := 17, ground := Ground.phase }], guard := none }) rfl (fun K hK => ?_) AllReadyH.nil
                  · skip
                    refine stepStoreN2 ?_ (.tmp 11) (.tmp 62) ?_ m107 (.int .i64 (most : Nat)) (.slice a7 Z.length c7) ?_ ?_ (there2 n11_110) ⟨rfl, rfl⟩ ?_
                    · rfl
                    · rfl
                    · rfl
                    · rfl
                    have ne115 : m88 ≠ m107 := fun e => by have h1 := n11_110; have h2 := n12_110; rw [e, h1] at h2; simp at h2
                    have q115 := set_other (v := .slice a7 Z.length c7) (i := 1) (set_other (v := .int .i64 (most : Nat)) (i := 0) n12_110 ne115) ne115
                    have U115 := ((U110).setCell (p := ⟨m107, 0, none⟩) Z107 (.int .i64 (most : Nat))).setCell (p := ⟨m107, 1, none⟩) Z107 (.slice a7 Z.length c7)
                    refine hK.out _ _ (PS.old U115 HPS.out) (fun _ => ?_)
                    clear hK K
                    (try simp only [Act.put]); (try simp only [List.setIfInBounds_toArray]); (try simp only [List.set_cons_succ]); (try simp only [List.set_cons_zero])
                    refine wpAnyH_ready (rs := [19]) (by kernel_rfl) (by simp) ?_
                    refine AllReadyH.cons (o := { dst := none, op := Op.store 48 (Operand.tmp 12) (Operand.tmp 63), type := 0, pos := "law.go:61", after := #[{ on := 17, ground := Ground.data }, { on := 14, ground := Ground.data }, { on := 18, ground := Ground.chain }, { on := 0, ground := Ground.phase }, { on := 1, ground := Ground.phase }, { on := 2, ground := Ground.phase }, { on := 3, ground := Ground.phase }, { on := 4, ground := Ground.phase }, { on := 5, ground := Ground.phase }, { on := 6, ground := Ground.phase }, { on := 7, ground := Ground.phase }, { on := 8, ground := Ground.phase }, { on := 9, ground := Ground.phase }, { on := 10, ground := Ground.phase }, { on := 11, ground := Ground.phase }, { on := 12, ground := Ground.phase }, { on := 13, ground := Ground.phase }, { on := 14, ground := Ground.phase }, { on := 15, ground := Ground.textOnly Departure.lateStores }, { on := 16, ground := Ground.phase }, { on := 17, ground := Ground.phase }, { on := 18, ground := Ground.phase }], guard := none }) rfl (fun K hK => ?_) AllReadyH.nil
                    · skip
                      refine stepStoreR3 ?_ (.tmp 12) (.tmp 63) ?_ m88 (.int .i64 x7.f) (.int .i64 x7.t) (.slice x7.a x7.L.length x7.c) ?_ ?_ (there3 q115) ⟨rfl, rfl, rfl⟩ ?_
                      · rfl
                      · rfl
                      · rfl
                      · rfl
                      have U116 := (((U115).setCell (p := ⟨m88, 0, none⟩) Z88 (.int .i64 x7.f)).setCell (p := ⟨m88, 1, none⟩) Z88 (.int .i64 x7.t)).setCell (p := ⟨m88, 2, none⟩) Z88 (.slice x7.a x7.L.length x7.c)
                      refine hK.out _ _ (PS.old U116 HPS.out) (fun _ => ?_)
                      clear hK K
                      (try simp only [Act.put]); (try simp only [List.setIfInBounds_toArray]); (try simp only [List.set_cons_succ]); (try simp only [List.set_cons_zero])
                      refine wpAnyH_ready (rs := [20]) (by kernel_rfl) (by simp) ?_
                      refine AllReadyH.cons (o := { dst := some 13, op := Op.assign (Operand.tmp 64), type := 4, pos := "law.go:61", after := #[{ on := 15, ground := Ground.data }, { on := 19, ground := Ground.chain }, { on := 0, ground := Ground.phase }, { on := 1, ground := Ground.phase }, { on := 2, ground := Ground.phase }, { on := 3, ground := Ground.phase }, { on := 4, ground := Ground.phase }, { on := 5, ground := Ground.phase }, { on := 6, ground := Ground.phase }, { on := 7, ground := Ground.phase }, { on := 8, ground := Ground.phase }, { on := 9, ground := Ground.phase }, { on := 10, ground := Ground.phase }, { on := 11, ground := Ground.phase }, { on := 12, ground := Ground.phase }, { on := 13, ground := Ground.phase }, { on := 14, ground := Ground.phase }, { on := 15, ground := Ground.phase }, { on := 16, ground := Ground.phase }, { on := 17, ground := Ground.phase }, { on := 18, ground := Ground.phase }, { on := 19, ground := Ground.phase }], guard := none }) rfl (fun K hK => ?_) AllReadyH.nil
                      · skip
                        go_simp
                        refine hK.out _ _ (PS.old U116 HPS.out) (fun _ => ?_)
                        clear hK K
                        (try simp only [Act.put]); (try simp only [List.setIfInBounds_toArray]); (try simp only [List.set_cons_succ]); (try simp only [List.set_cons_zero])
                        refine wpAnyH_done (by kernel_rfl) ?_ _
                        refine NoPanic.normal ?_
                        have FF := hid (rfin (p := .int .i64 (most : Nat)) (q := .slice a7 Z.length c7) (x := .int .i64 x7.f) (y := .int .i64 x7.t) (z := .slice x7.a x7.L.length x7.c) n11_110 n12_110)
                        have D7 := hid (show DocAt w (((((x110.setCell ⟨m107, 0, none⟩ (.int .i64 (most : Nat))).setCell ⟨m107, 1, none⟩ (.slice a7 Z.length c7)).setCell ⟨m88, 0, none⟩ (.int .i64 x7.f)).setCell ⟨m88, 1, none⟩ (.int .i64 x7.t)).setCell ⟨m88, 2, none⟩ (.slice x7.a x7.L.length x7.c)) (.slice a7 Z.length c7) Z from DocAt.chg2 (B := 0) d110 FF.out.2.2 n11_110 n12_110 (fun g e => ⟨Nm11.out g e, Nm12.out g e⟩))
                        have S7 := hid (show Sr w (((((x110.setCell ⟨m107, 0, none⟩ (.int .i64 (most : Nat))).setCell ⟨m107, 1, none⟩ (.slice a7 Z.length c7)).setCell ⟨m88, 0, none⟩ (.int .i64 x7.f)).setCell ⟨m88, 1, none⟩ (.int .i64 x7.t)).setCell ⟨m88, 2, none⟩ (.slice x7.a x7.L.length x7.c)) x7.v x7.L from Sr.chg2 s110 FF.out.2.2 n11_110 n12_110)
                        have F11 := hid (show (((((x110.setCell ⟨m107, 0, none⟩ (.int .i64 (most : Nat))).setCell ⟨m107, 1, none⟩ (.slice a7 Z.length c7)).setCell ⟨m88, 0, none⟩ (.int .i64 x7.f)).setCell ⟨m88, 1, none⟩ (.int .i64 x7.t)).setCell ⟨m88, 2, none⟩ (.slice x7.a x7.L.length x7.c)).heap[m107]? = some (.cells #[.int .i64 (most : Nat), .slice a7 Z.length c7] 46 (0, 0)) from FF.out.1)
                        have F12 := hid (show (((((x110.setCell ⟨m107, 0, none⟩ (.int .i64 (most : Nat))).setCell ⟨m107, 1, none⟩ (.slice a7 Z.length c7)).setCell ⟨m88, 0, none⟩ (.int .i64 x7.f)).setCell ⟨m88, 1, none⟩ (.int .i64 x7.t)).setCell ⟨m88, 2, none⟩ (.slice x7.a x7.L.length x7.c)).heap[m88]? = some (.cells #[.int .i64 x7.f, .int .i64 x7.t, .slice x7.a x7.L.length x7.c] 48 (0, 0)) from FF.out.2.1)
                        have UZ := hid (show Old w6 (((((x110.setCell ⟨m107, 0, none⟩ (.int .i64 (most : Nat))).setCell ⟨m107, 1, none⟩ (.slice a7 Z.length c7)).setCell ⟨m88, 0, none⟩ (.int .i64 x7.f)).setCell ⟨m88, 1, none⟩ (.int .i64 x7.t)).setCell ⟨m88, 2, none⟩ (.slice x7.a x7.L.length x7.c)) from U116)
                        clear FF Nm11 Nm12 n11_110 n12_110 q115 d110 s110 U116
                        generalize (((((x110.setCell ⟨m107, 0, none⟩ (.int .i64 (most : Nat))).setCell ⟨m107, 1, none⟩ (.slice a7 Z.length c7)).setCell ⟨m88, 0, none⟩ (.int .i64 x7.f)).setCell ⟨m88, 1, none⟩ (.int .i64 x7.t)).setCell ⟨m88, 2, none⟩ (.slice x7.a x7.L.length x7.c)) = w7 at *
                        generalize m107 = b11 at *
                        generalize m88 = b12 at *
                        have N7 := hid (N6.out.old UZ.out)
                        have HBm7 := hid (UZ.out.block HBm6.out)
                        have HB97 := hid (UZ.out.block HB9.out)
                        have O7 := hid (O6.out.old UZ.out)
                        clear N6 HBm6 HB9 O6 D6 HBo6 HPS HOf HDc UZ
                        obtain ⟨xf7, xt7, xa7, xc7, xL7⟩ := x7
                        obtain ⟨e1, e2, e3⟩ : xf7 = xf ∧ xt7 = xt ∧ xL7 = xL := by
                          have h := HX7.out
                          unfold Lt.p at h
                          simp only [Prod.mk.injEq] at h
                          exact h
                        clear HX7
                        subst e1 e2 e3
                        dsimp only at S7 F12
                        unfold Lt.v at S7
                        dsimp only at S7
                        obtain ⟨r0, r1, -, -⟩ := box2 F11.out
                        obtain ⟨s0, s1, sf0, sf1⟩ := box2 HBm7.out
                        go_upto_region 12 with (fail)
                        have M8 := hid (PA.set (cs := #[]) (most := most) N7.out HBm7.out HNw.out D7.out HZ7.out)
                        have ne12 : b12 ≠ bm := fun e => by have h1 := F12.out; rw [e, HBm7.out] at h1; simp at h1
                        have ne9 : b9 ≠ bm := fun e => by have h1 := HB97.out; rw [e, HBm7.out] at h1; simp at h1
                        have G12 := hid (set_other (v := .slice a7 Z.length c7) (i := 1) (set_other (v := .int .i64 (most : Nat)) (i := 0) F12.out ne12) ne12)
                        have G9 := hid (set_other (v := .slice a7 Z.length c7) (i := 1) (set_other (v := .int .i64 (most : Nat)) (i := 0) HB97.out ne9) ne9)
                        have O8 := hid (O7.out.chg (chg2 w7 bm (.int .i64 (most : Nat)) (.slice a7 Z.length c7)) (O7.out.offT HBm7.out (by decide)))
                        have S8 := hid (S7.out.chgT (chg2 w7 bm (.int .i64 (most : Nat)) (.slice a7 Z.length c7)) HBm7.out)
                        clear r0 r1 s0 s1 sf0 sf1 F11 F12 HBm7 HB97 O7 N7 S7 D7 ne12 ne9
                        generalize (w7.setCell ⟨bm, 0, none⟩ (.int .i64 (most : Nat))).setCell ⟨bm, 1, none⟩ (.slice a7 Z.length c7) = w8 at *
                        have HS8 := hid (show (fun wz => (wz.cell? ⟨b9, 0, none⟩ = some (.int .i64 xf7) ∧ wz.cell? ⟨b9, 1, none⟩ = some (.int .i64 xt7) ∧ wz.cell? ⟨b9, 2, none⟩ = some (.slice a5 xL7.length c5)) ∧ (wz.cell? ⟨b12, 0, none⟩ = some (.int .i64 xf7) ∧ wz.cell? ⟨b12, 1, none⟩ = some (.int .i64 xt7) ∧ wz.cell? ⟨b12, 2, none⟩ = some (.slice xa7 xL7.length xc7)) ∧ wz.cell? ⟨bm, 1, none⟩ = some (.slice a7 Z.length c7)) w8 from ⟨⟨(box3 G9.out).1, (box3 G9.out).2.1, (box3 G9.out).2.2.1⟩, ⟨(box3 G12.out).1, (box3 G12.out).2.1, (box3 G12.out).2.2.1⟩, (box2 M8.out.box).2.1⟩)
                        dsimp only at HS8
                        have HOf8 := hid (fun (W : World) (u : Old w8 W) => rof_any xf7 xt7 a5 xL7.length c5 W)
                        have HSm8 := hid (fun (W : World) (u : Old w8 W) => rsame_any xf7 xt7 a5 xa7 c5 xc7 xL7 W ((O8.out.old u).row) ((S8.out.old u).row (M8.out.net.base.trans u)))
                        have HLn8 := hid (show ∀ W, Old w8 W → Calls Try.prog 11 #[.pointer (some ⟨nb, 0, none⟩)] W fun e w' => e = .returned (.int .i64 (Z.length : Nat)) ∧ Old W w' from fun W u => (lenN w W nb most P5 [] (M8.out.net.old u)).mono fun e w' q => ⟨by rw [q.1, ← HZ7.out, List.length_map], by rw [q.2]; exact Old.refl _⟩)
                        clear G12 G9 O8 S8
                        cases b5
                        case false =>
                          refine wp_region_noPanic ?_
                          refine wp_region_held_drew (S := fun wz => (wz.cell? ⟨b9, 0, none⟩ = some (.int .i64 xf7) ∧ wz.cell? ⟨b9, 1, none⟩ = some (.int .i64 xt7) ∧ wz.cell? ⟨b9, 2, none⟩ = some (.slice a5 xL7.length c5)) ∧ (wz.cell? ⟨b12, 0, none⟩ = some (.int .i64 xf7) ∧ wz.cell? ⟨b12, 1, none⟩ = some (.int .i64 xt7) ∧ wz.cell? ⟨b12, 2, none⟩ = some (.slice xa7 xL7.length xc7)) ∧ wz.cell? ⟨bm, 1, none⟩ = some (.slice a7 Z.length c7)) (by kernel_rfl) ?_ (fun hHeld => ?_)
                          · exact T7.old ((Old.refl _).drew) HS8.out
                          (try simp only [Act.put]); (try simp only [List.setIfInBounds_toArray]); (try simp only [List.set_cons_succ]); (try simp only [List.set_cons_zero])
                          clear hHeld
                          refine wpAnyH_take (i := 0) (oi := { dst := some 66, op := Op.move (Operand.tmp 10), type := 4, pos := "law.go:63", after := #[], guard := none }) (v := ?vk513) rfl (by kernel_rfl) (by kernel_rfl) (by kernel_rfl) (fun _ _ _ h => h) (Or.inl ⟨by rfl, ?hk513⟩) (T7.old ((Old.refl w8).drew) HS8.out) ?rk513
                          case hk513 => (intro wz hSw; (try dsimp only at hSw); go_simp; try with_reducible rfl)
                          (try simp only [Act.put]); (try simp only [List.setIfInBounds_toArray]); (try simp only [List.set_cons_succ]); (try simp only [List.set_cons_zero])
                          refine wpAnyH_take (i := 1) (oi := { dst := some 67, op := Op.move (Operand.tmp 13), type := 4, pos := "law.go:63", after := #[], guard := none }) (v := ?vk514) rfl (by kernel_rfl) (by kernel_rfl) (by kernel_rfl) (fun _ _ _ h => h) (Or.inl ⟨by rfl, ?hk514⟩) (T7.old ((Old.refl w8).drew) HS8.out) ?rk514
                          case hk514 => (intro wz hSw; (try dsimp only at hSw); go_simp; try with_reducible rfl)
                          (try simp only [Act.put]); (try simp only [List.setIfInBounds_toArray]); (try simp only [List.set_cons_succ]); (try simp only [List.set_cons_zero])
                          refine wpAnyH_take (i := 2) (oi := { dst := some 68, op := Op.binOp BinOp.neq 4 (Operand.tmp 66) (Operand.tmp 67) 4, type := 4, pos := "law.go:63", after := #[{ on := 0, ground := Ground.data }, { on := 1, ground := Ground.data }], guard := none }) (v := ?vk515) rfl (by kernel_rfl) (by kernel_rfl) (by kernel_rfl) (fun _ _ _ h => h) (Or.inl ⟨by rfl, ?hk515⟩) (T7.old ((Old.refl w8).drew) HS8.out) ?rk515
                          case hk515 => (intro wz hSw; (try dsimp only at hSw); go_simp; try with_reducible rfl)
                          (try simp only [Act.put]); (try simp only [List.setIfInBounds_toArray]); (try simp only [List.set_cons_succ]); (try simp only [List.set_cons_zero])
                          refine wpAnyH_take (i := 3) (oi := { dst := some 69, op := Op.move (Operand.tmp 68), type := 4, pos := "law.go:63", after := #[{ on := 2, ground := Ground.data }], guard := none }) (v := ?vk516) rfl (by kernel_rfl) (by kernel_rfl) (by kernel_rfl) (fun _ _ _ h => h) (Or.inl ⟨by rfl, ?hk516⟩) (T7.old ((Old.refl w8).drew) HS8.out) ?rk516
                          case hk516 => (intro wz hSw; (try dsimp only at hSw); go_simp; try with_reducible rfl)
                          (try simp only [Act.put]); (try simp only [List.setIfInBounds_toArray]); (try simp only [List.set_cons_succ]); (try simp only [List.set_cons_zero])
                          refine wpAnyH_take (i := 4) (oi := { dst := some 70, op := Op.load 30 (Operand.tmp 9), type := 30, pos := "law.go:63", after := #[{ on := 3, ground := Ground.guard }], guard := some (3, false) }) (v := ?vk517) rfl (by kernel_rfl) (by kernel_rfl) (by kernel_rfl) (fun _ _ _ h => h) (Or.inl ⟨by rfl, ?hk517⟩) (T7.old ((Old.refl w8).drew) HS8.out) ?rk517
                          case hk517 => (intro wz hSw; (try dsimp only at hSw); go_simp; try with_reducible rfl)
                          (try simp only [Act.put]); (try simp only [List.setIfInBounds_toArray]); (try simp only [List.set_cons_succ]); (try simp only [List.set_cons_zero])
                          refine wpAnyH_take (i := 6) (oi := { dst := some 72, op := Op.load 48 (Operand.tmp 12), type := 48, pos := "law.go:63", after := #[{ on := 3, ground := Ground.guard }], guard := some (3, false) }) (v := ?vk518) rfl (by kernel_rfl) (by kernel_rfl) (by kernel_rfl) (fun _ _ _ h => h) (Or.inl ⟨by rfl, ?hk518⟩) (T7.old ((Old.refl w8).drew) HS8.out) ?rk518
                          case hk518 => (intro wz hSw; (try dsimp only at hSw); go_simp; try with_reducible rfl)
                          (try simp only [Act.put]); (try simp only [List.setIfInBounds_toArray]); (try simp only [List.set_cons_succ]); (try simp only [List.set_cons_zero])
                          refine wpAnyH_ready (rs := [5]) (by kernel_rfl) (by simp) ?_
                          refine AllReadyH.cons (o := { dst := some 71, op := Op.call { callee := Callee.value (Operand.func 17), args := #[Operand.tmp 70], argTypes := #[30] }, type := 48, pos := "law.go:63", after := #[{ on := 4, ground := Ground.data }, { on := 3, ground := Ground.chain }, { on := 3, ground := Ground.guard }], guard := some (3, false) }) rfl (fun K hK => ?_) AllReadyH.nil
                          refine wantCall1 ?_ 17 (.tmp 70) #[30] ?_ (.agg #[.int .i64 xf7, .int .i64 xt7, .slice a5 xL7.length c5]) ?_ ?_ ((enters_of Try.func17 (by kernel_rfl) rfl) _ _) ?_
                          · rfl
                          · rfl
                          · rfl
                          · rfl
                          refine (HOf8.out _ ((Old.refl w8).drew)).mono ?_
                          rintro o x519 ⟨rfl, b519⟩
                          refine ⟨_, rfl, ?_⟩
                          have U519 := ((Old.refl w8).drew).trans b519
                          refine hK.out _ _ (T7.old U519 HS8.out) (fun _ => ?_)
                          clear hK K
                          (try simp only [Act.put]); (try simp only [List.setIfInBounds_toArray]); (try simp only [List.set_cons_succ]); (try simp only [List.set_cons_zero])
                          refine wpAnyH_ready (rs := [7]) (by kernel_rfl) (by simp) ?_
                          refine AllReadyH.cons (o := { dst := some 73, op := Op.call { callee := Callee.value (Operand.func 18), args := #[Operand.tmp 71, Operand.tmp 72], argTypes := #[48, 48] }, type := 4, pos := "law.go:63", after := #[{ on := 5, ground := Ground.data }, { on := 6, ground := Ground.data }, { on := 5, ground := Ground.chain }, { on := 3, ground := Ground.guard }], guard := some (3, false) }) rfl (fun K hK => ?_) AllReadyH.nil
                          refine wantCall2 ?_ 18 (.tmp 71) (.tmp 72) #[48, 48] ?_ (.agg #[.int .i64 xf7, .int .i64 xt7, .slice a5 xL7.length c5]) (.agg #[.int .i64 xf7, .int .i64 xt7, .slice xa7 xL7.length xc7]) ?_ ?_ ?_ ((enters_of Try.func18 (by kernel_rfl) rfl) _ _) ?_
                          · rfl
                          · rfl
                          · rfl
                          · rfl
                          · rfl
                          refine (HSm8.out _ U519).mono ?_
                          rintro o x520 ⟨rfl, b520⟩
                          refine ⟨_, rfl, ?_⟩
                          have U520 := U519.trans b520
                          refine hK.out _ _ (T7.old U520 HS8.out) (fun _ => ?_)
                          clear hK K
                          (try simp only [Act.put]); (try simp only [List.setIfInBounds_toArray]); (try simp only [List.set_cons_succ]); (try simp only [List.set_cons_zero])
                          refine wpAnyH_take (i := 8) (oi := { dst := some 74, op := Op.unOp UnOp.not 4 (Operand.tmp 73), type := 4, pos := "law.go:63", after := #[{ on := 7, ground := Ground.data }, { on := 3, ground := Ground.guard }], guard := some (3, false) }) (v := ?vk521) rfl (by kernel_rfl) (by kernel_rfl) (by kernel_rfl) (fun _ _ _ h => h) (Or.inl ⟨by rfl, ?hk521⟩) (T7.old U520 HS8.out) ?rk521
                          case hk521 => (intro wz hSw; (try dsimp only at hSw); go_simp; try with_reducible rfl)
                          (try simp only [Act.put]); (try simp only [List.setIfInBounds_toArray]); (try simp only [List.set_cons_succ]); (try simp only [List.set_cons_zero])
                          refine wpAnyH_take (i := 9) (oi := { dst := some 75, op := Op.pick (Operand.tmp 69) (Operand.const (Value.bool true)) (Operand.tmp 74), type := 4, pos := "law.go:63", after := #[{ on := 3, ground := Ground.data }, { on := 8, ground := Ground.data }], guard := none }) (v := ?vk522) rfl (by kernel_rfl) (by kernel_rfl) (by kernel_rfl) (fun _ _ _ h => h) (Or.inl ⟨by rfl, ?hk522⟩) (T7.old U520 HS8.out) ?rk522
                          case hk522 => (intro wz hSw; (try dsimp only at hSw); go_simp; try with_reducible rfl)
                          (try simp only [Act.put]); (try simp only [List.setIfInBounds_toArray]); (try simp only [List.set_cons_succ]); (try simp only [List.set_cons_zero])
                          refine wpAnyH_take (i := 10) (oi := { dst := some 76, op := Op.move (Operand.tmp 75), type := 4, pos := "law.go:63", after := #[{ on := 9, ground := Ground.data }, { on := 7, ground := Ground.chain }], guard := none }) (v := ?vk523) rfl (by kernel_rfl) (by kernel_rfl) (by kernel_rfl) (fun _ _ _ h => h) (Or.inl ⟨by rfl, ?hk523⟩) (T7.old U520 HS8.out) ?rk523
                          case hk523 => (intro wz hSw; (try dsimp only at hSw); go_simp; try with_reducible rfl)
                          (try simp only [Act.put]); (try simp only [List.setIfInBounds_toArray]); (try simp only [List.set_cons_succ]); (try simp only [List.set_cons_zero])
                          refine wpAnyH_take (i := 11) (oi := { dst := some 77, op := Op.move (Operand.tmp 5), type := 23, pos := "law.go:63", after := #[{ on := 10, ground := Ground.guard }], guard := some (10, false) }) (v := ?vk524) rfl (by kernel_rfl) (by kernel_rfl) (by kernel_rfl) (fun _ _ _ h => h) (Or.inl ⟨by rfl, ?hk524⟩) (T7.old U520 HS8.out) ?rk524
                          case hk524 => (intro wz hSw; (try dsimp only at hSw); go_simp; try with_reducible rfl)
                          (try simp only [Act.put]); (try simp only [List.setIfInBounds_toArray]); (try simp only [List.set_cons_succ]); (try simp only [List.set_cons_zero])
                          refine wpAnyH_take (i := 13) (oi := { dst := some 79, op := Op.fieldAddr 46 (Operand.tmp 6) 1, type := 0, pos := "law.go:63", after := #[{ on := 10, ground := Ground.guard }], guard := some (10, false) }) (v := ?vk525) rfl (by kernel_rfl) (by kernel_rfl) (by kernel_rfl) (fun _ _ _ h => h) (Or.inl ⟨by rfl, ?hk525⟩) (T7.old U520 HS8.out) ?rk525
                          case hk525 => (intro wz hSw; (try dsimp only at hSw); go_simp; try with_reducible rfl)
                          (try simp only [Act.put]); (try simp only [List.setIfInBounds_toArray]); (try simp only [List.set_cons_succ]); (try simp only [List.set_cons_zero])
                          refine wpAnyH_take (i := 14) (oi := { dst := some 80, op := Op.load 44 (Operand.tmp 79), type := 44, pos := "law.go:63", after := #[{ on := 13, ground := Ground.data }, { on := 10, ground := Ground.guard }], guard := some (10, false) }) (v := ?vk526) rfl (by kernel_rfl) (by kernel_rfl) (by kernel_rfl) (fun _ _ _ h => h) (Or.inl ⟨by rfl, ?hk526⟩) (T7.old U520 HS8.out) ?rk526
                          case hk526 => (intro wz hSw; (try dsimp only at hSw); go_simp; try with_reducible rfl)
                          (try simp only [Act.put]); (try simp only [List.setIfInBounds_toArray]); (try simp only [List.set_cons_succ]); (try simp only [List.set_cons_zero])
                          refine wpAnyH_take (i := 15) (oi := { dst := some 81, op := Op.call { callee := Callee.builtin Builtin.len, args := #[Operand.tmp 80], argTypes := #[44] }, type := 3, pos := "law.go:63", after := #[{ on := 14, ground := Ground.data }, { on := 10, ground := Ground.guard }], guard := some (10, false) }) (v := ?vk527) rfl (by kernel_rfl) (by kernel_rfl) (by kernel_rfl) (fun _ _ _ h => h) (Or.inl ⟨by rfl, ?hk527⟩) (T7.old U520 HS8.out) ?rk527
                          case hk527 => (intro wz hSw; (try dsimp only at hSw); go_simp; try with_reducible rfl)
                          (try simp only [Act.put]); (try simp only [List.setIfInBounds_toArray]); (try simp only [List.set_cons_succ]); (try simp only [List.set_cons_zero])
                          refine wpAnyH_ready (rs := [12]) (by kernel_rfl) (by simp) ?_
                          refine AllReadyH.cons (o := { dst := some 78, op := Op.call { callee := Callee.value (Operand.func 11), args := #[Operand.tmp 77], argTypes := #[23] }, type := 3, pos := "law.go:63", after := #[{ on := 11, ground := Ground.data }, { on := 10, ground := Ground.chain }, { on := 10, ground := Ground.guard }], guard := some (10, false) }) rfl (fun K hK => ?_) AllReadyH.nil
                          refine wantCall1 ?_ 11 (.tmp 77) #[23] ?_ (.pointer (some ⟨nb, 0, none⟩)) ?_ ?_ ((enters_of Try.func11 (by kernel_rfl) rfl) _ _) ?_
                          · rfl
                          · rfl
                          · rfl
                          · rfl
                          refine (HLn8.out _ U520).mono ?_
                          rintro o x528 ⟨rfl, b528⟩
                          refine ⟨_, rfl, ?_⟩
                          have U528 := U520.trans b528
                          refine hK.out _ _ (T7.old U528 HS8.out) (fun _ => ?_)
                          clear hK K
                          (try simp only [Act.put]); (try simp only [List.setIfInBounds_toArray]); (try simp only [List.set_cons_succ]); (try simp only [List.set_cons_zero])
                          refine wpAnyH_take (i := 16) (oi := { dst := some 82, op := Op.binOp BinOp.neq 3 (Operand.tmp 78) (Operand.tmp 81) 3, type := 4, pos := "law.go:63", after := #[{ on := 12, ground := Ground.data }, { on := 15, ground := Ground.data }, { on := 10, ground := Ground.guard }], guard := some (10, false) }) (v := ?vk529) rfl (by kernel_rfl) (by kernel_rfl) (by kernel_rfl) (fun _ _ _ h => h) (Or.inl ⟨by rfl, ?hk529⟩) (T7.old U528 HS8.out) ?rk529
                          case hk529 => (intro wz hSw; (try dsimp only at hSw); go_simp; try with_reducible rfl)
                          (try simp only [Act.put]); (try simp only [List.setIfInBounds_toArray]); (try simp only [List.set_cons_succ]); (try simp only [List.set_cons_zero])
                          refine wpAnyH_take (i := 17) (oi := { dst := some 83, op := Op.pick (Operand.tmp 76) (Operand.const (Value.bool true)) (Operand.tmp 82), type := 4, pos := "law.go:63", after := #[{ on := 10, ground := Ground.data }, { on := 16, ground := Ground.data }], guard := none }) (v := ?vk530) rfl (by kernel_rfl) (by kernel_rfl) (by kernel_rfl) (fun _ _ _ h => h) (Or.inl ⟨by rfl, ?hk530⟩) (T7.old U528 HS8.out) ?rk530
                          case hk530 => (intro wz hSw; (try dsimp only at hSw); go_simp; try with_reducible rfl)
                          (try simp only [Act.put]); (try simp only [List.setIfInBounds_toArray]); (try simp only [List.set_cons_succ]); (try simp only [List.set_cons_zero])
                          refine wpAnyH_done (by kernel_rfl) ?_ _
                          refine NoPanic.normal ?_
                          have UY := hid U528
                          go_wp2
                          go_roundw
                          case rel => exact ⟨i + 1, a7, c7, Z, P5, hlt, by go_num, M8.out.old UY.out⟩
                          case measure => simp [intOf]; omega
                        case true =>
                          refine wp_region_noPanic ?_
                          refine wp_region_held_drew (S := fun wz => (wz.cell? ⟨b9, 0, none⟩ = some (.int .i64 xf7) ∧ wz.cell? ⟨b9, 1, none⟩ = some (.int .i64 xt7) ∧ wz.cell? ⟨b9, 2, none⟩ = some (.slice a5 xL7.length c5)) ∧ (wz.cell? ⟨b12, 0, none⟩ = some (.int .i64 xf7) ∧ wz.cell? ⟨b12, 1, none⟩ = some (.int .i64 xt7) ∧ wz.cell? ⟨b12, 2, none⟩ = some (.slice xa7 xL7.length xc7)) ∧ wz.cell? ⟨bm, 1, none⟩ = some (.slice a7 Z.length c7)) (by kernel_rfl) ?_ (fun hHeld => ?_)
                          · exact T7.old ((Old.refl _).drew) HS8.out
                          (try simp only [Act.put]); (try simp only [List.setIfInBounds_toArray]); (try simp only [List.set_cons_succ]); (try simp only [List.set_cons_zero])
                          clear hHeld
                          refine wpAnyH_take (i := 0) (oi := { dst := some 66, op := Op.move (Operand.tmp 10), type := 4, pos := "law.go:63", after := #[], guard := none }) (v := ?vk531) rfl (by kernel_rfl) (by kernel_rfl) (by kernel_rfl) (fun _ _ _ h => h) (Or.inl ⟨by rfl, ?hk531⟩) (T7.old ((Old.refl w8).drew) HS8.out) ?rk531
                          case hk531 => (intro wz hSw; (try dsimp only at hSw); go_simp; try with_reducible rfl)
                          (try simp only [Act.put]); (try simp only [List.setIfInBounds_toArray]); (try simp only [List.set_cons_succ]); (try simp only [List.set_cons_zero])
                          refine wpAnyH_take (i := 1) (oi := { dst := some 67, op := Op.move (Operand.tmp 13), type := 4, pos := "law.go:63", after := #[], guard := none }) (v := ?vk532) rfl (by kernel_rfl) (by kernel_rfl) (by kernel_rfl) (fun _ _ _ h => h) (Or.inl ⟨by rfl, ?hk532⟩) (T7.old ((Old.refl w8).drew) HS8.out) ?rk532
                          case hk532 => (intro wz hSw; (try dsimp only at hSw); go_simp; try with_reducible rfl)
                          (try simp only [Act.put]); (try simp only [List.setIfInBounds_toArray]); (try simp only [List.set_cons_succ]); (try simp only [List.set_cons_zero])
                          refine wpAnyH_take (i := 2) (oi := { dst := some 68, op := Op.binOp BinOp.neq 4 (Operand.tmp 66) (Operand.tmp 67) 4, type := 4, pos := "law.go:63", after := #[{ on := 0, ground := Ground.data }, { on := 1, ground := Ground.data }], guard := none }) (v := ?vk533) rfl (by kernel_rfl) (by kernel_rfl) (by kernel_rfl) (fun _ _ _ h => h) (Or.inl ⟨by rfl, ?hk533⟩) (T7.old ((Old.refl w8).drew) HS8.out) ?rk533
                          case hk533 => (intro wz hSw; (try dsimp only at hSw); go_simp; try with_reducible rfl)
                          (try simp only [Act.put]); (try simp only [List.setIfInBounds_toArray]); (try simp only [List.set_cons_succ]); (try simp only [List.set_cons_zero])
                          refine wpAnyH_take (i := 3) (oi := { dst := some 69, op := Op.move (Operand.tmp 68), type := 4, pos := "law.go:63", after := #[{ on := 2, ground := Ground.data }], guard := none }) (v := ?vk534) rfl (by kernel_rfl) (by kernel_rfl) (by kernel_rfl) (fun _ _ _ h => h) (Or.inl ⟨by rfl, ?hk534⟩) (T7.old ((Old.refl w8).drew) HS8.out) ?rk534
                          case hk534 => (intro wz hSw; (try dsimp only at hSw); go_simp; try with_reducible rfl)
                          (try simp only [Act.put]); (try simp only [List.setIfInBounds_toArray]); (try simp only [List.set_cons_succ]); (try simp only [List.set_cons_zero])
                          refine wpAnyH_take (i := 4) (oi := { dst := some 70, op := Op.load 30 (Operand.tmp 9), type := 30, pos := "law.go:63", after := #[{ on := 3, ground := Ground.guard }], guard := some (3, false) }) (v := ?vk535) rfl (by kernel_rfl) (by kernel_rfl) (by kernel_rfl) (fun _ _ _ h => h) (Or.inl ⟨by rfl, ?hk535⟩) (T7.old ((Old.refl w8).drew) HS8.out) ?rk535
                          case hk535 => (intro wz hSw; (try dsimp only at hSw); go_simp; try with_reducible rfl)
                          (try simp only [Act.put]); (try simp only [List.setIfInBounds_toArray]); (try simp only [List.set_cons_succ]); (try simp only [List.set_cons_zero])
                          refine wpAnyH_take (i := 6) (oi := { dst := some 72, op := Op.load 48 (Operand.tmp 12), type := 48, pos := "law.go:63", after := #[{ on := 3, ground := Ground.guard }], guard := some (3, false) }) (v := ?vk536) rfl (by kernel_rfl) (by kernel_rfl) (by kernel_rfl) (fun _ _ _ h => h) (Or.inl ⟨by rfl, ?hk536⟩) (T7.old ((Old.refl w8).drew) HS8.out) ?rk536
                          case hk536 => (intro wz hSw; (try dsimp only at hSw); go_simp; try with_reducible rfl)
                          (try simp only [Act.put]); (try simp only [List.setIfInBounds_toArray]); (try simp only [List.set_cons_succ]); (try simp only [List.set_cons_zero])
                          refine wpAnyH_ready (rs := [5]) (by kernel_rfl) (by simp) ?_
                          refine AllReadyH.cons (o := { dst := some 71, op := Op.call { callee := Callee.value (Operand.func 17), args := #[Operand.tmp 70], argTypes := #[30] }, type := 48, pos := "law.go:63", after := #[{ on := 4, ground := Ground.data }, { on := 3, ground := Ground.chain }, { on := 3, ground := Ground.guard }], guard := some (3, false) }) rfl (fun K hK => ?_) AllReadyH.nil
                          refine wantCall1 ?_ 17 (.tmp 70) #[30] ?_ (.agg #[.int .i64 xf7, .int .i64 xt7, .slice a5 xL7.length c5]) ?_ ?_ ((enters_of Try.func17 (by kernel_rfl) rfl) _ _) ?_
                          · rfl
                          · rfl
                          · rfl
                          · rfl
                          refine (HOf8.out _ ((Old.refl w8).drew)).mono ?_
                          rintro o x537 ⟨rfl, b537⟩
                          refine ⟨_, rfl, ?_⟩
                          have U537 := ((Old.refl w8).drew).trans b537
                          refine hK.out _ _ (T7.old U537 HS8.out) (fun _ => ?_)
                          clear hK K
                          (try simp only [Act.put]); (try simp only [List.setIfInBounds_toArray]); (try simp only [List.set_cons_succ]); (try simp only [List.set_cons_zero])
                          refine wpAnyH_ready (rs := [7]) (by kernel_rfl) (by simp) ?_
                          refine AllReadyH.cons (o := { dst := some 73, op := Op.call { callee := Callee.value (Operand.func 18), args := #[Operand.tmp 71, Operand.tmp 72], argTypes := #[48, 48] }, type := 4, pos := "law.go:63", after := #[{ on := 5, ground := Ground.data }, { on := 6, ground := Ground.data }, { on := 5, ground := Ground.chain }, { on := 3, ground := Ground.guard }], guard := some (3, false) }) rfl (fun K hK => ?_) AllReadyH.nil
                          refine wantCall2 ?_ 18 (.tmp 71) (.tmp 72) #[48, 48] ?_ (.agg #[.int .i64 xf7, .int .i64 xt7, .slice a5 xL7.length c5]) (.agg #[.int .i64 xf7, .int .i64 xt7, .slice xa7 xL7.length xc7]) ?_ ?_ ?_ ((enters_of Try.func18 (by kernel_rfl) rfl) _ _) ?_
                          · rfl
                          · rfl
                          · rfl
                          · rfl
                          · rfl
                          refine (HSm8.out _ U537).mono ?_
                          rintro o x538 ⟨rfl, b538⟩
                          refine ⟨_, rfl, ?_⟩
                          have U538 := U537.trans b538
                          refine hK.out _ _ (T7.old U538 HS8.out) (fun _ => ?_)
                          clear hK K
                          (try simp only [Act.put]); (try simp only [List.setIfInBounds_toArray]); (try simp only [List.set_cons_succ]); (try simp only [List.set_cons_zero])
                          refine wpAnyH_take (i := 8) (oi := { dst := some 74, op := Op.unOp UnOp.not 4 (Operand.tmp 73), type := 4, pos := "law.go:63", after := #[{ on := 7, ground := Ground.data }, { on := 3, ground := Ground.guard }], guard := some (3, false) }) (v := ?vk539) rfl (by kernel_rfl) (by kernel_rfl) (by kernel_rfl) (fun _ _ _ h => h) (Or.inl ⟨by rfl, ?hk539⟩) (T7.old U538 HS8.out) ?rk539
                          case hk539 => (intro wz hSw; (try dsimp only at hSw); go_simp; try with_reducible rfl)
                          (try simp only [Act.put]); (try simp only [List.setIfInBounds_toArray]); (try simp only [List.set_cons_succ]); (try simp only [List.set_cons_zero])
                          refine wpAnyH_take (i := 9) (oi := { dst := some 75, op := Op.pick (Operand.tmp 69) (Operand.const (Value.bool true)) (Operand.tmp 74), type := 4, pos := "law.go:63", after := #[{ on := 3, ground := Ground.data }, { on := 8, ground := Ground.data }], guard := none }) (v := ?vk540) rfl (by kernel_rfl) (by kernel_rfl) (by kernel_rfl) (fun _ _ _ h => h) (Or.inl ⟨by rfl, ?hk540⟩) (T7.old U538 HS8.out) ?rk540
                          case hk540 => (intro wz hSw; (try dsimp only at hSw); go_simp; try with_reducible rfl)
                          (try simp only [Act.put]); (try simp only [List.setIfInBounds_toArray]); (try simp only [List.set_cons_succ]); (try simp only [List.set_cons_zero])
                          refine wpAnyH_take (i := 10) (oi := { dst := some 76, op := Op.move (Operand.tmp 75), type := 4, pos := "law.go:63", after := #[{ on := 9, ground := Ground.data }, { on := 7, ground := Ground.chain }], guard := none }) (v := ?vk541) rfl (by kernel_rfl) (by kernel_rfl) (by kernel_rfl) (fun _ _ _ h => h) (Or.inl ⟨by rfl, ?hk541⟩) (T7.old U538 HS8.out) ?rk541
                          case hk541 => (intro wz hSw; (try dsimp only at hSw); go_simp; try with_reducible rfl)
                          (try simp only [Act.put]); (try simp only [List.setIfInBounds_toArray]); (try simp only [List.set_cons_succ]); (try simp only [List.set_cons_zero])
                          refine wpAnyH_take (i := 11) (oi := { dst := some 77, op := Op.move (Operand.tmp 5), type := 23, pos := "law.go:63", after := #[{ on := 10, ground := Ground.guard }], guard := some (10, false) }) (v := ?vk542) rfl (by kernel_rfl) (by kernel_rfl) (by kernel_rfl) (fun _ _ _ h => h) (Or.inl ⟨by rfl, ?hk542⟩) (T7.old U538 HS8.out) ?rk542
                          case hk542 => (intro wz hSw; (try dsimp only at hSw); go_simp; try with_reducible rfl)
                          (try simp only [Act.put]); (try simp only [List.setIfInBounds_toArray]); (try simp only [List.set_cons_succ]); (try simp only [List.set_cons_zero])
                          refine wpAnyH_take (i := 13) (oi := { dst := some 79, op := Op.fieldAddr 46 (Operand.tmp 6) 1, type := 0, pos := "law.go:63", after := #[{ on := 10, ground := Ground.guard }], guard := some (10, false) }) (v := ?vk543) rfl (by kernel_rfl) (by kernel_rfl) (by kernel_rfl) (fun _ _ _ h => h) (Or.inl ⟨by rfl, ?hk543⟩) (T7.old U538 HS8.out) ?rk543
                          case hk543 => (intro wz hSw; (try dsimp only at hSw); go_simp; try with_reducible rfl)
                          (try simp only [Act.put]); (try simp only [List.setIfInBounds_toArray]); (try simp only [List.set_cons_succ]); (try simp only [List.set_cons_zero])
                          refine wpAnyH_take (i := 14) (oi := { dst := some 80, op := Op.load 44 (Operand.tmp 79), type := 44, pos := "law.go:63", after := #[{ on := 13, ground := Ground.data }, { on := 10, ground := Ground.guard }], guard := some (10, false) }) (v := ?vk544) rfl (by kernel_rfl) (by kernel_rfl) (by kernel_rfl) (fun _ _ _ h => h) (Or.inl ⟨by rfl, ?hk544⟩) (T7.old U538 HS8.out) ?rk544
                          case hk544 => (intro wz hSw; (try dsimp only at hSw); go_simp; try with_reducible rfl)
                          (try simp only [Act.put]); (try simp only [List.setIfInBounds_toArray]); (try simp only [List.set_cons_succ]); (try simp only [List.set_cons_zero])
                          refine wpAnyH_take (i := 15) (oi := { dst := some 81, op := Op.call { callee := Callee.builtin Builtin.len, args := #[Operand.tmp 80], argTypes := #[44] }, type := 3, pos := "law.go:63", after := #[{ on := 14, ground := Ground.data }, { on := 10, ground := Ground.guard }], guard := some (10, false) }) (v := ?vk545) rfl (by kernel_rfl) (by kernel_rfl) (by kernel_rfl) (fun _ _ _ h => h) (Or.inl ⟨by rfl, ?hk545⟩) (T7.old U538 HS8.out) ?rk545
                          case hk545 => (intro wz hSw; (try dsimp only at hSw); go_simp; try with_reducible rfl)
                          (try simp only [Act.put]); (try simp only [List.setIfInBounds_toArray]); (try simp only [List.set_cons_succ]); (try simp only [List.set_cons_zero])
                          refine wpAnyH_ready (rs := [12]) (by kernel_rfl) (by simp) ?_
                          refine AllReadyH.cons (o := { dst := some 78, op := Op.call { callee := Callee.value (Operand.func 11), args := #[Operand.tmp 77], argTypes := #[23] }, type := 3, pos := "law.go:63", after := #[{ on := 11, ground := Ground.data }, { on := 10, ground := Ground.chain }, { on := 10, ground := Ground.guard }], guard := some (10, false) }) rfl (fun K hK => ?_) AllReadyH.nil
                          refine wantCall1 ?_ 11 (.tmp 77) #[23] ?_ (.pointer (some ⟨nb, 0, none⟩)) ?_ ?_ ((enters_of Try.func11 (by kernel_rfl) rfl) _ _) ?_
                          · rfl
                          · rfl
                          · rfl
                          · rfl
                          refine (HLn8.out _ U538).mono ?_
                          rintro o x546 ⟨rfl, b546⟩
                          refine ⟨_, rfl, ?_⟩
                          have U546 := U538.trans b546
                          refine hK.out _ _ (T7.old U546 HS8.out) (fun _ => ?_)
                          clear hK K
                          (try simp only [Act.put]); (try simp only [List.setIfInBounds_toArray]); (try simp only [List.set_cons_succ]); (try simp only [List.set_cons_zero])
                          refine wpAnyH_take (i := 16) (oi := { dst := some 82, op := Op.binOp BinOp.neq 3 (Operand.tmp 78) (Operand.tmp 81) 3, type := 4, pos := "law.go:63", after := #[{ on := 12, ground := Ground.data }, { on := 15, ground := Ground.data }, { on := 10, ground := Ground.guard }], guard := some (10, false) }) (v := ?vk547) rfl (by kernel_rfl) (by kernel_rfl) (by kernel_rfl) (fun _ _ _ h => h) (Or.inl ⟨by rfl, ?hk547⟩) (T7.old U546 HS8.out) ?rk547
                          case hk547 => (intro wz hSw; (try dsimp only at hSw); go_simp; try with_reducible rfl)
                          (try simp only [Act.put]); (try simp only [List.setIfInBounds_toArray]); (try simp only [List.set_cons_succ]); (try simp only [List.set_cons_zero])
                          refine wpAnyH_take (i := 17) (oi := { dst := some 83, op := Op.pick (Operand.tmp 76) (Operand.const (Value.bool true)) (Operand.tmp 82), type := 4, pos := "law.go:63", after := #[{ on := 10, ground := Ground.data }, { on := 16, ground := Ground.data }], guard := none }) (v := ?vk548) rfl (by kernel_rfl) (by kernel_rfl) (by kernel_rfl) (fun _ _ _ h => h) (Or.inl ⟨by rfl, ?hk548⟩) (T7.old U546 HS8.out) ?rk548
                          case hk548 => (intro wz hSw; (try dsimp only at hSw); go_simp; try with_reducible rfl)
                          (try simp only [Act.put]); (try simp only [List.setIfInBounds_toArray]); (try simp only [List.set_cons_succ]); (try simp only [List.set_cons_zero])
                          refine wpAnyH_done (by kernel_rfl) ?_ _
                          refine NoPanic.normal ?_
                          have UY := hid U546
                          go_wp2
                          go_roundw
                          case rel => exact ⟨i + 1, a7, c7, Z, P5, hlt, by go_num, M8.out.old UY.out⟩
                          case measure => simp [intOf]; omega
        · go_wp2
          go_roundw
          case rel => exact ⟨i + 1, a, cp, Y, P, hlt, by go_num, HM1.out⟩
          case measure => simp [intOf]; omega
      · go_wp2
        go_roundw
        case rel => exact ⟨i + 1, a, cp, Y, P, hlt, by go_num, HM1.out⟩
        case measure => simp [intOf]; omega
    · have l3 : ¬ ((i : Int) < (n : Int)) := by omega
      obtain rfl : i = n := by omega
      clear hlt HO hi hnm hnc
      go_upto_region 16 with (go_at_call 14; refine (allN w _ nb _ _ _ HM.out.net).mono ?_; rintro e w5 ⟨go, Z, rfl, a5, u5⟩; have A5 := hid a5; have U5 := hid u5; clear a5 u5)
      obtain ⟨q, hq⟩ : ∃ q, q = P.length := ⟨_, rfl⟩
      have HZl := hid (show Z.length = q from by have := congrArg List.length A5.out.p; rw [List.length_map] at this; omega)
      have HYl := hid (show Y.length = q from by rw [hq, ← HM.out.eq, List.length_map])
      have HQm := hid (show q ≤ 1000 from by have := HM.out.net.le; omega)
      rw [← hq] at A5 ⊢
      clear hq
      generalize wr = wy at *
      go_wp2
      go_loopw [89] (fun c wr => ∃ (j : Nat), j ≤ q ∧ c = .int .i64 (j : Nat) ∧ LP wy wr go q Z j) (fun c _ => q - (intOf c).toNat)
      case atStart => exact ⟨0, Nat.zero_le _, rfl, U5.out, A5.out.row, fun t ht _ => (A5.out.own _ (List.getElem_mem ht)).1⟩
      case round =>
        obtain ⟨j, hj, rfl, hP⟩ := hrel
        have HP := hid hP
        clear hP
        have l8 : (q : Int) ≤ 1000 := by have := HQm.out; omega
        by_cases hlt : j < q
        · have hjz : j < Z.length := by rw [HZl.out]; exact hlt
          have hjy : j < Y.length := by rw [HYl.out]; exact hlt
          have l2 : (0 : Int) ≤ (j : Int) := by omega
          have l3 : (j : Int) < (q : Int) := by omega
          obtain ⟨g1, c1, q1, -, -, ⟨y0, y1, y2⟩, -⟩ := HP.out.row.at j hjz
          cases (Value.slice.inj q1).1
          obtain ⟨gy, cy, qy, -, -, ⟨d0, d1, d2⟩, -⟩ := (HM.out.doc.old HP.out.u).row.at j hjy
          obtain ⟨ey, -, -⟩ := Value.slice.inj qy
          subst ey
          have d3 := (box2 (HP.out.u.block HM.out.box)).2.1
          rw [HYl.out] at d3
          have HEq := hid (same_at A5.out.p HM.out.eq j hjz hjy)
          have HOz := hid (HP.out.own j hjz (Nat.le_refl _))
          have HSy := hid ((HM.out.doc.byt _ (List.getElem_mem hjy)).1)
          have HLy := hid ((HM.out.doc.byt _ (List.getElem_mem hjy)).2)
          have HBs := hid ((A5.out.own _ (List.getElem_mem hjz)).2)
          have HFar := hid (show ∀ t (ht : t < Z.length), j + 1 ≤ t → ∀ g, Z[j].v.ownBlock = some g → Z[t].v.ownBlock ≠ some g from fun t ht h => List.pairwise_iff_getElem.1 A5.out.far j t hjz ht (by omega))
          have HZj := hid (show Z[j]'hjz = Z[j]'hjz from rfl)
          clear q1 qy
          generalize hzx : Z[j] = x at *
          generalize Y[j] = y at *
          obtain ⟨xf, xt, xa, xc, xL⟩ := x
          obtain ⟨yf, yt, ya, yc, yL⟩ := y
          have HZx := hid hzx
          clear hzx HZj
          obtain ⟨e1, e2, e3⟩ := HEq.out
          dsimp only at e1 e2 e3
          subst e1 e2 e3
          clear HEq
          unfold Lt.v at y2 d2 HOz HSy HBs HFar
          dsimp only at y0 y1 y2 d0 d1 d2 HOz HSy HBs HFar HLy
          go_upto_region 19 with (fail)
          have HS9 := hid (And.intro (And.intro y0 (And.intro y1 y2)) (And.intro (And.intro d0 (And.intro d1 d2)) d3))
          have HOf9 := hid (fun (W : World) (u : Old wr W) => rof_any xf xt xa xL.length xc W)
          have HSm9 := hid (fun (W : World) (u : Old wr W) => rsame_any xf xt xa ya xc yc xL W ((HOz.out.old u).row) ((HSy.out.old (HP.out.u.trans u)).row (HM.out.net.base.trans (HP.out.u.trans u))))
          clear y0 y1 y2 d0 d1 d2 d3
          refine wp_region_noPanic ?_
          refine wp_region_held_drew (S := fun wz => (wz.cell? ⟨go, j * 3, none⟩ = some (.int .i64 xf) ∧ wz.cell? ⟨go, j * 3 + 1, none⟩ = some (.int .i64 xt) ∧ wz.cell? ⟨go, j * 3 + 2, none⟩ = some (.slice xa xL.length xc)) ∧ (wz.cell? ⟨gy, j * 3, none⟩ = some (.int .i64 xf) ∧ wz.cell? ⟨gy, j * 3 + 1, none⟩ = some (.int .i64 xt) ∧ wz.cell? ⟨gy, j * 3 + 2, none⟩ = some (.slice ya xL.length yc)) ∧ wz.cell? ⟨bm, 1, none⟩ = some (.slice (some ⟨gy, 0, none⟩) q cp)) (by kernel_rfl) ?_ (fun hHeld => ?_)
          · exact T8.old ((Old.refl _).drew) HS9.out
          (try simp only [Act.put]); (try simp only [List.setIfInBounds_toArray]); (try simp only [List.set_cons_succ]); (try simp only [List.set_cons_zero])
          clear hHeld
          refine wpAnyH_take (i := 0) (oi := { dst := some 92, op := Op.move (Operand.tmp 14), type := 38, pos := "law.go:69", after := #[], guard := none }) (v := ?vk549) rfl (by kernel_rfl) (by kernel_rfl) (by kernel_rfl) (fun _ _ _ h => h) (Or.inl ⟨by rfl, ?hk549⟩) (T8.old ((Old.refl wr).drew) HS9.out) ?rk549
          case hk549 => (intro wz hSw; (try dsimp only at hSw); go_simp; try with_reducible rfl)
          (try simp only [Act.put]); (try simp only [List.setIfInBounds_toArray]); (try simp only [List.set_cons_succ]); (try simp only [List.set_cons_zero])
          refine wpAnyH_take (i := 1) (oi := { dst := some 93, op := Op.move (Operand.tmp 15), type := 3, pos := "law.go:69", after := #[], guard := none }) (v := ?vk550) rfl (by kernel_rfl) (by kernel_rfl) (by kernel_rfl) (fun _ _ _ h => h) (Or.inl ⟨by rfl, ?hk550⟩) (T8.old ((Old.refl wr).drew) HS9.out) ?rk550
          case hk550 => (intro wz hSw; (try dsimp only at hSw); go_simp; try with_reducible rfl)
          (try simp only [Act.put]); (try simp only [List.setIfInBounds_toArray]); (try simp only [List.set_cons_succ]); (try simp only [List.set_cons_zero])
          refine wpAnyH_take (i := 2) (oi := { dst := some 94, op := Op.indexAddr 38 (Operand.tmp 92) (Operand.tmp 93), type := 0, pos := "law.go:69", after := #[{ on := 0, ground := Ground.data }, { on := 1, ground := Ground.data }], guard := none }) (v := ?vk551) rfl (by kernel_rfl) (by kernel_rfl) (by kernel_rfl) (fun _ _ _ h => h) (Or.inl ⟨by rfl, ?hk551⟩) (T8.old ((Old.refl wr).drew) HS9.out) ?rk551
          case hk551 => (intro wz hSw; (try dsimp only at hSw); go_simp; try with_reducible rfl)
          (try simp only [Act.put]); (try simp only [List.setIfInBounds_toArray]); (try simp only [List.set_cons_succ]); (try simp only [List.set_cons_zero])
          refine wpAnyH_take (i := 3) (oi := { dst := some 95, op := Op.load 30 (Operand.tmp 94), type := 30, pos := "law.go:69", after := #[{ on := 2, ground := Ground.data }], guard := none }) (v := ?vk552) rfl (by kernel_rfl) (by kernel_rfl) (by kernel_rfl) (fun _ _ _ h => h) (Or.inl ⟨by rfl, ?hk552⟩) (T8.old ((Old.refl wr).drew) HS9.out) ?rk552
          case hk552 => (intro wz hSw; (try dsimp only at hSw); go_simp; try with_reducible rfl)
          (try simp only [Act.put]); (try simp only [List.setIfInBounds_toArray]); (try simp only [List.set_cons_succ]); (try simp only [List.set_cons_zero])
          refine wpAnyH_take (i := 5) (oi := { dst := some 97, op := Op.fieldAddr 46 (Operand.tmp 6) 1, type := 0, pos := "law.go:69", after := #[], guard := none }) (v := ?vk553) rfl (by kernel_rfl) (by kernel_rfl) (by kernel_rfl) (fun _ _ _ h => h) (Or.inl ⟨by rfl, ?hk553⟩) (T8.old ((Old.refl wr).drew) HS9.out) ?rk553
          case hk553 => (intro wz hSw; (try dsimp only at hSw); go_simp; try with_reducible rfl)
          (try simp only [Act.put]); (try simp only [List.setIfInBounds_toArray]); (try simp only [List.set_cons_succ]); (try simp only [List.set_cons_zero])
          refine wpAnyH_take (i := 6) (oi := { dst := some 98, op := Op.load 44 (Operand.tmp 97), type := 44, pos := "law.go:69", after := #[{ on := 5, ground := Ground.data }], guard := none }) (v := ?vk554) rfl (by kernel_rfl) (by kernel_rfl) (by kernel_rfl) (fun _ _ _ h => h) (Or.inl ⟨by rfl, ?hk554⟩) (T8.old ((Old.refl wr).drew) HS9.out) ?rk554
          case hk554 => (intro wz hSw; (try dsimp only at hSw); go_simp; try with_reducible rfl)
          (try simp only [Act.put]); (try simp only [List.setIfInBounds_toArray]); (try simp only [List.set_cons_succ]); (try simp only [List.set_cons_zero])
          refine wpAnyH_take (i := 7) (oi := { dst := some 99, op := Op.move (Operand.tmp 15), type := 3, pos := "law.go:69", after := #[], guard := none }) (v := ?vk555) rfl (by kernel_rfl) (by kernel_rfl) (by kernel_rfl) (fun _ _ _ h => h) (Or.inl ⟨by rfl, ?hk555⟩) (T8.old ((Old.refl wr).drew) HS9.out) ?rk555
          case hk555 => (intro wz hSw; (try dsimp only at hSw); go_simp; try with_reducible rfl)
          (try simp only [Act.put]); (try simp only [List.setIfInBounds_toArray]); (try simp only [List.set_cons_succ]); (try simp only [List.set_cons_zero])
          refine wpAnyH_take (i := 8) (oi := { dst := some 100, op := Op.indexAddr 44 (Operand.tmp 98) (Operand.tmp 99), type := 0, pos := "law.go:69", after := #[{ on := 6, ground := Ground.data }, { on := 7, ground := Ground.data }], guard := none }) (v := ?vk556) rfl (by kernel_rfl) (by kernel_rfl) (by kernel_rfl) (fun _ _ _ h => h) (Or.inl ⟨by rfl, ?hk556⟩) (T8.old ((Old.refl wr).drew) HS9.out) ?rk556
          case hk556 => (intro wz hSw; (try dsimp only at hSw); go_simp; try with_reducible rfl)
          (try simp only [Act.put]); (try simp only [List.setIfInBounds_toArray]); (try simp only [List.set_cons_succ]); (try simp only [List.set_cons_zero])
          refine wpAnyH_take (i := 9) (oi := { dst := some 101, op := Op.load 48 (Operand.tmp 100), type := 48, pos := "law.go:69", after := #[{ on := 8, ground := Ground.data }], guard := none }) (v := ?vk557) rfl (by kernel_rfl) (by kernel_rfl) (by kernel_rfl) (fun _ _ _ h => h) (Or.inl ⟨by rfl, ?hk557⟩) (T8.old ((Old.refl wr).drew) HS9.out) ?rk557
          case hk557 => (intro wz hSw; (try dsimp only at hSw); go_simp; try with_reducible rfl)
          (try simp only [Act.put]); (try simp only [List.setIfInBounds_toArray]); (try simp only [List.set_cons_succ]); (try simp only [List.set_cons_zero])
          refine wpAnyH_ready (rs := [4]) (by kernel_rfl) (by simp) ?_
          refine AllReadyH.cons (o := { dst := some 96, op := Op.call { callee := Callee.value (Operand.func 17), args := #[Operand.tmp 95], argTypes := #[30] }, type := 48, pos := "law.go:69", after := #[{ on := 3, ground := Ground.data }], guard := none }) rfl (fun K hK => ?_) AllReadyH.nil
          refine wantCall1 ?_ 17 (.tmp 95) #[30] ?_ (.agg #[.int .i64 xf, .int .i64 xt, .slice xa xL.length xc]) ?_ ?_ ((enters_of Try.func17 (by kernel_rfl) rfl) _ _) ?_
          · rfl
          · rfl
          · rfl
          · rfl
          refine (HOf9.out _ ((Old.refl wr).drew)).mono ?_
          rintro o x558 ⟨rfl, b558⟩
          refine ⟨_, rfl, ?_⟩
          have U558 := ((Old.refl wr).drew).trans b558
          refine hK.out _ _ (T8.old U558 HS9.out) (fun _ => ?_)
          clear hK K
          (try simp only [Act.put]); (try simp only [List.setIfInBounds_toArray]); (try simp only [List.set_cons_succ]); (try simp only [List.set_cons_zero])
          refine wpAnyH_ready (rs := [10]) (by kernel_rfl) (by simp) ?_
          refine AllReadyH.cons (o := { dst := some 102, op := Op.call { callee := Callee.value (Operand.func 18), args := #[Operand.tmp 96, Operand.tmp 101], argTypes := #[48, 48] }, type := 4, pos := "law.go:69", after := #[{ on := 4, ground := Ground.data }, { on := 9, ground := Ground.data }, { on := 4, ground := Ground.chain }], guard := none }) rfl (fun K hK => ?_) AllReadyH.nil
          refine wantCall2 ?_ 18 (.tmp 96) (.tmp 101) #[48, 48] ?_ (.agg #[.int .i64 xf, .int .i64 xt, .slice xa xL.length xc]) (.agg #[.int .i64 xf, .int .i64 xt, .slice ya xL.length yc]) ?_ ?_ ?_ ((enters_of Try.func18 (by kernel_rfl) rfl) _ _) ?_
          · rfl
          · rfl
          · rfl
          · rfl
          · rfl
          refine (HSm9.out _ U558).mono ?_
          rintro o x559 ⟨rfl, b559⟩
          refine ⟨_, rfl, ?_⟩
          have U559 := U558.trans b559
          refine hK.out _ _ (T8.old U559 HS9.out) (fun _ => ?_)
          clear hK K
          (try simp only [Act.put]); (try simp only [List.setIfInBounds_toArray]); (try simp only [List.set_cons_succ]); (try simp only [List.set_cons_zero])
          refine wpAnyH_take (i := 11) (oi := { dst := some 103, op := Op.unOp UnOp.not 4 (Operand.tmp 102), type := 4, pos := "law.go:69", after := #[{ on := 10, ground := Ground.data }], guard := none }) (v := ?vk560) rfl (by kernel_rfl) (by kernel_rfl) (by kernel_rfl) (fun _ _ _ h => h) (Or.inl ⟨by rfl, ?hk560⟩) (T8.old U559 HS9.out) ?rk560
          case hk560 => (intro wz hSw; (try dsimp only at hSw); go_simp; try with_reducible rfl)
          (try simp only [Act.put]); (try simp only [List.setIfInBounds_toArray]); (try simp only [List.set_cons_succ]); (try simp only [List.set_cons_zero])
          refine wpAnyH_done (by kernel_rfl) ?_ _
          refine NoPanic.normal ?_
          have UY := hid U559
          have P9 := hid (HP.out.old UY.out)
          have k2 := UY.out.keep HS9.out.1.2.2
          have HO9 := hid (HOz.out.old UY.out)
          have HSh := hid (show xL.length = 0 ∨ ∃ g, xa = some ⟨g, 0, none⟩ ∧ xL.length ≤ xc ∧ BlkU x559 g xc from by
            rcases HO9.out.cases with ⟨_, e⟩ | ⟨g, cap, cur, e, hg, h1, h2, h3, _⟩
            · exact .inl (by rw [e]; rfl)
            · obtain ⟨e1, _, e3⟩ := Value.slice.inj e
              exact .inr ⟨g, e1, by omega, cur, hg, by omega⟩)
          clear HP HOz HSy HO9 HS9 HOf9 HSm9
          go_wp2
          go_loopw [110] (fun c wr => ∃ (k : Nat), k ≤ xL.length ∧ c = .int .i64 (k : Nat) ∧ LP wy wr go q Z (j + 1) ∧ ∀ g, xa = some ⟨g, 0, none⟩ → 0 < xL.length → BlkU wr g xc) (fun c _ => xL.length - (intOf c).toNat)
          case atStart => exact ⟨0, Nat.zero_le _, rfl, ⟨P9.out.u, P9.out.row, fun t ht h => P9.out.own t ht (by omega)⟩, fun g e h0 => by
            rcases HSh.out with z | ⟨g', e', _, hb⟩
            · omega
            · rw [e'] at e; cases e; exact hb⟩
          case round =>
            obtain ⟨k, hk, rfl, hP2, hB2⟩ := hrel
            have HP2 := hid hP2
            have HB2 := hid hB2
            clear hP2 hB2 k2 P9
            have l9 : (xL.length : Int) ≤ 140737488355328 := by have := HLy.out; omega
            by_cases hkl : k < xL.length
            · obtain ⟨g, eg, hlc⟩ : ∃ g, xa = some ⟨g, 0, none⟩ ∧ xL.length ≤ xc := by
                rcases HSh.out with z | ⟨g, e', h2, _⟩
                · omega
                · exact ⟨g, e', h2⟩
              subst eg
              have HBk := hid (HB2.out g rfl (by omega))
              obtain ⟨⟨z, hz⟩, hfz⟩ := HBk.out.at (k := k) (by omega)
              obtain ⟨g1, c1, q1, -, -, ⟨-, -, y2⟩, -⟩ := HP2.out.row.at j hjz
              cases (Value.slice.inj q1).1
              rw [HZx.out] at y2
              unfold Lt.v at y2
              dsimp only at y2
              have l5 : (0 : Int) ≤ (k : Int) := by omega
              have l6 : (k : Int) < (xL.length : Int) := by omega
              clear q1 HSh HB2
              go_wp2
              go_roundw
              case rel => exact ⟨k + 1, hkl, by go_num, HP2.out.set HBk.out (HBs.out g rfl) (fun t ht h => HFar.out t ht h g rfl), fun g' e h0 => by cases e; exact HBk.out.set⟩
              case measure => simp [intOf]; omega
            · obtain rfl : k = xL.length := by omega
              have l6 : ¬ (xL.length : Int) < (xL.length : Int) := by omega
              go_wp2
              go_roundw
              case rel => exact ⟨j + 1, hlt, by go_num, HP2.out⟩
              case measure => simp [intOf]; omega
        · obtain rfl : j = q := by omega
          have l3 : ¬ (j : Int) < (j : Int) := by omega
          have M9 := hid (HM.out.old HP.out.u)
          clear hlt A5 HP HM U5
          go_upto_region 28 with (go_at_call 14; refine (allN w _ nb _ _ _ M9.out.net).mono ?_; rintro e w6 ⟨go2, Z2, rfl, a6, u6⟩; have A6 := hid a6; have M10 := hid (M9.out.old u6); clear a6 u6)
          have HPl := hid (show P.length = j from by rw [← HYl.out, ← M10.out.eq, List.length_map])
          rw [HPl.out] at A6 ⊢
          have HZ2 := hid (show Z2.length = j from by have := congrArg List.length A6.out.p; rw [List.length_map, HPl.out] at this; omega)
          clear M9 hj HZl
          generalize wr = wx at *
          go_wp2
          go_loopw [126] (fun c wr => ∃ (s : Nat), s ≤ j ∧ c = .int .i64 (s : Nat) ∧ Old w6 wr) (fun c _ => j - (intOf c).toNat)
          case atStart => exact ⟨0, Nat.zero_le _, rfl, Old.refl _⟩
          case round =>
            obtain ⟨s, hs, rfl, hU⟩ := hrel
            have HU := hid hU
            clear hU
            by_cases hlt : s < j
            · have hjz : s < Z2.length := by rw [HZ2.out]; exact hlt
              have hjy : s < Y.length := by rw [HYl.out]; exact hlt
              have l2 : (0 : Int) ≤ (s : Int) := by omega
              have l4 : (s : Int) < (j : Int) := by omega
              obtain ⟨g1, c1, q1, -, -, ⟨y0, y1, y2⟩, -⟩ := (A6.out.row.old HU.out).at s hjz
              cases (Value.slice.inj q1).1
              obtain ⟨gy, cy, qy, -, -, ⟨d0, d1, d2⟩, -⟩ := (M10.out.doc.old HU.out).row.at s hjy
              obtain ⟨ey, -, -⟩ := Value.slice.inj qy
              subst ey
              have d3 := (box2 (HU.out.block M10.out.box)).2.1
              rw [HYl.out] at d3
              have HEq := hid (same_at A6.out.p M10.out.eq s hjz hjy)
              have HOz := hid ((A6.out.own _ (List.getElem_mem hjz)).1)
              have HSy := hid ((M10.out.doc.byt _ (List.getElem_mem hjy)).1)
              clear q1 qy
              generalize Z2[s] = x at *
              generalize Y[s] = y at *
              obtain ⟨xf, xt, xa, xc, xL⟩ := x
              obtain ⟨yf, yt, ya, yc, yL⟩ := y
              obtain ⟨e1, e2, e3⟩ := HEq.out
              dsimp only at e1 e2 e3
              subst e1 e2 e3
              clear HEq
              unfold Lt.v at y2 d2 HOz HSy
              dsimp only at y0 y1 y2 d0 d1 d2 HOz HSy
              go_upto_region 31 with (fail)
              have HS9 := hid (And.intro (And.intro y0 (And.intro y1 y2)) (And.intro (And.intro d0 (And.intro d1 d2)) d3))
              have HOf9 := hid (fun (W : World) (u : Old wr W) => rof_any xf xt xa xL.length xc W)
              have HSm9 := hid (fun (W : World) (u : Old wr W) => rsame_any xf xt xa ya xc yc xL W ((HOz.out.old (HU.out.trans u)).row) ((HSy.out.old (HU.out.trans u)).row (M10.out.net.base.trans (HU.out.trans u))))
              clear y0 y1 y2 d0 d1 d2 d3
              refine wp_region_noPanic ?_
              refine wp_region_held_drew (S := fun wz => (wz.cell? ⟨go2, s * 3, none⟩ = some (.int .i64 xf) ∧ wz.cell? ⟨go2, s * 3 + 1, none⟩ = some (.int .i64 xt) ∧ wz.cell? ⟨go2, s * 3 + 2, none⟩ = some (.slice xa xL.length xc)) ∧ (wz.cell? ⟨gy, s * 3, none⟩ = some (.int .i64 xf) ∧ wz.cell? ⟨gy, s * 3 + 1, none⟩ = some (.int .i64 xt) ∧ wz.cell? ⟨gy, s * 3 + 2, none⟩ = some (.slice ya xL.length yc)) ∧ wz.cell? ⟨bm, 1, none⟩ = some (.slice (some ⟨gy, 0, none⟩) j cp)) (by kernel_rfl) ?_ (fun hHeld => ?_)
              · exact T8.old ((Old.refl _).drew) HS9.out
              (try simp only [Act.put]); (try simp only [List.setIfInBounds_toArray]); (try simp only [List.set_cons_succ]); (try simp only [List.set_cons_zero])
              clear hHeld
              refine wpAnyH_take (i := 0) (oi := { dst := some 129, op := Op.move (Operand.tmp 17), type := 38, pos := "law.go:78", after := #[], guard := none }) (v := ?vk561) rfl (by kernel_rfl) (by kernel_rfl) (by kernel_rfl) (fun _ _ _ h => h) (Or.inl ⟨by rfl, ?hk561⟩) (T8.old ((Old.refl wr).drew) HS9.out) ?rk561
              case hk561 => (intro wz hSw; (try dsimp only at hSw); go_simp; try with_reducible rfl)
              (try simp only [Act.put]); (try simp only [List.setIfInBounds_toArray]); (try simp only [List.set_cons_succ]); (try simp only [List.set_cons_zero])
              refine wpAnyH_take (i := 1) (oi := { dst := some 130, op := Op.move (Operand.tmp 18), type := 3, pos := "law.go:78", after := #[], guard := none }) (v := ?vk562) rfl (by kernel_rfl) (by kernel_rfl) (by kernel_rfl) (fun _ _ _ h => h) (Or.inl ⟨by rfl, ?hk562⟩) (T8.old ((Old.refl wr).drew) HS9.out) ?rk562
              case hk562 => (intro wz hSw; (try dsimp only at hSw); go_simp; try with_reducible rfl)
              (try simp only [Act.put]); (try simp only [List.setIfInBounds_toArray]); (try simp only [List.set_cons_succ]); (try simp only [List.set_cons_zero])
              refine wpAnyH_take (i := 2) (oi := { dst := some 131, op := Op.indexAddr 38 (Operand.tmp 129) (Operand.tmp 130), type := 0, pos := "law.go:78", after := #[{ on := 0, ground := Ground.data }, { on := 1, ground := Ground.data }], guard := none }) (v := ?vk563) rfl (by kernel_rfl) (by kernel_rfl) (by kernel_rfl) (fun _ _ _ h => h) (Or.inl ⟨by rfl, ?hk563⟩) (T8.old ((Old.refl wr).drew) HS9.out) ?rk563
              case hk563 => (intro wz hSw; (try dsimp only at hSw); go_simp; try with_reducible rfl)
              (try simp only [Act.put]); (try simp only [List.setIfInBounds_toArray]); (try simp only [List.set_cons_succ]); (try simp only [List.set_cons_zero])
              refine wpAnyH_take (i := 3) (oi := { dst := some 132, op := Op.load 30 (Operand.tmp 131), type := 30, pos := "law.go:78", after := #[{ on := 2, ground := Ground.data }], guard := none }) (v := ?vk564) rfl (by kernel_rfl) (by kernel_rfl) (by kernel_rfl) (fun _ _ _ h => h) (Or.inl ⟨by rfl, ?hk564⟩) (T8.old ((Old.refl wr).drew) HS9.out) ?rk564
              case hk564 => (intro wz hSw; (try dsimp only at hSw); go_simp; try with_reducible rfl)
              (try simp only [Act.put]); (try simp only [List.setIfInBounds_toArray]); (try simp only [List.set_cons_succ]); (try simp only [List.set_cons_zero])
              refine wpAnyH_take (i := 5) (oi := { dst := some 134, op := Op.fieldAddr 46 (Operand.tmp 6) 1, type := 0, pos := "law.go:78", after := #[], guard := none }) (v := ?vk565) rfl (by kernel_rfl) (by kernel_rfl) (by kernel_rfl) (fun _ _ _ h => h) (Or.inl ⟨by rfl, ?hk565⟩) (T8.old ((Old.refl wr).drew) HS9.out) ?rk565
              case hk565 => (intro wz hSw; (try dsimp only at hSw); go_simp; try with_reducible rfl)
              (try simp only [Act.put]); (try simp only [List.setIfInBounds_toArray]); (try simp only [List.set_cons_succ]); (try simp only [List.set_cons_zero])
              refine wpAnyH_take (i := 6) (oi := { dst := some 135, op := Op.load 44 (Operand.tmp 134), type := 44, pos := "law.go:78", after := #[{ on := 5, ground := Ground.data }], guard := none }) (v := ?vk566) rfl (by kernel_rfl) (by kernel_rfl) (by kernel_rfl) (fun _ _ _ h => h) (Or.inl ⟨by rfl, ?hk566⟩) (T8.old ((Old.refl wr).drew) HS9.out) ?rk566
              case hk566 => (intro wz hSw; (try dsimp only at hSw); go_simp; try with_reducible rfl)
              (try simp only [Act.put]); (try simp only [List.setIfInBounds_toArray]); (try simp only [List.set_cons_succ]); (try simp only [List.set_cons_zero])
              refine wpAnyH_take (i := 7) (oi := { dst := some 136, op := Op.move (Operand.tmp 18), type := 3, pos := "law.go:78", after := #[], guard := none }) (v := ?vk567) rfl (by kernel_rfl) (by kernel_rfl) (by kernel_rfl) (fun _ _ _ h => h) (Or.inl ⟨by rfl, ?hk567⟩) (T8.old ((Old.refl wr).drew) HS9.out) ?rk567
              case hk567 => (intro wz hSw; (try dsimp only at hSw); go_simp; try with_reducible rfl)
              (try simp only [Act.put]); (try simp only [List.setIfInBounds_toArray]); (try simp only [List.set_cons_succ]); (try simp only [List.set_cons_zero])
              refine wpAnyH_take (i := 8) (oi := { dst := some 137, op := Op.indexAddr 44 (Operand.tmp 135) (Operand.tmp 136), type := 0, pos := "law.go:78", after := #[{ on := 6, ground := Ground.data }, { on := 7, ground := Ground.data }], guard := none }) (v := ?vk568) rfl (by kernel_rfl) (by kernel_rfl) (by kernel_rfl) (fun _ _ _ h => h) (Or.inl ⟨by rfl, ?hk568⟩) (T8.old ((Old.refl wr).drew) HS9.out) ?rk568
              case hk568 => (intro wz hSw; (try dsimp only at hSw); go_simp; try with_reducible rfl)
              (try simp only [Act.put]); (try simp only [List.setIfInBounds_toArray]); (try simp only [List.set_cons_succ]); (try simp only [List.set_cons_zero])
              refine wpAnyH_take (i := 9) (oi := { dst := some 138, op := Op.load 48 (Operand.tmp 137), type := 48, pos := "law.go:78", after := #[{ on := 8, ground := Ground.data }], guard := none }) (v := ?vk569) rfl (by kernel_rfl) (by kernel_rfl) (by kernel_rfl) (fun _ _ _ h => h) (Or.inl ⟨by rfl, ?hk569⟩) (T8.old ((Old.refl wr).drew) HS9.out) ?rk569
              case hk569 => (intro wz hSw; (try dsimp only at hSw); go_simp; try with_reducible rfl)
              (try simp only [Act.put]); (try simp only [List.setIfInBounds_toArray]); (try simp only [List.set_cons_succ]); (try simp only [List.set_cons_zero])
              refine wpAnyH_ready (rs := [4]) (by kernel_rfl) (by simp) ?_
              refine AllReadyH.cons (o := { dst := some 133, op := Op.call { callee := Callee.value (Operand.func 17), args := #[Operand.tmp 132], argTypes := #[30] }, type := 48, pos := "law.go:78", after := #[{ on := 3, ground := Ground.data }], guard := none }) rfl (fun K hK => ?_) AllReadyH.nil
              refine wantCall1 ?_ 17 (.tmp 132) #[30] ?_ (.agg #[.int .i64 xf, .int .i64 xt, .slice xa xL.length xc]) ?_ ?_ ((enters_of Try.func17 (by kernel_rfl) rfl) _ _) ?_
              · rfl
              · rfl
              · rfl
              · rfl
              refine (HOf9.out _ ((Old.refl wr).drew)).mono ?_
              rintro o x570 ⟨rfl, b570⟩
              refine ⟨_, rfl, ?_⟩
              have U570 := ((Old.refl wr).drew).trans b570
              refine hK.out _ _ (T8.old U570 HS9.out) (fun _ => ?_)
              clear hK K
              (try simp only [Act.put]); (try simp only [List.setIfInBounds_toArray]); (try simp only [List.set_cons_succ]); (try simp only [List.set_cons_zero])
              refine wpAnyH_ready (rs := [10]) (by kernel_rfl) (by simp) ?_
              refine AllReadyH.cons (o := { dst := some 139, op := Op.call { callee := Callee.value (Operand.func 18), args := #[Operand.tmp 133, Operand.tmp 138], argTypes := #[48, 48] }, type := 4, pos := "law.go:78", after := #[{ on := 4, ground := Ground.data }, { on := 9, ground := Ground.data }, { on := 4, ground := Ground.chain }], guard := none }) rfl (fun K hK => ?_) AllReadyH.nil
              refine wantCall2 ?_ 18 (.tmp 133) (.tmp 138) #[48, 48] ?_ (.agg #[.int .i64 xf, .int .i64 xt, .slice xa xL.length xc]) (.agg #[.int .i64 xf, .int .i64 xt, .slice ya xL.length yc]) ?_ ?_ ?_ ((enters_of Try.func18 (by kernel_rfl) rfl) _ _) ?_
              · rfl
              · rfl
              · rfl
              · rfl
              · rfl
              refine (HSm9.out _ U570).mono ?_
              rintro o x571 ⟨rfl, b571⟩
              refine ⟨_, rfl, ?_⟩
              have U571 := U570.trans b571
              refine hK.out _ _ (T8.old U571 HS9.out) (fun _ => ?_)
              clear hK K
              (try simp only [Act.put]); (try simp only [List.setIfInBounds_toArray]); (try simp only [List.set_cons_succ]); (try simp only [List.set_cons_zero])
              refine wpAnyH_take (i := 11) (oi := { dst := some 140, op := Op.unOp UnOp.not 4 (Operand.tmp 139), type := 4, pos := "law.go:78", after := #[{ on := 10, ground := Ground.data }], guard := none }) (v := ?vk572) rfl (by kernel_rfl) (by kernel_rfl) (by kernel_rfl) (fun _ _ _ h => h) (Or.inl ⟨by rfl, ?hk572⟩) (T8.old U571 HS9.out) ?rk572
              case hk572 => (intro wz hSw; (try dsimp only at hSw); go_simp; try with_reducible rfl)
              (try simp only [Act.put]); (try simp only [List.setIfInBounds_toArray]); (try simp only [List.set_cons_succ]); (try simp only [List.set_cons_zero])
              refine wpAnyH_done (by kernel_rfl) ?_ _
              refine NoPanic.normal ?_
              have UY := hid U571
              go_wp2
              go_roundw
              case rel => exact ⟨s + 1, hlt, by go_num, HU.out.trans UY.out⟩
              case measure => simp [intOf]; omega
            · obtain rfl : s = j := by omega
              have l4 : ¬ (s : Int) < (s : Int) := by omega
              have d3 := (box2 (HU.out.block M10.out.box)).2.1
              rw [HYl.out] at d3
              go_wp2
              go_ret
              exact ⟨rfl, M10.out.net.base.trans HU.out⟩
end Go.Proofs.Ytpkgcakeahmiaaa
