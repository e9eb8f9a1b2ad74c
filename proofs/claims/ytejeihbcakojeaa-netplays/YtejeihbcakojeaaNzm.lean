/- The law NetPlays: its walk; conditions: the script lies in memory. -/
import Derived.Test.YtejeihbcakojeaaSqa
import Derived.Test.YtejeihbcakojeaaNh
import Derived.Test.YtejeihbcakojeaaNl
namespace Go.Proofs.Ytejeihbcakojeaa
open Go.RowKit Go.Lib Go.ChangeShapes Go.WideShapes
set_option linter.unusedVariables false
set_option linter.unusedSimpArgs false
set_option maxRecDepth 20000
theorem Net.chgT {w0 W W' : World} {nb most b : Nat} {P : List PL} {cs : Array Value} (h : Net w0 W nb most P []) (ch : Chg [b] W W') (hb : W.heap[b]? = some (.cells cs 46 (0, 0))) (hw : w0.heap.size ≤ b) : Net w0 W' nb most P [] := by
  obtain ⟨d, e1, e2, e3, h4, h5, h6, h7⟩ := h
  have ha := h4.apart hb (by decide) (by decide)
  exact ⟨d, e1, e2, e3, h4.chg ch (fun k => ha (by simp at k; rw [← k]; exact Nt.mem.2 (.inl rfl))) (fun g eg k => ha (by simp at k; rw [← k]; exact Nt.mem.2 (.inr eg))) (fun y hy g eg => (h4.byt y hy).1.offT hb (by decide) g eg), h5, ch.oldOf h6 (fun k hk => by simp at hk; rw [hk]; exact hw), fun g hg => by cases hg⟩
/-- The net and the document's net beside it. -/
structure PA (w wr : World) (nb bm most : Nat) (a : Option Addr) (c : Nat) (Y : List Lt) (P : List PL) : Prop where
  net : Net w wr nb most P []
  doc : DocAt w wr (.slice a Y.length c) Y
  box : wr.heap[bm]? = some (.cells #[.int .i64 (most : Nat), .slice a Y.length c] 46 (0, 0))
  new : w.heap.size ≤ bm
  eq : Y.map Lt.p = P
theorem PA.old {w wr w' : World} {nb bm most : Nat} {a : Option Addr} {c : Nat} {Y : List Lt} {P : List PL} (h : PA w wr nb bm most a c Y P) (u : Old wr w') : PA w w' nb bm most a c Y P := ⟨h.net.old u, h.doc.old u, u.block h.box, h.new, h.eq⟩
theorem PA.set {w wr : World} {nb bm most : Nat} {cs : Array Value} {a2 : Option Addr} {c2 : Nat} {Y2 : List Lt} {P2 : List PL} {x y : Value} (hn : Net w wr nb most P2 []) (hb : wr.heap[bm]? = some (.cells #[x, y] 46 (0, 0))) (hw : w.heap.size ≤ bm) (hD : DocAt w wr (.slice a2 Y2.length c2) Y2) (hP : Y2.map Lt.p = P2) : PA w ((wr.setCell ⟨bm, 0, none⟩ (.int .i64 (most : Nat))).setCell ⟨bm, 1, none⟩ (.slice a2 Y2.length c2)) nb bm most a2 c2 Y2 P2 := by
  have ch := chg2 wr bm (.int .i64 (most : Nat)) (.slice a2 Y2.length c2)
  refine ⟨hn.chgT ch hb hw, ⟨hD.row.chg ch (fun g e k => ?_), fun y hy => ⟨(hD.byt y hy).1.chgT ch hb, (hD.byt y hy).2⟩⟩, Go.Joins.block_setCell (Go.Joins.block_setCell hb _ (i := 0)) _ (i := 1), hw, hP⟩
  simp at k
  subst k
  rcases hD.row.cases with ⟨q, _⟩ | ⟨g', cap, cur, q, _, hg, _⟩
  · rw [q] at e; cases e
  · rw [q] at e
    simp [Value.ownBlock] at e
    subst e
    rw [hb] at hg
    simp at hg
theorem PS.old {bm bo : Nat} {x0 x1 y0 y1 y2 y3 y4 y5 : Value} {w w' : World} (o : Old w w') (h : (w.cell? ⟨bm, 0, none⟩ = some x0 ∧ w.cell? ⟨bm, 1, none⟩ = some x1) ∧ w.cell? ⟨bo, 0, none⟩ = some y0 ∧ w.cell? ⟨bo, 1, none⟩ = some y1 ∧ w.cell? ⟨bo, 2, none⟩ = some y2 ∧ w.cell? ⟨bo, 3, none⟩ = some y3 ∧ w.cell? ⟨bo, 4, none⟩ = some y4 ∧ w.cell? ⟨bo, 5, none⟩ = some y5) : (w'.cell? ⟨bm, 0, none⟩ = some x0 ∧ w'.cell? ⟨bm, 1, none⟩ = some x1) ∧ w'.cell? ⟨bo, 0, none⟩ = some y0 ∧ w'.cell? ⟨bo, 1, none⟩ = some y1 ∧ w'.cell? ⟨bo, 2, none⟩ = some y2 ∧ w'.cell? ⟨bo, 3, none⟩ = some y3 ∧ w'.cell? ⟨bo, 4, none⟩ = some y4 ∧ w'.cell? ⟨bo, 5, none⟩ = some y5 :=
  ⟨⟨o.keep h.1.1, o.keep h.1.2⟩, o.keep h.2.1, o.keep h.2.2.1, o.keep h.2.2.2.1, o.keep h.2.2.2.2.1, o.keep h.2.2.2.2.2.1, o.keep h.2.2.2.2.2.2⟩
theorem T7.old {b9 b12 bm : Nat} {x0 x1 x2 y0 y1 y2 z : Value} {w w' : World} (o : Old w w') (h : (w.cell? ⟨b9, 0, none⟩ = some x0 ∧ w.cell? ⟨b9, 1, none⟩ = some x1 ∧ w.cell? ⟨b9, 2, none⟩ = some x2) ∧ (w.cell? ⟨b12, 0, none⟩ = some y0 ∧ w.cell? ⟨b12, 1, none⟩ = some y1 ∧ w.cell? ⟨b12, 2, none⟩ = some y2) ∧ w.cell? ⟨bm, 1, none⟩ = some z) : (w'.cell? ⟨b9, 0, none⟩ = some x0 ∧ w'.cell? ⟨b9, 1, none⟩ = some x1 ∧ w'.cell? ⟨b9, 2, none⟩ = some x2) ∧ (w'.cell? ⟨b12, 0, none⟩ = some y0 ∧ w'.cell? ⟨b12, 1, none⟩ = some y1 ∧ w'.cell? ⟨b12, 2, none⟩ = some y2) ∧ w'.cell? ⟨bm, 1, none⟩ = some z := ⟨⟨o.keep h.1.1, o.keep h.1.2.1, o.keep h.1.2.2⟩, ⟨o.keep h.2.1.1, o.keep h.2.1.2.1, o.keep h.2.1.2.2⟩, o.keep h.2.2⟩
theorem stepAllocN {ops : Array Oper} {o : Oper} {a : Act} {w : World} {K : Act → World → Prop} {Q : Exit → Act → World → Prop} {E : Prop} (hg : o.guard = none) (hop : o.op = Op.alloc 46)
    (hK : ∀ m w', m = w.heap.size → w' = w.alloc (.cells #[.int .i64 0, .slice none 0 0] 46) → K (a.put o.dst (.pointer (some ⟨m, 0, none⟩))) w') :
    if Region.wanted o (yielded ops a.tmps) = true then Oper.wp Try.prog o a w K Q else E := by
  have hw : Region.wanted o (yielded ops a.tmps) = true := by simp [Region.wanted, hg]
  rw [if_pos hw]
  obtain ⟨d, p, t, ps, af, gd⟩ := o
  subst hop
  unfold Oper.wp execOp
  go_simp
  exact hK _ _ rfl rfl
theorem stepAllocR {ops : Array Oper} {o : Oper} {a : Act} {w : World} {K : Act → World → Prop} {Q : Exit → Act → World → Prop} {E : Prop} (hg : o.guard = none) (hop : o.op = Op.alloc 48)
    (hK : ∀ m w', m = w.heap.size → w' = w.alloc (.cells #[.int .i64 0, .int .i64 0, .slice none 0 0] 48) → K (a.put o.dst (.pointer (some ⟨m, 0, none⟩))) w') :
    if Region.wanted o (yielded ops a.tmps) = true then Oper.wp Try.prog o a w K Q else E := by
  have hw : Region.wanted o (yielded ops a.tmps) = true := by simp [Region.wanted, hg]
  rw [if_pos hw]
  obtain ⟨d, p, t, ps, af, gd⟩ := o
  subst hop
  unfold Oper.wp execOp
  go_simp
  exact hK _ _ rfl rfl
theorem blk_lt {w : World} {b : Nat} {o : Obj} (h : w.heap[b]? = some o) : b < w.heap.size := (Array.getElem?_eq_some_iff.1 h).1
def BlkU (w : World) (g cap : Nat) : Prop := ∃ cur, w.heap[g]? = some (.cells cur 5 (0, 0)) ∧ cur.size = cap
theorem BlkU.at {w : World} {g cap k : Nat} (h : BlkU w g cap) (hk : k < cap) : (∃ z, w.cell? ⟨g, k, none⟩ = some z) ∧ w.frozen? ⟨g, k, none⟩ = false := by
  obtain ⟨cur, h1, h2⟩ := h
  exact ⟨⟨cur[k], by rw [Go.Joins.cell_of_block h1, Array.getElem?_eq_getElem (by omega)]⟩, Go.Joins.unfrozen_of_block h1 k⟩
theorem BlkU.set {w : World} {g cap k : Nat} {z : Value} (h : BlkU w g cap) : BlkU (w.setCell ⟨g, k, none⟩ z) g cap := by
  obtain ⟨cur, h1, h2⟩ := h
  exact ⟨_, Go.Joins.block_setCell h1 z (i := k), by simpa using h2⟩
/-- What is so while the copies are held against the document's letters, and written over. -/
structure LP (wy wr : World) (go q : Nat) (Z : List Lt) (j : Nat) : Prop where
  u : Old wy wr
  row : OwnT wy.heap.size wr (.slice (some ⟨go, 0, none⟩) q q) Z
  own : ∀ t (ht : t < Z.length), j ≤ t → Own wr Z[t].v Z[t].L
theorem LP.old {wy wr w' : World} {go q : Nat} {Z : List Lt} {j : Nat} (h : LP wy wr go q Z j) (u : Old wr w') : LP wy w' go q Z j := ⟨h.u.trans u, h.row.old u, fun t ht hj => (h.own t ht hj).old u⟩
theorem LP.set {wy wr : World} {go q : Nat} {Z : List Lt} {j g k cap : Nat} {z : Value} (h : LP wy wr go q Z j) (hb : BlkU wr g cap) (hw : wy.heap.size ≤ g) (hf : ∀ t (ht : t < Z.length), j ≤ t → Z[t].v.ownBlock ≠ some g) : LP wy (wr.setCell ⟨g, k, none⟩ z) go q Z j := by
  have ch := Chg.set (S := [g]) wr ⟨g, k, none⟩ z (by simp)
  refine ⟨h.u.setCell (p := ⟨g, k, none⟩) hw z, h.row.chg ch (fun g' e k' => ?_), fun t ht hj => (h.own t ht hj).chg ch (fun g' e k' => ?_)⟩
  · simp at k'
    subst k'
    obtain ⟨cur, h1, _⟩ := hb
    rcases h.row.cases with ⟨e2, _⟩ | ⟨g2, cap2, cur2, e2, _, hg, _⟩
    · rw [e2] at e; cases e
    · rw [e2] at e
      simp [Value.ownBlock] at e
      subst e
      rw [h1] at hg
      simp at hg
  · simp at k'
    subst k'
    exact hf t ht hj e
theorem T8.old {A0 A1 A2 B0 B1 B2 C : Addr} {x0 x1 x2 y0 y1 y2 z : Value} {w w' : World} (o : Old w w') (h : (w.cell? A0 = some x0 ∧ w.cell? A1 = some x1 ∧ w.cell? A2 = some x2) ∧ (w.cell? B0 = some y0 ∧ w.cell? B1 = some y1 ∧ w.cell? B2 = some y2) ∧ w.cell? C = some z) : (w'.cell? A0 = some x0 ∧ w'.cell? A1 = some x1 ∧ w'.cell? A2 = some x2) ∧ (w'.cell? B0 = some y0 ∧ w'.cell? B1 = some y1 ∧ w'.cell? B2 = some y2) ∧ w'.cell? C = some z := ⟨⟨o.keep h.1.1, o.keep h.1.2.1, o.keep h.1.2.2⟩, ⟨o.keep h.2.1.1, o.keep h.2.1.2.1, o.keep h.2.1.2.2⟩, o.keep h.2.2⟩
theorem same_at {Z Y : List Lt} {P : List PL} (h1 : Z.map Lt.p = P) (h2 : Y.map Lt.p = P) (j : Nat) (hz : j < Z.length) (hy : j < Y.length) : Z[j].f = Y[j].f ∧ Z[j].t = Y[j].t ∧ Z[j].L = Y[j].L := by
  have he : (Z.map Lt.p)[j]? = (Y.map Lt.p)[j]? := by rw [h1, h2]
  rw [List.getElem?_map, List.getElem?_map, List.getElem?_eq_getElem hz, List.getElem?_eq_getElem hy] at he
  simp only [Option.map_some, Option.some.injEq] at he
  unfold Lt.p at he
  simp only [Prod.mk.injEq] at he
  exact he
set_option maxHeartbeats 80000000 in
set_option maxRecDepth 20000 in
theorem playsLaw (m : Int) (v0 : Value) (n : Nat) (f : Nat → Opn) (w : World) (h0 : ONRow w v0 n f) : Calls Try.prog 5 #[.int .i64 m, v0] w fun e w' => e = .returned (.bool true) ∧ Old w w' := by
  obtain ⟨hnm, pa, ca, rfl, hnc, hops⟩ := h0
  have HO := hid hops
  clear hops
  go_enter Try.func5, Try.ntmps5
  go_upto_region 4 with (first | (go_at_call 6; refine (newN w _ _ (Old.refl _)).mono ?_; rintro e w1 ⟨nb, rfl, d1, _⟩; have D1 := hid d1; clear d1) | (go_at_call 7; refine (alive_any _).mono ?_; rintro e w2 ⟨rfl, u2⟩; have D2 := hid (D1.out.old u2); clear u2 D1))
  generalize hmo : mostN m = most at *
  have HMo := hid hmo
  clear hmo
  go_upto_region 5 with (go_at_call 15; refine (rnew_any m _).mono ?_; rw [HMo.out]; rintro e w3 ⟨rfl, u3⟩; have D3 := hid (D2.out.old u3); clear u3 D2)
  have M4 := hid (show PA w (w3.alloc (.cells #[.int .i64 (most : Nat), .slice none 0 0] 46)) nb w3.heap.size most none 0 [] [] from ⟨D3.out.old ((Old.refl _).alloc _), ⟨OwnR.nil _ _, fun y hy => by cases hy⟩, alloc_at w3 _, D3.out.base.size, rfl⟩)
  generalize w3.alloc (.cells #[.int .i64 (most : Nat), .slice none 0 0] 46) = w4 at *
  generalize w3.heap.size = bm at *
  clear D3
  go_wp2
  go_loopw [31] (fun c wr => ∃ (i : Nat) (a : Option Addr) (cp : Nat) (Y : List Lt) (P : List PL), i ≤ n ∧ c = .int .i64 (i : Nat) ∧ PA w wr nb bm most a cp Y P) (fun c _ => n - (intOf c).toNat)
  case atStart => exact ⟨0, _, _, [], [], Nat.zero_le _, rfl, M4.out⟩
  case round =>
    obtain ⟨i, a, cp, Y, P, hi, rfl, hM⟩ := hrel
    have HM := hid hM
    clear hM M4
    by_cases hlt : i < n
    · obtain ⟨bb, off, e, hok, hcell⟩ := HO.out i hlt
      subst e
      have HOk := hid hok
      have HCe := hid (show ∀ j, j < 6 → wr.cell? ⟨bb, off + i * 6 + j, none⟩ = (f i).cs[j]? from fun j hj => by
        have q := hcell j hj
        have hl : j < (f i).cs.length := hj
        rw [List.getElem?_eq_getElem hl] at q ⊢
        exact HM.out.net.base.keep q)
      clear hok hcell
      generalize f i = o at *
      obtain ⟨ok, oi, om, of, ot, ov, oL⟩ := o
      obtain ⟨pB, cB, eB⟩ := HOk.out.1.len
      dsimp only at eB
      subst eB
      have c0 : wr.cell? ⟨bb, off + i * 6, none⟩ = some (.int .i64 ok) := HCe.out 0 (by omega)
      have c1 : wr.cell? ⟨bb, off + i * 6 + 1, none⟩ = some (.int .i64 oi) := HCe.out 1 (by omega)
      have c2 : wr.cell? ⟨bb, off + i * 6 + 2, none⟩ = some (.int .i64 om) := HCe.out 2 (by omega)
      have c3 : wr.cell? ⟨bb, off + i * 6 + 3, none⟩ = some (.int .i64 of) := HCe.out 3 (by omega)
      have c4 : wr.cell? ⟨bb, off + i * 6 + 4, none⟩ = some (.int .i64 ot) := HCe.out 4 (by omega)
      have c5 : wr.cell? ⟨bb, off + i * 6 + 5, none⟩ = some (.slice pB oL.length cB) := HCe.out 5 (by omega)
      have l2 : (0 : Int) ≤ (i : Int) := by omega
      have l3 : (i : Int) < (n : Int) := by omega
      have l4 : (n : Int) ≤ 2199023255552 := by omega
      clear HCe
      go_upto_region 8 with (fail)
      have HU1 := hid (show Old wr (wr.alloc (.cells #[.int .i64 ok, .int .i64 oi, .int .i64 om, .int .i64 of, .int .i64 ot, .slice pB oL.length cB] 40)) from (Old.refl wr).alloc _)
      have HBo := hid (alloc_at wr (.cells #[.int .i64 ok, .int .i64 oi, .int .i64 om, .int .i64 of, .int .i64 ot, .slice pB oL.length cB] 40))
      have HM1 := hid (HM.out.old HU1.out)
      clear c0 c1 c2 c3 c4 c5 HU1 HM
      generalize wr.alloc (.cells #[.int .i64 ok, .int .i64 oi, .int .i64 om, .int .i64 of, .int .i64 ot, .slice pB oL.length cB] 40) = w4 at *
      generalize wr.heap.size = bo at *
      obtain ⟨z0, z1, z2, z3, z4, z5⟩ := box6 HBo.out
      by_cases k1 : 1 ≤ ok
      · by_cases k6 : ok ≤ 6
        · have HDo := hid (does_any w w4 nb most P _ ⟨ok, oi, om, of, ot, .slice pB oL.length cB, oL⟩ HM1.out.net HOk.out)
          have HYP := hid HM1.out.eq
          dsimp only at HDo
          obtain ⟨b5, hb5⟩ : ∃ b5, b5 = doB most P ⟨ok, oi, om, of, ot, .slice pB oL.length cB, oL⟩ := ⟨_, rfl⟩
          obtain ⟨x5, hx5⟩ : ∃ x5, x5 = doX P ⟨ok, oi, om, of, ot, .slice pB oL.length cB, oL⟩ := ⟨_, rfl⟩
          obtain ⟨P5, hP5⟩ : ∃ P5, P5 = doP most P ⟨ok, oi, om, of, ot, .slice pB oL.length cB, oL⟩ := ⟨_, rfl⟩
          rw [← hb5, ← hx5, ← hP5] at HDo
          have HB5 := hid hb5
          have HX5 := hid hx5
          have HP5 := hid hP5
          clear hb5 hx5 hP5
          obtain ⟨xf, xt, xL⟩ := x5
          unfold DoPost at HDo
          dsimp only at HDo
          go_upto_region 10 with (go_at_call 13; refine HDo.out.mono ?_; rintro e w5 ⟨a5, c5, rfl, o5, n5, kt5⟩; have O5 := hid o5; have N5 := hid n5; have K5 := hid kt5; clear o5 n5 kt5)
          have HBo5 := hid (K5.out.ty _ _ _ _ HBo.out (by decide) (by decide))
          have HBm5 := hid (K5.out.ty _ _ _ _ HM1.out.box (by decide) (by decide))
          have D5 := hid (HM1.out.doc.kt K5.out)
          have HNw := hid HM1.out.new
          have HLe := hid (show Y.length ≤ most ∧ most ≤ 1000 from by have := HM1.out.net.le; rw [← HM1.out.eq, List.length_map] at this; exact this)
          clear z0 z1 z2 z3 z4 z5 HBo HM1 K5 HDo
          have HV6 := hid (show Old w5 (w5.alloc (.cells #[.int .i64 xf, .int .i64 xt, .slice a5 xL.length c5] 30)) from (Old.refl w5).alloc _)
          have HB9 := hid (alloc_at w5 (.cells #[.int .i64 xf, .int .i64 xt, .slice a5 xL.length c5] 30))
          have HBo6 := hid (HV6.out.block HBo5.out)
          have HBm6 := hid (HV6.out.block HBm5.out)
          have D6 := hid (D5.out.old HV6.out)
          have N6 := hid (N5.out.old HV6.out)
          have O6 := hid (O5.out.old HV6.out)
          clear HV6 HBo5 HBm5 D5 N5 O5
          generalize w5.alloc (.cells #[.int .i64 xf, .int .i64 xt, .slice a5 xL.length c5] 30) = w6 at *
          generalize w5.heap.size = b9 at *
          have HPS := hid (And.intro (And.intro (box2 HBm6.out).1 (box2 HBm6.out).2.1) (And.intro (box6 HBo6.out).1 (And.intro (box6 HBo6.out).2.1 (And.intro (box6 HBo6.out).2.2.1 (And.intro (box6 HBo6.out).2.2.2.1 (And.intro (box6 HBo6.out).2.2.2.2.1 (box6 HBo6.out).2.2.2.2.2))))))
          have HOf := hid (fun (W : World) => rof_any of ot pB oL.length cB W)
          have HDc := hid (show ∀ W, Old w6 W → Calls Try.prog 16 #[.agg #[.int .i64 (most : Nat), .slice a Y.length cp], .agg #[.int .i64 ok, .int .i64 oi, .int .i64 om, .int .i64 of, .int .i64 ot, .slice pB oL.length cB]] W (RPost w W (.slice a Y.length cp) most P5 (xf, xt, xL) b5) from fun W u => by
            rw [HB5.out, HX5.out, HP5.out, ← HYP.out]
            exact rdo_any w W most a cp Y ⟨ok, oi, om, of, ot, .slice pB oL.length cB, oL⟩ (D6.out.old u) HLe.out (N6.out.base.trans u) HOk.out ⟨k1, k6⟩)
          clear HB5 HX5 HP5 HYP
          focus
            refine wp_region_noPanic ?_
            refine wp_region_held_drew (S := fun wz => (wz.cell? ⟨bm, 0, none⟩ = some (.int .i64 (most : Nat)) ∧ wz.cell? ⟨bm, 1, none⟩ = some (.slice a Y.length cp)) ∧ wz.cell? ⟨bo, 0, none⟩ = some (.int .i64 ok) ∧ wz.cell? ⟨bo, 1, none⟩ = some (.int .i64 oi) ∧ wz.cell? ⟨bo, 2, none⟩ = some (.int .i64 om) ∧ wz.cell? ⟨bo, 3, none⟩ = some (.int .i64 of) ∧ wz.cell? ⟨bo, 4, none⟩ = some (.int .i64 ot) ∧ wz.cell? ⟨bo, 5, none⟩ = some (.slice pB oL.length cB)) (by kernel_rfl) ?_ (fun hHeld => ?_)
            · exact PS.old ((Old.refl w6).drew) HPS.out
            try simp only [Act.put, puA, puB, puC]
            clear hHeld
            all_goals
              refine atA [false, false, false, false, false, false, false, false, false, false, false, false, false, false, false, false, false, false, false, false, false] ?_
              refine tkA (i := 0) (oi := { dst := some 50, op := Op.load 46 (Operand.tmp 6), type := 46, pos := "law.go:61", after := #[], guard := none }) (PS.old ((Old.refl w6).drew) HPS.out) ?_
              try simp only [Act.put, puA, puB, puC]
              refine tkA (i := 1) (oi := { dst := some 51, op := Op.fieldAddr 40 (Operand.tmp 8) 0, type := 0, pos := "law.go:61", after := #[], guard := none }) (PS.old ((Old.refl w6).drew) HPS.out) ?_
              try simp only [Act.put, puA, puB, puC]
              refine tkA (i := 2) (oi := { dst := some 52, op := Op.load 3 (Operand.tmp 51), type := 3, pos := "law.go:61", after := #[{ on := 1, ground := Ground.data }], guard := none }) (PS.old ((Old.refl w6).drew) HPS.out) ?_
              try simp only [Act.put, puA, puB, puC]
              refine tkA (i := 3) (oi := { dst := some 53, op := Op.fieldAddr 40 (Operand.tmp 8) 1, type := 0, pos := "law.go:61", after := #[], guard := none }) (PS.old ((Old.refl w6).drew) HPS.out) ?_
              try simp only [Act.put, puA, puB, puC]
              refine tkA (i := 4) (oi := { dst := some 54, op := Op.load 3 (Operand.tmp 53), type := 3, pos := "law.go:61", after := #[{ on := 3, ground := Ground.data }], guard := none }) (PS.old ((Old.refl w6).drew) HPS.out) ?_
              try simp only [Act.put, puA, puB, puC]
              refine tkA (i := 5) (oi := { dst := some 55, op := Op.fieldAddr 40 (Operand.tmp 8) 2, type := 0, pos := "law.go:61", after := #[], guard := none }) (PS.old ((Old.refl w6).drew) HPS.out) ?_
              try simp only [Act.put, puA, puB, puC]
              refine tkA (i := 6) (oi := { dst := some 56, op := Op.load 3 (Operand.tmp 55), type := 3, pos := "law.go:61", after := #[{ on := 5, ground := Ground.data }], guard := none }) (PS.old ((Old.refl w6).drew) HPS.out) ?_
              try simp only [Act.put, puA, puB, puC]
              refine tkA (i := 7) (oi := { dst := some 57, op := Op.fieldAddr 40 (Operand.tmp 8) 3, type := 0, pos := "law.go:61", after := #[], guard := none }) (PS.old ((Old.refl w6).drew) HPS.out) ?_
              try simp only [Act.put, puA, puB, puC]
              refine tkA (i := 8) (oi := { dst := some 58, op := Op.load 30 (Operand.tmp 57), type := 30, pos := "law.go:61", after := #[{ on := 7, ground := Ground.data }], guard := none }) (PS.old ((Old.refl w6).drew) HPS.out) ?_
              try simp only [Act.put, puA, puB, puC]
              refine rdA [9, 16, 17] ?_
              refine AllReadyH.cons (o := { dst := some 59, op := Op.call { callee := Callee.value (Operand.func 17), args := #[Operand.tmp 58], argTypes := #[30] }, type := 48, pos := "law.go:61", after := #[{ on := 8, ground := Ground.data }], guard := none }) rfl (fun K hK => ?_) (AllReadyH.cons (o := { dst := some 11, op := Op.alloc 46, type := 0, pos := "law.go:61", after := #[], guard := none }) rfl (fun K hK => ?_) (AllReadyH.cons (o := { dst := some 12, op := Op.alloc 48, type := 0, pos := "law.go:61", after := #[], guard := none }) rfl (fun K hK => ?_) AllReadyH.nil))
              refine wantCall1 ?_ 17 (.tmp 58) #[30] ?_ (.agg #[.int .i64 of, .int .i64 ot, .slice pB oL.length cB]) ?_ ?_ ((enters_of Try.func17 (by kernel_rfl) rfl) _ _) ?_
              · rfl
              · rfl
              · rfl
              · rfl
              refine (HOf.out _).mono ?_
              rintro o x100n ⟨rfl, b100n⟩
              refine ⟨_, rfl, ?_⟩
              have U100n := (((Old.refl w6).drew)).trans b100n
              refine hK.out _ _ (PS.old U100n HPS.out) (fun _ => ?_)
              clear hK K
              try simp only [Act.put, puA, puB, puC]
              have UU_100 := U100n
              obtain ⟨xw_100, rfl⟩ : ∃ z, z = x100n := ⟨_, rfl⟩
              rotate_left
              refine stepAllocN ?_ ?_ ?_
              · rfl
              · rfl
              intro m100n x100n hm100n hy100n
              have nn100n : x100n.heap[m100n]? = some (.cells #[.int .i64 0, .slice none 0 0] 46 (0, 0)) := by rw [hy100n, hm100n]; exact alloc_at _ _
              have b100n : Old (w6.drew) x100n := by rw [hy100n]; exact (Old.refl _).alloc _
              have Z100n : w6.heap.size ≤ m100n := by rw [hm100n]; exact (((Old.refl w6).drew)).size
              clear hm100n hy100n
              have U100n := (((Old.refl w6).drew)).trans b100n
              refine hK.out _ _ (PS.old U100n HPS.out) (fun _ => ?_)
              clear hK K
              try simp only [Act.put, puA, puB, puC]
              have UU_100 := U100n
              have ZZm11_100 := Z100n
              obtain ⟨mm11_100, rfl⟩ : ∃ z, z = m100n := ⟨_, rfl⟩
              have nnn11_100 := nn100n
              obtain ⟨xw_100, rfl⟩ : ∃ z, z = x100n := ⟨_, rfl⟩
              rotate_left
              refine stepAllocR ?_ ?_ ?_
              · rfl
              · rfl
              intro m100n x100n hm100n hy100n
              have nn100n : x100n.heap[m100n]? = some (.cells #[.int .i64 0, .int .i64 0, .slice none 0 0] 48 (0, 0)) := by rw [hy100n, hm100n]; exact alloc_at _ _
              have b100n : Old (w6.drew) x100n := by rw [hy100n]; exact (Old.refl _).alloc _
              have Z100n : w6.heap.size ≤ m100n := by rw [hm100n]; exact (((Old.refl w6).drew)).size
              clear hm100n hy100n
              have U100n := (((Old.refl w6).drew)).trans b100n
              refine hK.out _ _ (PS.old U100n HPS.out) (fun _ => ?_)
              clear hK K
              try simp only [Act.put, puA, puB, puC]
              have UU_100 := U100n
              have ZZm12_100 := Z100n
              obtain ⟨mm12_100, rfl⟩ : ∃ z, z = m100n := ⟨_, rfl⟩
              have nnn12_100 := nn100n
              obtain ⟨xw_100, rfl⟩ : ∃ z, z = x100n := ⟨_, rfl⟩
              rotate_left
            all_goals first
              | refine atA [true, true, true, true, true, true, true, true, true, true, false, false, false, false, false, false, false, false, false, false, false] ?_
                refine tkA (i := 10) (oi := { dst := some 60, op := Op.build 53 #[(0, Operand.tmp 52), (1, Operand.tmp 54), (2, Operand.tmp 56), (3, Operand.tmp 59)], type := 53, pos := "law.go:61", after := #[{ on := 2, ground := Ground.data }, { on := 4, ground := Ground.data }, { on := 6, ground := Ground.data }, { on := 9, ground := Ground.data }], guard := none }) (PS.old UU_100 HPS.out) ?_
                try simp only [Act.put, puA, puB, puC]
                refine rdA [11, 16, 17] ?_
                refine AllReadyH.cons (o := { dst := some 61, op := Op.call { callee := Callee.value (Operand.func 16), args := #[Operand.tmp 50, Operand.tmp 60], argTypes := #[46, 53] }, type := 49, pos := "law.go:61", after := #[{ on := 0, ground := Ground.data }, { on := 10, ground := Ground.data }, { on := 9, ground := Ground.chain }], guard := none }) rfl (fun K hK => ?_) (AllReadyH.cons (o := { dst := some 11, op := Op.alloc 46, type := 0, pos := "law.go:61", after := #[], guard := none }) rfl (fun K hK => ?_) (AllReadyH.cons (o := { dst := some 12, op := Op.alloc 48, type := 0, pos := "law.go:61", after := #[], guard := none }) rfl (fun K hK => ?_) AllReadyH.nil))
                refine wantCall2 ?_ 16 (.tmp 50) (.tmp 60) #[46, 53] ?_ (.agg #[.int .i64 (most : Nat), .slice a Y.length cp]) (.agg #[.int .i64 ok, .int .i64 oi, .int .i64 om, .int .i64 of, .int .i64 ot, .slice pB oL.length cB]) ?_ ?_ ?_ ((enters_of Try.func16 (by kernel_rfl) rfl) _ _) ?_
                · rfl
                · rfl
                · rfl
                · rfl
                · rfl
                refine (HDc.out _ UU_100).mono ?_
                rintro o x100n ⟨a7, c7, Z, x7, rfl, dd100n, hZ100n, hx100n, ss100n, b100n, nw100n⟩
                refine ⟨_, rfl, ?_⟩
                have HZ7 := hid hZ100n
                have HX7 := hid hx100n
                clear hZ100n hx100n nw100n
                have U100n := (UU_100).trans b100n
                refine hK.out _ _ (PS.old U100n HPS.out) (fun _ => ?_)
                clear hK K
                try simp only [Act.put, puA, puB, puC]
                have UU_100 := U100n
                have dddz_100 := dd100n
                have sssx_100 := ss100n
                obtain ⟨xw_100, rfl⟩ : ∃ z, z = x100n := ⟨_, rfl⟩
                rotate_left
                refine stepAllocN ?_ ?_ ?_
                · rfl
                · rfl
                intro m100n x100n hm100n hy100n
                have nn100n : x100n.heap[m100n]? = some (.cells #[.int .i64 0, .slice none 0 0] 46 (0, 0)) := by rw [hy100n, hm100n]; exact alloc_at _ _
                have b100n : Old (xw_100) x100n := by rw [hy100n]; exact (Old.refl _).alloc _
                have Z100n : w6.heap.size ≤ m100n := by rw [hm100n]; exact (UU_100).size
                clear hm100n hy100n
                have U100n := (UU_100).trans b100n
                refine hK.out _ _ (PS.old U100n HPS.out) (fun _ => ?_)
                clear hK K
                try simp only [Act.put, puA, puB, puC]
                have UU_100 := U100n
                have ZZm11_100 := Z100n
                obtain ⟨mm11_100, rfl⟩ : ∃ z, z = m100n := ⟨_, rfl⟩
                have nnn11_100 := nn100n
                obtain ⟨xw_100, rfl⟩ : ∃ z, z = x100n := ⟨_, rfl⟩
                rotate_left
                refine stepAllocR ?_ ?_ ?_
                · rfl
                · rfl
                intro m100n x100n hm100n hy100n
                have nn100n : x100n.heap[m100n]? = some (.cells #[.int .i64 0, .int .i64 0, .slice none 0 0] 48 (0, 0)) := by rw [hy100n, hm100n]; exact alloc_at _ _
                have b100n : Old (xw_100) x100n := by rw [hy100n]; exact (Old.refl _).alloc _
                have Z100n : w6.heap.size ≤ m100n := by rw [hm100n]; exact (UU_100).size
                clear hm100n hy100n
                have U100n := (UU_100).trans b100n
                refine hK.out _ _ (PS.old U100n HPS.out) (fun _ => ?_)
                clear hK K
                try simp only [Act.put, puA, puB, puC]
                have UU_100 := U100n
                have ZZm12_100 := Z100n
                obtain ⟨mm12_100, rfl⟩ : ∃ z, z = m100n := ⟨_, rfl⟩
                have nnn12_100 := nn100n
                obtain ⟨xw_100, rfl⟩ : ∃ z, z = x100n := ⟨_, rfl⟩
                rotate_left
              | refine atA [true, true, true, true, true, true, true, true, true, false, false, false, false, false, false, false, true, false, false, false, false] ?_
                refine rdA [9, 17] ?_
                refine AllReadyH.cons (o := { dst := some 59, op := Op.call { callee := Callee.value (Operand.func 17), args := #[Operand.tmp 58], argTypes := #[30] }, type := 48, pos := "law.go:61", after := #[{ on := 8, ground := Ground.data }], guard := none }) rfl (fun K hK => ?_) (AllReadyH.cons (o := { dst := some 12, op := Op.alloc 48, type := 0, pos := "law.go:61", after := #[], guard := none }) rfl (fun K hK => ?_) AllReadyH.nil)
                refine wantCall1 ?_ 17 (.tmp 58) #[30] ?_ (.agg #[.int .i64 of, .int .i64 ot, .slice pB oL.length cB]) ?_ ?_ ((enters_of Try.func17 (by kernel_rfl) rfl) _ _) ?_
                · rfl
                · rfl
                · rfl
                · rfl
                refine (HOf.out _).mono ?_
                rintro o x100n ⟨rfl, b100n⟩
                refine ⟨_, rfl, ?_⟩
                have U100n := (UU_100).trans b100n
                have hn11_100n := (b100n).block nnn11_100
                refine hK.out _ _ (PS.old U100n HPS.out) (fun _ => ?_)
                clear hK K
                try simp only [Act.put, puA, puB, puC]
                have UU_100 := U100n
                have hnn11_100 := hn11_100n
                obtain ⟨xw_100, rfl⟩ : ∃ z, z = x100n := ⟨_, rfl⟩
                rotate_left
                refine stepAllocR ?_ ?_ ?_
                · rfl
                · rfl
                intro m100n x100n hm100n hy100n
                have nn100n : x100n.heap[m100n]? = some (.cells #[.int .i64 0, .int .i64 0, .slice none 0 0] 48 (0, 0)) := by rw [hy100n, hm100n]; exact alloc_at _ _
                have b100n : Old (xw_100) x100n := by rw [hy100n]; exact (Old.refl _).alloc _
                have Z100n : w6.heap.size ≤ m100n := by rw [hm100n]; exact (UU_100).size
                clear hm100n hy100n
                have U100n := (UU_100).trans b100n
                have hn11_100n := (b100n).block nnn11_100
                refine hK.out _ _ (PS.old U100n HPS.out) (fun _ => ?_)
                clear hK K
                try simp only [Act.put, puA, puB, puC]
                have UU_100 := U100n
                have ZZm12_100 := Z100n
                obtain ⟨mm12_100, rfl⟩ : ∃ z, z = m100n := ⟨_, rfl⟩
                have hnn11_100 := hn11_100n
                have nnn12_100 := nn100n
                obtain ⟨xw_100, rfl⟩ : ∃ z, z = x100n := ⟨_, rfl⟩
                rotate_left
              | refine atA [true, true, true, true, true, true, true, true, true, false, false, false, false, false, false, false, false, true, false, false, false] ?_
                refine rdA [9, 16] ?_
                refine AllReadyH.cons (o := { dst := some 59, op := Op.call { callee := Callee.value (Operand.func 17), args := #[Operand.tmp 58], argTypes := #[30] }, type := 48, pos := "law.go:61", after := #[{ on := 8, ground := Ground.data }], guard := none }) rfl (fun K hK => ?_) (AllReadyH.cons (o := { dst := some 11, op := Op.alloc 46, type := 0, pos := "law.go:61", after := #[], guard := none }) rfl (fun K hK => ?_) AllReadyH.nil)
                refine wantCall1 ?_ 17 (.tmp 58) #[30] ?_ (.agg #[.int .i64 of, .int .i64 ot, .slice pB oL.length cB]) ?_ ?_ ((enters_of Try.func17 (by kernel_rfl) rfl) _ _) ?_
                · rfl
                · rfl
                · rfl
                · rfl
                refine (HOf.out _).mono ?_
                rintro o x100n ⟨rfl, b100n⟩
                refine ⟨_, rfl, ?_⟩
                have U100n := (UU_100).trans b100n
                have hn12_100n := (b100n).block nnn12_100
                refine hK.out _ _ (PS.old U100n HPS.out) (fun _ => ?_)
                clear hK K
                try simp only [Act.put, puA, puB, puC]
                have UU_100 := U100n
                have hnn12_100 := hn12_100n
                obtain ⟨xw_100, rfl⟩ : ∃ z, z = x100n := ⟨_, rfl⟩
                rotate_left
                refine stepAllocN ?_ ?_ ?_
                · rfl
                · rfl
                intro m100n x100n hm100n hy100n
                have nn100n : x100n.heap[m100n]? = some (.cells #[.int .i64 0, .slice none 0 0] 46 (0, 0)) := by rw [hy100n, hm100n]; exact alloc_at _ _
                have b100n : Old (xw_100) x100n := by rw [hy100n]; exact (Old.refl _).alloc _
                have Z100n : w6.heap.size ≤ m100n := by rw [hm100n]; exact (UU_100).size
                clear hm100n hy100n
                have U100n := (UU_100).trans b100n
                have hn12_100n := (b100n).block nnn12_100
                refine hK.out _ _ (PS.old U100n HPS.out) (fun _ => ?_)
                clear hK K
                try simp only [Act.put, puA, puB, puC]
                have UU_100 := U100n
                have ZZm11_100 := Z100n
                obtain ⟨mm11_100, rfl⟩ : ∃ z, z = m100n := ⟨_, rfl⟩
                have nnn11_100 := nn100n
                have hnn12_100 := hn12_100n
                obtain ⟨xw_100, rfl⟩ : ∃ z, z = x100n := ⟨_, rfl⟩
                rotate_left
            all_goals first
              | refine atA [true, true, true, true, true, true, true, true, true, true, true, true, false, false, false, false, false, false, false, false, false] ?_
                refine tkA (i := 12) (oi := { dst := some 49, op := Op.move (Operand.tmp 61), type := 49, pos := "law.go:61", after := #[{ on := 11, ground := Ground.data }], guard := none }) (PS.old UU_100 HPS.out) ?_
                try simp only [Act.put, puA, puB, puC]
                refine tkA (i := 13) (oi := { dst := some 62, op := Op.extract (Operand.tmp 49) 0, type := 46, pos := "law.go:61", after := #[{ on := 12, ground := Ground.data }], guard := none }) (PS.old UU_100 HPS.out) ?_
                try simp only [Act.put, puA, puB, puC]
                refine tkA (i := 14) (oi := { dst := some 63, op := Op.extract (Operand.tmp 49) 1, type := 48, pos := "law.go:61", after := #[{ on := 12, ground := Ground.data }, { on := 18, ground := Ground.gcOnly Departure.lateStores }], guard := none }) (PS.old UU_100 HPS.out) ?_
                try simp only [Act.put, puA, puB, puC]
                refine tkA (i := 15) (oi := { dst := some 64, op := Op.extract (Operand.tmp 49) 2, type := 4, pos := "law.go:61", after := #[{ on := 12, ground := Ground.data }, { on := 19, ground := Ground.gcOnly Departure.lateStores }], guard := none }) (PS.old UU_100 HPS.out) ?_
                try simp only [Act.put, puA, puB, puC]
                refine rdA [16, 17] ?_
                refine AllReadyH.cons (o := { dst := some 11, op := Op.alloc 46, type := 0, pos := "law.go:61", after := #[], guard := none }) rfl (fun K hK => ?_) (AllReadyH.cons (o := { dst := some 12, op := Op.alloc 48, type := 0, pos := "law.go:61", after := #[], guard := none }) rfl (fun K hK => ?_) AllReadyH.nil)
                refine stepAllocN ?_ ?_ ?_
                · rfl
                · rfl
                intro m100n x100n hm100n hy100n
                have nn100n : x100n.heap[m100n]? = some (.cells #[.int .i64 0, .slice none 0 0] 46 (0, 0)) := by rw [hy100n, hm100n]; exact alloc_at _ _
                have b100n : Old (xw_100) x100n := by rw [hy100n]; exact (Old.refl _).alloc _
                have Z100n : w6.heap.size ≤ m100n := by rw [hm100n]; exact (UU_100).size
                have Nm11 := hid (show ∀ g, (Value.slice a7 Z.length c7).ownBlock = some g → g ≠ m100n from fun g e => by have := ((dddz_100).row.lt g e).2; omega)
                clear hm100n hy100n
                have U100n := (UU_100).trans b100n
                have dz100n := DocAt.old dddz_100 b100n
                have sx100n := Sr.old sssx_100 b100n
                refine hK.out _ _ (PS.old U100n HPS.out) (fun _ => ?_)
                clear hK K
                try simp only [Act.put, puA, puB, puC]
                have UU_100 := U100n
                have ZZm11_100 := Z100n
                have dzdz_100 := dz100n
                obtain ⟨mm11_100, rfl⟩ : ∃ z, z = m100n := ⟨_, rfl⟩
                have nnn11_100 := nn100n
                have sxsx_100 := sx100n
                obtain ⟨xw_100, rfl⟩ : ∃ z, z = x100n := ⟨_, rfl⟩
                rotate_left
                refine stepAllocR ?_ ?_ ?_
                · rfl
                · rfl
                intro m100n x100n hm100n hy100n
                have nn100n : x100n.heap[m100n]? = some (.cells #[.int .i64 0, .int .i64 0, .slice none 0 0] 48 (0, 0)) := by rw [hy100n, hm100n]; exact alloc_at _ _
                have b100n : Old (xw_100) x100n := by rw [hy100n]; exact (Old.refl _).alloc _
                have Z100n : w6.heap.size ≤ m100n := by rw [hm100n]; exact (UU_100).size
                have Nm12 := hid (show ∀ g, (Value.slice a7 Z.length c7).ownBlock = some g → g ≠ m100n from fun g e => by have := ((dddz_100).row.lt g e).2; omega)
                clear hm100n hy100n
                have U100n := (UU_100).trans b100n
                have dz100n := DocAt.old dddz_100 b100n
                have sx100n := Sr.old sssx_100 b100n
                refine hK.out _ _ (PS.old U100n HPS.out) (fun _ => ?_)
                clear hK K
                try simp only [Act.put, puA, puB, puC]
                have UU_100 := U100n
                have ZZm12_100 := Z100n
                have dzdz_100 := dz100n
                obtain ⟨mm12_100, rfl⟩ : ∃ z, z = m100n := ⟨_, rfl⟩
                have nnn12_100 := nn100n
                have sxsx_100 := sx100n
                obtain ⟨xw_100, rfl⟩ : ∃ z, z = x100n := ⟨_, rfl⟩
                rotate_left
              | refine atA [true, true, true, true, true, true, true, true, true, true, true, false, false, false, false, false, true, false, false, false, false] ?_
                refine rdA [11, 17] ?_
                refine AllReadyH.cons (o := { dst := some 61, op := Op.call { callee := Callee.value (Operand.func 16), args := #[Operand.tmp 50, Operand.tmp 60], argTypes := #[46, 53] }, type := 49, pos := "law.go:61", after := #[{ on := 0, ground := Ground.data }, { on := 10, ground := Ground.data }, { on := 9, ground := Ground.chain }], guard := none }) rfl (fun K hK => ?_) (AllReadyH.cons (o := { dst := some 12, op := Op.alloc 48, type := 0, pos := "law.go:61", after := #[], guard := none }) rfl (fun K hK => ?_) AllReadyH.nil)
                refine wantCall2 ?_ 16 (.tmp 50) (.tmp 60) #[46, 53] ?_ (.agg #[.int .i64 (most : Nat), .slice a Y.length cp]) (.agg #[.int .i64 ok, .int .i64 oi, .int .i64 om, .int .i64 of, .int .i64 ot, .slice pB oL.length cB]) ?_ ?_ ?_ ((enters_of Try.func16 (by kernel_rfl) rfl) _ _) ?_
                · rfl
                · rfl
                · rfl
                · rfl
                · rfl
                refine (HDc.out _ UU_100).mono ?_
                rintro o x100n ⟨a7, c7, Z, x7, rfl, dd100n, hZ100n, hx100n, ss100n, b100n, nw100n⟩
                refine ⟨_, rfl, ?_⟩
                have HZ7 := hid hZ100n
                have HX7 := hid hx100n
                have Nm11 := hid (show ∀ g, (Value.slice a7 Z.length c7).ownBlock = some g → g ≠ mm11_100 from fun g e => by rcases nw100n g e with h | h; (have := (D6.out.row.lt g h).2; have := ZZm11_100; omega); (have := blk_lt nnn11_100; omega))
                clear hZ100n hx100n nw100n
                have U100n := (UU_100).trans b100n
                have hn11_100n := (b100n).block nnn11_100
                refine hK.out _ _ (PS.old U100n HPS.out) (fun _ => ?_)
                clear hK K
                try simp only [Act.put, puA, puB, puC]
                have UU_100 := U100n
                have dddz_100 := dd100n
                have hnn11_100 := hn11_100n
                have sssx_100 := ss100n
                obtain ⟨xw_100, rfl⟩ : ∃ z, z = x100n := ⟨_, rfl⟩
                rotate_left
                refine stepAllocR ?_ ?_ ?_
                · rfl
                · rfl
                intro m100n x100n hm100n hy100n
                have nn100n : x100n.heap[m100n]? = some (.cells #[.int .i64 0, .int .i64 0, .slice none 0 0] 48 (0, 0)) := by rw [hy100n, hm100n]; exact alloc_at _ _
                have b100n : Old (xw_100) x100n := by rw [hy100n]; exact (Old.refl _).alloc _
                have Z100n : w6.heap.size ≤ m100n := by rw [hm100n]; exact (UU_100).size
                clear hm100n hy100n
                have U100n := (UU_100).trans b100n
                have hn11_100n := (b100n).block nnn11_100
                refine hK.out _ _ (PS.old U100n HPS.out) (fun _ => ?_)
                clear hK K
                try simp only [Act.put, puA, puB, puC]
                have UU_100 := U100n
                have ZZm12_100 := Z100n
                obtain ⟨mm12_100, rfl⟩ : ∃ z, z = m100n := ⟨_, rfl⟩
                have hnn11_100 := hn11_100n
                have nnn12_100 := nn100n
                obtain ⟨xw_100, rfl⟩ : ∃ z, z = x100n := ⟨_, rfl⟩
                rotate_left
              | refine atA [true, true, true, true, true, true, true, true, true, true, true, false, false, false, false, false, false, true, false, false, false] ?_
                refine rdA [11, 16] ?_
                refine AllReadyH.cons (o := { dst := some 61, op := Op.call { callee := Callee.value (Operand.func 16), args := #[Operand.tmp 50, Operand.tmp 60], argTypes := #[46, 53] }, type := 49, pos := "law.go:61", after := #[{ on := 0, ground := Ground.data }, { on := 10, ground := Ground.data }, { on := 9, ground := Ground.chain }], guard := none }) rfl (fun K hK => ?_) (AllReadyH.cons (o := { dst := some 11, op := Op.alloc 46, type := 0, pos := "law.go:61", after := #[], guard := none }) rfl (fun K hK => ?_) AllReadyH.nil)
                refine wantCall2 ?_ 16 (.tmp 50) (.tmp 60) #[46, 53] ?_ (.agg #[.int .i64 (most : Nat), .slice a Y.length cp]) (.agg #[.int .i64 ok, .int .i64 oi, .int .i64 om, .int .i64 of, .int .i64 ot, .slice pB oL.length cB]) ?_ ?_ ?_ ((enters_of Try.func16 (by kernel_rfl) rfl) _ _) ?_
                · rfl
                · rfl
                · rfl
                · rfl
                · rfl
                refine (HDc.out _ UU_100).mono ?_
                rintro o x100n ⟨a7, c7, Z, x7, rfl, dd100n, hZ100n, hx100n, ss100n, b100n, nw100n⟩
                refine ⟨_, rfl, ?_⟩
                have HZ7 := hid hZ100n
                have HX7 := hid hx100n
                have Nm12 := hid (show ∀ g, (Value.slice a7 Z.length c7).ownBlock = some g → g ≠ mm12_100 from fun g e => by rcases nw100n g e with h | h; (have := (D6.out.row.lt g h).2; have := ZZm12_100; omega); (have := blk_lt nnn12_100; omega))
                clear hZ100n hx100n nw100n
                have U100n := (UU_100).trans b100n
                have hn12_100n := (b100n).block nnn12_100
                refine hK.out _ _ (PS.old U100n HPS.out) (fun _ => ?_)
                clear hK K
                try simp only [Act.put, puA, puB, puC]
                have UU_100 := U100n
                have dddz_100 := dd100n
                have hnn12_100 := hn12_100n
                have sssx_100 := ss100n
                obtain ⟨xw_100, rfl⟩ : ∃ z, z = x100n := ⟨_, rfl⟩
                rotate_left
                refine stepAllocN ?_ ?_ ?_
                · rfl
                · rfl
                intro m100n x100n hm100n hy100n
                have nn100n : x100n.heap[m100n]? = some (.cells #[.int .i64 0, .slice none 0 0] 46 (0, 0)) := by rw [hy100n, hm100n]; exact alloc_at _ _
                have b100n : Old (xw_100) x100n := by rw [hy100n]; exact (Old.refl _).alloc _
                have Z100n : w6.heap.size ≤ m100n := by rw [hm100n]; exact (UU_100).size
                clear hm100n hy100n
                have U100n := (UU_100).trans b100n
                have hn12_100n := (b100n).block nnn12_100
                refine hK.out _ _ (PS.old U100n HPS.out) (fun _ => ?_)
                clear hK K
                try simp only [Act.put, puA, puB, puC]
                have UU_100 := U100n
                have ZZm11_100 := Z100n
                obtain ⟨mm11_100, rfl⟩ : ∃ z, z = m100n := ⟨_, rfl⟩
                have nnn11_100 := nn100n
                have hnn12_100 := hn12_100n
                obtain ⟨xw_100, rfl⟩ : ∃ z, z = x100n := ⟨_, rfl⟩
                rotate_left
              | refine atA [true, true, true, true, true, true, true, true, true, true, false, false, false, false, false, false, true, false, false, false, false] ?_
                refine tkA (i := 10) (oi := { dst := some 60, op := Op.build 53 #[(0, Operand.tmp 52), (1, Operand.tmp 54), (2, Operand.tmp 56), (3, Operand.tmp 59)], type := 53, pos := "law.go:61", after := #[{ on := 2, ground := Ground.data }, { on := 4, ground := Ground.data }, { on := 6, ground := Ground.data }, { on := 9, ground := Ground.data }], guard := none }) (PS.old UU_100 HPS.out) ?_
                try simp only [Act.put, puA, puB, puC]
                refine rdA [11, 17] ?_
                refine AllReadyH.cons (o := { dst := some 61, op := Op.call { callee := Callee.value (Operand.func 16), args := #[Operand.tmp 50, Operand.tmp 60], argTypes := #[46, 53] }, type := 49, pos := "law.go:61", after := #[{ on := 0, ground := Ground.data }, { on := 10, ground := Ground.data }, { on := 9, ground := Ground.chain }], guard := none }) rfl (fun K hK => ?_) (AllReadyH.cons (o := { dst := some 12, op := Op.alloc 48, type := 0, pos := "law.go:61", after := #[], guard := none }) rfl (fun K hK => ?_) AllReadyH.nil)
                refine wantCall2 ?_ 16 (.tmp 50) (.tmp 60) #[46, 53] ?_ (.agg #[.int .i64 (most : Nat), .slice a Y.length cp]) (.agg #[.int .i64 ok, .int .i64 oi, .int .i64 om, .int .i64 of, .int .i64 ot, .slice pB oL.length cB]) ?_ ?_ ?_ ((enters_of Try.func16 (by kernel_rfl) rfl) _ _) ?_
                · rfl
                · rfl
                · rfl
                · rfl
                · rfl
                refine (HDc.out _ UU_100).mono ?_
                rintro o x100n ⟨a7, c7, Z, x7, rfl, dd100n, hZ100n, hx100n, ss100n, b100n, nw100n⟩
                refine ⟨_, rfl, ?_⟩
                have HZ7 := hid hZ100n
                have HX7 := hid hx100n
                have Nm11 := hid (show ∀ g, (Value.slice a7 Z.length c7).ownBlock = some g → g ≠ mm11_100 from fun g e => by rcases nw100n g e with h | h; (have := (D6.out.row.lt g h).2; have := ZZm11_100; omega); (have := blk_lt hnn11_100; omega))
                clear hZ100n hx100n nw100n
                have U100n := (UU_100).trans b100n
                have hn11_100n := (b100n).block hnn11_100
                refine hK.out _ _ (PS.old U100n HPS.out) (fun _ => ?_)
                clear hK K
                try simp only [Act.put, puA, puB, puC]
                have UU_100 := U100n
                have dddz_100 := dd100n
                have hnn11_100 := hn11_100n
                have sssx_100 := ss100n
                obtain ⟨xw_100, rfl⟩ : ∃ z, z = x100n := ⟨_, rfl⟩
                rotate_left
                refine stepAllocR ?_ ?_ ?_
                · rfl
                · rfl
                intro m100n x100n hm100n hy100n
                have nn100n : x100n.heap[m100n]? = some (.cells #[.int .i64 0, .int .i64 0, .slice none 0 0] 48 (0, 0)) := by rw [hy100n, hm100n]; exact alloc_at _ _
                have b100n : Old (xw_100) x100n := by rw [hy100n]; exact (Old.refl _).alloc _
                have Z100n : w6.heap.size ≤ m100n := by rw [hm100n]; exact (UU_100).size
                clear hm100n hy100n
                have U100n := (UU_100).trans b100n
                have hn11_100n := (b100n).block hnn11_100
                refine hK.out _ _ (PS.old U100n HPS.out) (fun _ => ?_)
                clear hK K
                try simp only [Act.put, puA, puB, puC]
                have UU_100 := U100n
                have ZZm12_100 := Z100n
                obtain ⟨mm12_100, rfl⟩ : ∃ z, z = m100n := ⟨_, rfl⟩
                have hnn11_100 := hn11_100n
                have nnn12_100 := nn100n
                obtain ⟨xw_100, rfl⟩ : ∃ z, z = x100n := ⟨_, rfl⟩
                rotate_left
              | refine atA [true, true, true, true, true, true, true, true, true, false, false, false, false, false, false, false, true, true, false, false, false] ?_
                refine rdA [9] ?_
                refine AllReadyH.cons (o := { dst := some 59, op := Op.call { callee := Callee.value (Operand.func 17), args := #[Operand.tmp 58], argTypes := #[30] }, type := 48, pos := "law.go:61", after := #[{ on := 8, ground := Ground.data }], guard := none }) rfl (fun K hK => ?_) AllReadyH.nil
                refine wantCall1 ?_ 17 (.tmp 58) #[30] ?_ (.agg #[.int .i64 of, .int .i64 ot, .slice pB oL.length cB]) ?_ ?_ ((enters_of Try.func17 (by kernel_rfl) rfl) _ _) ?_
                · rfl
                · rfl
                · rfl
                · rfl
                refine (HOf.out _).mono ?_
                rintro o x100n ⟨rfl, b100n⟩
                refine ⟨_, rfl, ?_⟩
                have U100n := (UU_100).trans b100n
                have hn11_100n := (b100n).block hnn11_100
                have hn12_100n := (b100n).block nnn12_100
                refine hK.out _ _ (PS.old U100n HPS.out) (fun _ => ?_)
                clear hK K
                try simp only [Act.put, puA, puB, puC]
                have UU_100 := U100n
                have hnn11_100 := hn11_100n
                have hnn12_100 := hn12_100n
                obtain ⟨xw_100, rfl⟩ : ∃ z, z = x100n := ⟨_, rfl⟩
              | refine atA [true, true, true, true, true, true, true, true, true, true, false, false, false, false, false, false, false, true, false, false, false] ?_
                refine tkA (i := 10) (oi := { dst := some 60, op := Op.build 53 #[(0, Operand.tmp 52), (1, Operand.tmp 54), (2, Operand.tmp 56), (3, Operand.tmp 59)], type := 53, pos := "law.go:61", after := #[{ on := 2, ground := Ground.data }, { on := 4, ground := Ground.data }, { on := 6, ground := Ground.data }, { on := 9, ground := Ground.data }], guard := none }) (PS.old UU_100 HPS.out) ?_
                try simp only [Act.put, puA, puB, puC]
                refine rdA [11, 16] ?_
                refine AllReadyH.cons (o := { dst := some 61, op := Op.call { callee := Callee.value (Operand.func 16), args := #[Operand.tmp 50, Operand.tmp 60], argTypes := #[46, 53] }, type := 49, pos := "law.go:61", after := #[{ on := 0, ground := Ground.data }, { on := 10, ground := Ground.data }, { on := 9, ground := Ground.chain }], guard := none }) rfl (fun K hK => ?_) (AllReadyH.cons (o := { dst := some 11, op := Op.alloc 46, type := 0, pos := "law.go:61", after := #[], guard := none }) rfl (fun K hK => ?_) AllReadyH.nil)
                refine wantCall2 ?_ 16 (.tmp 50) (.tmp 60) #[46, 53] ?_ (.agg #[.int .i64 (most : Nat), .slice a Y.length cp]) (.agg #[.int .i64 ok, .int .i64 oi, .int .i64 om, .int .i64 of, .int .i64 ot, .slice pB oL.length cB]) ?_ ?_ ?_ ((enters_of Try.func16 (by kernel_rfl) rfl) _ _) ?_
                · rfl
                · rfl
                · rfl
                · rfl
                · rfl
                refine (HDc.out _ UU_100).mono ?_
                rintro o x100n ⟨a7, c7, Z, x7, rfl, dd100n, hZ100n, hx100n, ss100n, b100n, nw100n⟩
                refine ⟨_, rfl, ?_⟩
                have HZ7 := hid hZ100n
                have HX7 := hid hx100n
                have Nm12 := hid (show ∀ g, (Value.slice a7 Z.length c7).ownBlock = some g → g ≠ mm12_100 from fun g e => by rcases nw100n g e with h | h; (have := (D6.out.row.lt g h).2; have := ZZm12_100; omega); (have := blk_lt hnn12_100; omega))
                clear hZ100n hx100n nw100n
                have U100n := (UU_100).trans b100n
                have hn12_100n := (b100n).block hnn12_100
                refine hK.out _ _ (PS.old U100n HPS.out) (fun _ => ?_)
                clear hK K
                try simp only [Act.put, puA, puB, puC]
                have UU_100 := U100n
                have dddz_100 := dd100n
                have hnn12_100 := hn12_100n
                have sssx_100 := ss100n
                obtain ⟨xw_100, rfl⟩ : ∃ z, z = x100n := ⟨_, rfl⟩
                rotate_left
                refine stepAllocN ?_ ?_ ?_
                · rfl
                · rfl
                intro m100n x100n hm100n hy100n
                have nn100n : x100n.heap[m100n]? = some (.cells #[.int .i64 0, .slice none 0 0] 46 (0, 0)) := by rw [hy100n, hm100n]; exact alloc_at _ _
                have b100n : Old (xw_100) x100n := by rw [hy100n]; exact (Old.refl _).alloc _
                have Z100n : w6.heap.size ≤ m100n := by rw [hm100n]; exact (UU_100).size
                clear hm100n hy100n
                have U100n := (UU_100).trans b100n
                have hn12_100n := (b100n).block hnn12_100
                refine hK.out _ _ (PS.old U100n HPS.out) (fun _ => ?_)
                clear hK K
                try simp only [Act.put, puA, puB, puC]
                have UU_100 := U100n
                have ZZm11_100 := Z100n
                obtain ⟨mm11_100, rfl⟩ : ∃ z, z = m100n := ⟨_, rfl⟩
                have nnn11_100 := nn100n
                have hnn12_100 := hn12_100n
                obtain ⟨xw_100, rfl⟩ : ∃ z, z = x100n := ⟨_, rfl⟩
                rotate_left
              | refine atA [true, true, true, true, true, true, true, true, true, false, false, false, false, false, false, false, true, true, false, false, false] ?_
                refine rdA [9] ?_
                refine AllReadyH.cons (o := { dst := some 59, op := Op.call { callee := Callee.value (Operand.func 17), args := #[Operand.tmp 58], argTypes := #[30] }, type := 48, pos := "law.go:61", after := #[{ on := 8, ground := Ground.data }], guard := none }) rfl (fun K hK => ?_) AllReadyH.nil
                refine wantCall1 ?_ 17 (.tmp 58) #[30] ?_ (.agg #[.int .i64 of, .int .i64 ot, .slice pB oL.length cB]) ?_ ?_ ((enters_of Try.func17 (by kernel_rfl) rfl) _ _) ?_
                · rfl
                · rfl
                · rfl
                · rfl
                refine (HOf.out _).mono ?_
                rintro o x100n ⟨rfl, b100n⟩
                refine ⟨_, rfl, ?_⟩
                have U100n := (UU_100).trans b100n
                have hn11_100n := (b100n).block nnn11_100
                have hn12_100n := (b100n).block hnn12_100
                refine hK.out _ _ (PS.old U100n HPS.out) (fun _ => ?_)
                clear hK K
                try simp only [Act.put, puA, puB, puC]
                have UU_100 := U100n
                have hnn11_100 := hn11_100n
                have hnn12_100 := hn12_100n
                obtain ⟨xw_100, rfl⟩ : ∃ z, z = x100n := ⟨_, rfl⟩
            all_goals first
              | refine atA [true, true, true, true, true, true, true, true, true, true, true, true, true, true, true, true, true, false, false, false, false] ?_
                refine rdA [17] ?_
                refine AllReadyH.cons (o := { dst := some 12, op := Op.alloc 48, type := 0, pos := "law.go:61", after := #[], guard := none }) rfl (fun K hK => ?_) AllReadyH.nil
                refine stepAllocR ?_ ?_ ?_
                · rfl
                · rfl
                intro m100n x100n hm100n hy100n
                have nn100n : x100n.heap[m100n]? = some (.cells #[.int .i64 0, .int .i64 0, .slice none 0 0] 48 (0, 0)) := by rw [hy100n, hm100n]; exact alloc_at _ _
                have b100n : Old (xw_100) x100n := by rw [hy100n]; exact (Old.refl _).alloc _
                have Z100n : w6.heap.size ≤ m100n := by rw [hm100n]; exact (UU_100).size
                have Nm12 := hid (show ∀ g, (Value.slice a7 Z.length c7).ownBlock = some g → g ≠ m100n from fun g e => by have := ((dzdz_100).row.lt g e).2; omega)
                clear hm100n hy100n
                have U100n := (UU_100).trans b100n
                have hn11_100n := (b100n).block nnn11_100
                have dz100n := DocAt.old dzdz_100 b100n
                have sx100n := Sr.old sxsx_100 b100n
                refine hK.out _ _ (PS.old U100n HPS.out) (fun _ => ?_)
                clear hK K
                try simp only [Act.put, puA, puB, puC]
                have UU_100 := U100n
                have ZZm12_100 := Z100n
                have dzdz_100 := dz100n
                obtain ⟨mm12_100, rfl⟩ : ∃ z, z = m100n := ⟨_, rfl⟩
                have hnn11_100 := hn11_100n
                have nnn12_100 := nn100n
                have sxsx_100 := sx100n
                obtain ⟨xw_100, rfl⟩ : ∃ z, z = x100n := ⟨_, rfl⟩
              | refine atA [true, true, true, true, true, true, true, true, true, true, true, true, true, true, true, true, false, true, false, false, false] ?_
                refine rdA [16] ?_
                refine AllReadyH.cons (o := { dst := some 11, op := Op.alloc 46, type := 0, pos := "law.go:61", after := #[], guard := none }) rfl (fun K hK => ?_) AllReadyH.nil
                refine stepAllocN ?_ ?_ ?_
                · rfl
                · rfl
                intro m100n x100n hm100n hy100n
                have nn100n : x100n.heap[m100n]? = some (.cells #[.int .i64 0, .slice none 0 0] 46 (0, 0)) := by rw [hy100n, hm100n]; exact alloc_at _ _
                have b100n : Old (xw_100) x100n := by rw [hy100n]; exact (Old.refl _).alloc _
                have Z100n : w6.heap.size ≤ m100n := by rw [hm100n]; exact (UU_100).size
                have Nm11 := hid (show ∀ g, (Value.slice a7 Z.length c7).ownBlock = some g → g ≠ m100n from fun g e => by have := ((dzdz_100).row.lt g e).2; omega)
                clear hm100n hy100n
                have U100n := (UU_100).trans b100n
                have hn12_100n := (b100n).block nnn12_100
                have dz100n := DocAt.old dzdz_100 b100n
                have sx100n := Sr.old sxsx_100 b100n
                refine hK.out _ _ (PS.old U100n HPS.out) (fun _ => ?_)
                clear hK K
                try simp only [Act.put, puA, puB, puC]
                have UU_100 := U100n
                have ZZm11_100 := Z100n
                have dzdz_100 := dz100n
                obtain ⟨mm11_100, rfl⟩ : ∃ z, z = m100n := ⟨_, rfl⟩
                have nnn11_100 := nn100n
                have hnn12_100 := hn12_100n
                have sxsx_100 := sx100n
                obtain ⟨xw_100, rfl⟩ : ∃ z, z = x100n := ⟨_, rfl⟩
              | refine atA [true, true, true, true, true, true, true, true, true, true, true, true, false, false, false, false, true, false, false, false, false] ?_
                refine tkA (i := 12) (oi := { dst := some 49, op := Op.move (Operand.tmp 61), type := 49, pos := "law.go:61", after := #[{ on := 11, ground := Ground.data }], guard := none }) (PS.old UU_100 HPS.out) ?_
                try simp only [Act.put, puA, puB, puC]
                refine tkA (i := 13) (oi := { dst := some 62, op := Op.extract (Operand.tmp 49) 0, type := 46, pos := "law.go:61", after := #[{ on := 12, ground := Ground.data }], guard := none }) (PS.old UU_100 HPS.out) ?_
                try simp only [Act.put, puA, puB, puC]
                refine tkA (i := 14) (oi := { dst := some 63, op := Op.extract (Operand.tmp 49) 1, type := 48, pos := "law.go:61", after := #[{ on := 12, ground := Ground.data }, { on := 18, ground := Ground.gcOnly Departure.lateStores }], guard := none }) (PS.old UU_100 HPS.out) ?_
                try simp only [Act.put, puA, puB, puC]
                refine tkA (i := 15) (oi := { dst := some 64, op := Op.extract (Operand.tmp 49) 2, type := 4, pos := "law.go:61", after := #[{ on := 12, ground := Ground.data }, { on := 19, ground := Ground.gcOnly Departure.lateStores }], guard := none }) (PS.old UU_100 HPS.out) ?_
                try simp only [Act.put, puA, puB, puC]
                refine rdA [17] ?_
                refine AllReadyH.cons (o := { dst := some 12, op := Op.alloc 48, type := 0, pos := "law.go:61", after := #[], guard := none }) rfl (fun K hK => ?_) AllReadyH.nil
                refine stepAllocR ?_ ?_ ?_
                · rfl
                · rfl
                intro m100n x100n hm100n hy100n
                have nn100n : x100n.heap[m100n]? = some (.cells #[.int .i64 0, .int .i64 0, .slice none 0 0] 48 (0, 0)) := by rw [hy100n, hm100n]; exact alloc_at _ _
                have b100n : Old (xw_100) x100n := by rw [hy100n]; exact (Old.refl _).alloc _
                have Z100n : w6.heap.size ≤ m100n := by rw [hm100n]; exact (UU_100).size
                have Nm12 := hid (show ∀ g, (Value.slice a7 Z.length c7).ownBlock = some g → g ≠ m100n from fun g e => by have := ((dddz_100).row.lt g e).2; omega)
                clear hm100n hy100n
                have U100n := (UU_100).trans b100n
                have hn11_100n := (b100n).block hnn11_100
                have dz100n := DocAt.old dddz_100 b100n
                have sx100n := Sr.old sssx_100 b100n
                refine hK.out _ _ (PS.old U100n HPS.out) (fun _ => ?_)
                clear hK K
                try simp only [Act.put, puA, puB, puC]
                have UU_100 := U100n
                have ZZm12_100 := Z100n
                have dzdz_100 := dz100n
                obtain ⟨mm12_100, rfl⟩ : ∃ z, z = m100n := ⟨_, rfl⟩
                have hnn11_100 := hn11_100n
                have nnn12_100 := nn100n
                have sxsx_100 := sx100n
                obtain ⟨xw_100, rfl⟩ : ∃ z, z = x100n := ⟨_, rfl⟩
              | refine atA [true, true, true, true, true, true, true, true, true, true, true, false, false, false, false, false, true, true, false, false, false] ?_
                refine rdA [11] ?_
                refine AllReadyH.cons (o := { dst := some 61, op := Op.call { callee := Callee.value (Operand.func 16), args := #[Operand.tmp 50, Operand.tmp 60], argTypes := #[46, 53] }, type := 49, pos := "law.go:61", after := #[{ on := 0, ground := Ground.data }, { on := 10, ground := Ground.data }, { on := 9, ground := Ground.chain }], guard := none }) rfl (fun K hK => ?_) AllReadyH.nil
                refine wantCall2 ?_ 16 (.tmp 50) (.tmp 60) #[46, 53] ?_ (.agg #[.int .i64 (most : Nat), .slice a Y.length cp]) (.agg #[.int .i64 ok, .int .i64 oi, .int .i64 om, .int .i64 of, .int .i64 ot, .slice pB oL.length cB]) ?_ ?_ ?_ ((enters_of Try.func16 (by kernel_rfl) rfl) _ _) ?_
                · rfl
                · rfl
                · rfl
                · rfl
                · rfl
                refine (HDc.out _ UU_100).mono ?_
                rintro o x100n ⟨a7, c7, Z, x7, rfl, dd100n, hZ100n, hx100n, ss100n, b100n, nw100n⟩
                refine ⟨_, rfl, ?_⟩
                have HZ7 := hid hZ100n
                have HX7 := hid hx100n
                have Nm11 := hid (show ∀ g, (Value.slice a7 Z.length c7).ownBlock = some g → g ≠ mm11_100 from fun g e => by rcases nw100n g e with h | h; (have := (D6.out.row.lt g h).2; have := ZZm11_100; omega); (have := blk_lt hnn11_100; omega))
                have Nm12 := hid (show ∀ g, (Value.slice a7 Z.length c7).ownBlock = some g → g ≠ mm12_100 from fun g e => by rcases nw100n g e with h | h; (have := (D6.out.row.lt g h).2; have := ZZm12_100; omega); (have := blk_lt nnn12_100; omega))
                clear hZ100n hx100n nw100n
                have U100n := (UU_100).trans b100n
                have hn11_100n := (b100n).block hnn11_100
                have hn12_100n := (b100n).block nnn12_100
                refine hK.out _ _ (PS.old U100n HPS.out) (fun _ => ?_)
                clear hK K
                try simp only [Act.put, puA, puB, puC]
                have UU_100 := U100n
                have dddz_100 := dd100n
                have hnn11_100 := hn11_100n
                have hnn12_100 := hn12_100n
                have sssx_100 := ss100n
                obtain ⟨xw_100, rfl⟩ : ∃ z, z = x100n := ⟨_, rfl⟩
              | refine atA [true, true, true, true, true, true, true, true, true, true, true, true, false, false, false, false, false, true, false, false, false] ?_
                refine tkA (i := 12) (oi := { dst := some 49, op := Op.move (Operand.tmp 61), type := 49, pos := "law.go:61", after := #[{ on := 11, ground := Ground.data }], guard := none }) (PS.old UU_100 HPS.out) ?_
                try simp only [Act.put, puA, puB, puC]
                refine tkA (i := 13) (oi := { dst := some 62, op := Op.extract (Operand.tmp 49) 0, type := 46, pos := "law.go:61", after := #[{ on := 12, ground := Ground.data }], guard := none }) (PS.old UU_100 HPS.out) ?_
                try simp only [Act.put, puA, puB, puC]
                refine tkA (i := 14) (oi := { dst := some 63, op := Op.extract (Operand.tmp 49) 1, type := 48, pos := "law.go:61", after := #[{ on := 12, ground := Ground.data }, { on := 18, ground := Ground.gcOnly Departure.lateStores }], guard := none }) (PS.old UU_100 HPS.out) ?_
                try simp only [Act.put, puA, puB, puC]
                refine tkA (i := 15) (oi := { dst := some 64, op := Op.extract (Operand.tmp 49) 2, type := 4, pos := "law.go:61", after := #[{ on := 12, ground := Ground.data }, { on := 19, ground := Ground.gcOnly Departure.lateStores }], guard := none }) (PS.old UU_100 HPS.out) ?_
                try simp only [Act.put, puA, puB, puC]
                refine rdA [16] ?_
                refine AllReadyH.cons (o := { dst := some 11, op := Op.alloc 46, type := 0, pos := "law.go:61", after := #[], guard := none }) rfl (fun K hK => ?_) AllReadyH.nil
                refine stepAllocN ?_ ?_ ?_
                · rfl
                · rfl
                intro m100n x100n hm100n hy100n
                have nn100n : x100n.heap[m100n]? = some (.cells #[.int .i64 0, .slice none 0 0] 46 (0, 0)) := by rw [hy100n, hm100n]; exact alloc_at _ _
                have b100n : Old (xw_100) x100n := by rw [hy100n]; exact (Old.refl _).alloc _
                have Z100n : w6.heap.size ≤ m100n := by rw [hm100n]; exact (UU_100).size
                have Nm11 := hid (show ∀ g, (Value.slice a7 Z.length c7).ownBlock = some g → g ≠ m100n from fun g e => by have := ((dddz_100).row.lt g e).2; omega)
                clear hm100n hy100n
                have U100n := (UU_100).trans b100n
                have hn12_100n := (b100n).block hnn12_100
                have dz100n := DocAt.old dddz_100 b100n
                have sx100n := Sr.old sssx_100 b100n
                refine hK.out _ _ (PS.old U100n HPS.out) (fun _ => ?_)
                clear hK K
                try simp only [Act.put, puA, puB, puC]
                have UU_100 := U100n
                have ZZm11_100 := Z100n
                have dzdz_100 := dz100n
                obtain ⟨mm11_100, rfl⟩ : ∃ z, z = m100n := ⟨_, rfl⟩
                have nnn11_100 := nn100n
                have hnn12_100 := hn12_100n
                have sxsx_100 := sx100n
                obtain ⟨xw_100, rfl⟩ : ∃ z, z = x100n := ⟨_, rfl⟩
              | refine atA [true, true, true, true, true, true, true, true, true, true, true, false, false, false, false, false, true, true, false, false, false] ?_
                refine rdA [11] ?_
                refine AllReadyH.cons (o := { dst := some 61, op := Op.call { callee := Callee.value (Operand.func 16), args := #[Operand.tmp 50, Operand.tmp 60], argTypes := #[46, 53] }, type := 49, pos := "law.go:61", after := #[{ on := 0, ground := Ground.data }, { on := 10, ground := Ground.data }, { on := 9, ground := Ground.chain }], guard := none }) rfl (fun K hK => ?_) AllReadyH.nil
                refine wantCall2 ?_ 16 (.tmp 50) (.tmp 60) #[46, 53] ?_ (.agg #[.int .i64 (most : Nat), .slice a Y.length cp]) (.agg #[.int .i64 ok, .int .i64 oi, .int .i64 om, .int .i64 of, .int .i64 ot, .slice pB oL.length cB]) ?_ ?_ ?_ ((enters_of Try.func16 (by kernel_rfl) rfl) _ _) ?_
                · rfl
                · rfl
                · rfl
                · rfl
                · rfl
                refine (HDc.out _ UU_100).mono ?_
                rintro o x100n ⟨a7, c7, Z, x7, rfl, dd100n, hZ100n, hx100n, ss100n, b100n, nw100n⟩
                refine ⟨_, rfl, ?_⟩
                have HZ7 := hid hZ100n
                have HX7 := hid hx100n
                have Nm11 := hid (show ∀ g, (Value.slice a7 Z.length c7).ownBlock = some g → g ≠ mm11_100 from fun g e => by rcases nw100n g e with h | h; (have := (D6.out.row.lt g h).2; have := ZZm11_100; omega); (have := blk_lt nnn11_100; omega))
                have Nm12 := hid (show ∀ g, (Value.slice a7 Z.length c7).ownBlock = some g → g ≠ mm12_100 from fun g e => by rcases nw100n g e with h | h; (have := (D6.out.row.lt g h).2; have := ZZm12_100; omega); (have := blk_lt hnn12_100; omega))
                clear hZ100n hx100n nw100n
                have U100n := (UU_100).trans b100n
                have hn11_100n := (b100n).block nnn11_100
                have hn12_100n := (b100n).block hnn12_100
                refine hK.out _ _ (PS.old U100n HPS.out) (fun _ => ?_)
                clear hK K
                try simp only [Act.put, puA, puB, puC]
                have UU_100 := U100n
                have dddz_100 := dd100n
                have hnn11_100 := hn11_100n
                have hnn12_100 := hn12_100n
                have sssx_100 := ss100n
                obtain ⟨xw_100, rfl⟩ : ∃ z, z = x100n := ⟨_, rfl⟩
              | refine atA [true, true, true, true, true, true, true, true, true, true, false, false, false, false, false, false, true, true, false, false, false] ?_
                refine tkA (i := 10) (oi := { dst := some 60, op := Op.build 53 #[(0, Operand.tmp 52), (1, Operand.tmp 54), (2, Operand.tmp 56), (3, Operand.tmp 59)], type := 53, pos := "law.go:61", after := #[{ on := 2, ground := Ground.data }, { on := 4, ground := Ground.data }, { on := 6, ground := Ground.data }, { on := 9, ground := Ground.data }], guard := none }) (PS.old UU_100 HPS.out) ?_
                try simp only [Act.put, puA, puB, puC]
                refine rdA [11] ?_
                refine AllReadyH.cons (o := { dst := some 61, op := Op.call { callee := Callee.value (Operand.func 16), args := #[Operand.tmp 50, Operand.tmp 60], argTypes := #[46, 53] }, type := 49, pos := "law.go:61", after := #[{ on := 0, ground := Ground.data }, { on := 10, ground := Ground.data }, { on := 9, ground := Ground.chain }], guard := none }) rfl (fun K hK => ?_) AllReadyH.nil
                refine wantCall2 ?_ 16 (.tmp 50) (.tmp 60) #[46, 53] ?_ (.agg #[.int .i64 (most : Nat), .slice a Y.length cp]) (.agg #[.int .i64 ok, .int .i64 oi, .int .i64 om, .int .i64 of, .int .i64 ot, .slice pB oL.length cB]) ?_ ?_ ?_ ((enters_of Try.func16 (by kernel_rfl) rfl) _ _) ?_
                · rfl
                · rfl
                · rfl
                · rfl
                · rfl
                refine (HDc.out _ UU_100).mono ?_
                rintro o x100n ⟨a7, c7, Z, x7, rfl, dd100n, hZ100n, hx100n, ss100n, b100n, nw100n⟩
                refine ⟨_, rfl, ?_⟩
                have HZ7 := hid hZ100n
                have HX7 := hid hx100n
                have Nm11 := hid (show ∀ g, (Value.slice a7 Z.length c7).ownBlock = some g → g ≠ mm11_100 from fun g e => by rcases nw100n g e with h | h; (have := (D6.out.row.lt g h).2; have := ZZm11_100; omega); (have := blk_lt hnn11_100; omega))
                have Nm12 := hid (show ∀ g, (Value.slice a7 Z.length c7).ownBlock = some g → g ≠ mm12_100 from fun g e => by rcases nw100n g e with h | h; (have := (D6.out.row.lt g h).2; have := ZZm12_100; omega); (have := blk_lt hnn12_100; omega))
                clear hZ100n hx100n nw100n
                have U100n := (UU_100).trans b100n
                have hn11_100n := (b100n).block hnn11_100
                have hn12_100n := (b100n).block hnn12_100
                refine hK.out _ _ (PS.old U100n HPS.out) (fun _ => ?_)
                clear hK K
                try simp only [Act.put, puA, puB, puC]
                have UU_100 := U100n
                have dddz_100 := dd100n
                have hnn11_100 := hn11_100n
                have hnn12_100 := hn12_100n
                have sssx_100 := ss100n
                obtain ⟨xw_100, rfl⟩ : ∃ z, z = x100n := ⟨_, rfl⟩
            all_goals first
              | refine atA [true, true, true, true, true, true, true, true, true, true, true, true, true, true, true, true, true, true, false, false, false] ?_
                refine rdA [18] ?_
                refine AllReadyH.cons (o := { dst := none, op := Op.store 46 (Operand.tmp 11) (Operand.tmp 62), type := 0, pos := "law.go:61", after := #[{ on := 16, ground := Ground.data }, { on := 13, ground := Ground.data }, { on := 11, ground := Ground.chain }, { on := 0, ground := Ground.phase }, { on := 1, ground := Ground.phase }, { on := 2, ground := Ground.phase }, { on := 3, ground := Ground.phase }, { on := 4, ground := Ground.phase }, { on := 5, ground := Ground.phase }, { on := 6, ground := Ground.phase }, { on := 7, ground := Ground.phase }, { on := 8, ground := Ground.phase }, { on := 9, ground := Ground.phase }, { on := 10, ground := Ground.phase }, { on := 11, ground := Ground.phase }, { on := 12, ground := Ground.phase }, { on := 13, ground := Ground.phase }, { on := 14, ground := Ground.textOnly Departure.lateStores }, { on := 15, ground := Ground.textOnly Departure.lateStores }, { on := 16, ground := Ground.phase }, { on := 17, ground := Ground.phase }], guard := none }) rfl (fun K hK => ?_) AllReadyH.nil
                refine stepStoreN2 ?_ (.tmp 11) (.tmp 62) ?_ mm11_100 (.int .i64 (most : Nat)) (.slice a7 Z.length c7) ?_ ?_ (there2 hnn11_100) ⟨rfl, rfl⟩ ?_
                · rfl
                · rfl
                · rfl
                · rfl
                have ne100n : mm12_100 ≠ mm11_100 := fun e => by have h1 := hnn11_100; have h2 := nnn12_100; rw [e, h1] at h2; simp at h2
                have qq100n := set_other (v := .slice a7 Z.length c7) (i := 1) (set_other (v := .int .i64 (most : Nat)) (i := 0) nnn12_100 ne100n) ne100n
                have U100n := ((UU_100).setCell (p := ⟨mm11_100, 0, none⟩) ZZm11_100 (.int .i64 (most : Nat))).setCell (p := ⟨mm11_100, 1, none⟩) ZZm11_100 (.slice a7 Z.length c7)
                refine hK.out _ _ (PS.old U100n HPS.out) (fun _ => ?_)
                clear hK K
                try simp only [Act.put, puA, puB, puC]
                have UU_100 := U100n
                have qqn12b_100 := qq100n
              | refine atA [true, true, true, true, true, true, true, true, true, true, true, true, true, true, true, true, true, true, false, false, false] ?_
                refine rdA [18] ?_
                refine AllReadyH.cons (o := { dst := none, op := Op.store 46 (Operand.tmp 11) (Operand.tmp 62), type := 0, pos := "law.go:61", after := #[{ on := 16, ground := Ground.data }, { on := 13, ground := Ground.data }, { on := 11, ground := Ground.chain }, { on := 0, ground := Ground.phase }, { on := 1, ground := Ground.phase }, { on := 2, ground := Ground.phase }, { on := 3, ground := Ground.phase }, { on := 4, ground := Ground.phase }, { on := 5, ground := Ground.phase }, { on := 6, ground := Ground.phase }, { on := 7, ground := Ground.phase }, { on := 8, ground := Ground.phase }, { on := 9, ground := Ground.phase }, { on := 10, ground := Ground.phase }, { on := 11, ground := Ground.phase }, { on := 12, ground := Ground.phase }, { on := 13, ground := Ground.phase }, { on := 14, ground := Ground.textOnly Departure.lateStores }, { on := 15, ground := Ground.textOnly Departure.lateStores }, { on := 16, ground := Ground.phase }, { on := 17, ground := Ground.phase }], guard := none }) rfl (fun K hK => ?_) AllReadyH.nil
                refine stepStoreN2 ?_ (.tmp 11) (.tmp 62) ?_ mm11_100 (.int .i64 (most : Nat)) (.slice a7 Z.length c7) ?_ ?_ (there2 nnn11_100) ⟨rfl, rfl⟩ ?_
                · rfl
                · rfl
                · rfl
                · rfl
                have ne100n : mm12_100 ≠ mm11_100 := fun e => by have h1 := nnn11_100; have h2 := hnn12_100; rw [e, h1] at h2; simp at h2
                have qq100n := set_other (v := .slice a7 Z.length c7) (i := 1) (set_other (v := .int .i64 (most : Nat)) (i := 0) hnn12_100 ne100n) ne100n
                have U100n := ((UU_100).setCell (p := ⟨mm11_100, 0, none⟩) ZZm11_100 (.int .i64 (most : Nat))).setCell (p := ⟨mm11_100, 1, none⟩) ZZm11_100 (.slice a7 Z.length c7)
                refine hK.out _ _ (PS.old U100n HPS.out) (fun _ => ?_)
                clear hK K
                try simp only [Act.put, puA, puB, puC]
                have UU_100 := U100n
                have qqn12b_100 := qq100n
              | refine atA [true, true, true, true, true, true, true, true, true, true, true, true, false, false, false, false, true, true, false, false, false] ?_
                refine tkA (i := 12) (oi := { dst := some 49, op := Op.move (Operand.tmp 61), type := 49, pos := "law.go:61", after := #[{ on := 11, ground := Ground.data }], guard := none }) (PS.old UU_100 HPS.out) ?_
                try simp only [Act.put, puA, puB, puC]
                refine tkA (i := 13) (oi := { dst := some 62, op := Op.extract (Operand.tmp 49) 0, type := 46, pos := "law.go:61", after := #[{ on := 12, ground := Ground.data }], guard := none }) (PS.old UU_100 HPS.out) ?_
                try simp only [Act.put, puA, puB, puC]
                refine tkA (i := 14) (oi := { dst := some 63, op := Op.extract (Operand.tmp 49) 1, type := 48, pos := "law.go:61", after := #[{ on := 12, ground := Ground.data }, { on := 18, ground := Ground.gcOnly Departure.lateStores }], guard := none }) (PS.old UU_100 HPS.out) ?_
                try simp only [Act.put, puA, puB, puC]
                refine tkA (i := 15) (oi := { dst := some 64, op := Op.extract (Operand.tmp 49) 2, type := 4, pos := "law.go:61", after := #[{ on := 12, ground := Ground.data }, { on := 19, ground := Ground.gcOnly Departure.lateStores }], guard := none }) (PS.old UU_100 HPS.out) ?_
                try simp only [Act.put, puA, puB, puC]
                refine rdA [18] ?_
                refine AllReadyH.cons (o := { dst := none, op := Op.store 46 (Operand.tmp 11) (Operand.tmp 62), type := 0, pos := "law.go:61", after := #[{ on := 16, ground := Ground.data }, { on := 13, ground := Ground.data }, { on := 11, ground := Ground.chain }, { on := 0, ground := Ground.phase }, { on := 1, ground := Ground.phase }, { on := 2, ground := Ground.phase }, { on := 3, ground := Ground.phase }, { on := 4, ground := Ground.phase }, { on := 5, ground := Ground.phase }, { on := 6, ground := Ground.phase }, { on := 7, ground := Ground.phase }, { on := 8, ground := Ground.phase }, { on := 9, ground := Ground.phase }, { on := 10, ground := Ground.phase }, { on := 11, ground := Ground.phase }, { on := 12, ground := Ground.phase }, { on := 13, ground := Ground.phase }, { on := 14, ground := Ground.textOnly Departure.lateStores }, { on := 15, ground := Ground.textOnly Departure.lateStores }, { on := 16, ground := Ground.phase }, { on := 17, ground := Ground.phase }], guard := none }) rfl (fun K hK => ?_) AllReadyH.nil
                refine stepStoreN2 ?_ (.tmp 11) (.tmp 62) ?_ mm11_100 (.int .i64 (most : Nat)) (.slice a7 Z.length c7) ?_ ?_ (there2 hnn11_100) ⟨rfl, rfl⟩ ?_
                · rfl
                · rfl
                · rfl
                · rfl
                have ne100n : mm12_100 ≠ mm11_100 := fun e => by have h1 := hnn11_100; have h2 := hnn12_100; rw [e, h1] at h2; simp at h2
                have qq100n := set_other (v := .slice a7 Z.length c7) (i := 1) (set_other (v := .int .i64 (most : Nat)) (i := 0) hnn12_100 ne100n) ne100n
                have U100n := ((UU_100).setCell (p := ⟨mm11_100, 0, none⟩) ZZm11_100 (.int .i64 (most : Nat))).setCell (p := ⟨mm11_100, 1, none⟩) ZZm11_100 (.slice a7 Z.length c7)
                refine hK.out _ _ (PS.old U100n HPS.out) (fun _ => ?_)
                clear hK K
                try simp only [Act.put, puA, puB, puC]
                have UU_100 := U100n
                have qqn12b_100 := qq100n
            all_goals first
              | refine atA [true, true, true, true, true, true, true, true, true, true, true, true, true, true, true, true, true, true, true, false, false] ?_
                refine rdA [19] ?_
                refine AllReadyH.cons (o := { dst := none, op := Op.store 48 (Operand.tmp 12) (Operand.tmp 63), type := 0, pos := "law.go:61", after := #[{ on := 17, ground := Ground.data }, { on := 14, ground := Ground.data }, { on := 18, ground := Ground.chain }, { on := 0, ground := Ground.phase }, { on := 1, ground := Ground.phase }, { on := 2, ground := Ground.phase }, { on := 3, ground := Ground.phase }, { on := 4, ground := Ground.phase }, { on := 5, ground := Ground.phase }, { on := 6, ground := Ground.phase }, { on := 7, ground := Ground.phase }, { on := 8, ground := Ground.phase }, { on := 9, ground := Ground.phase }, { on := 10, ground := Ground.phase }, { on := 11, ground := Ground.phase }, { on := 12, ground := Ground.phase }, { on := 13, ground := Ground.phase }, { on := 14, ground := Ground.phase }, { on := 15, ground := Ground.textOnly Departure.lateStores }, { on := 16, ground := Ground.phase }, { on := 17, ground := Ground.phase }, { on := 18, ground := Ground.phase }], guard := none }) rfl (fun K hK => ?_) AllReadyH.nil
                refine stepStoreR3 ?_ (.tmp 12) (.tmp 63) ?_ mm12_100 (.int .i64 x7.f) (.int .i64 x7.t) (.slice x7.a x7.L.length x7.c) ?_ ?_ (there3 qqn12b_100) ⟨rfl, rfl, rfl⟩ ?_
                · rfl
                · rfl
                · rfl
                · rfl
                have U100n := (((UU_100).setCell (p := ⟨mm12_100, 0, none⟩) ZZm12_100 (.int .i64 x7.f)).setCell (p := ⟨mm12_100, 1, none⟩) ZZm12_100 (.int .i64 x7.t)).setCell (p := ⟨mm12_100, 2, none⟩) ZZm12_100 (.slice x7.a x7.L.length x7.c)
                refine hK.out _ _ (PS.old U100n HPS.out) (fun _ => ?_)
                clear hK K
                try simp only [Act.put, puA, puB, puC]
                have UU_100 := U100n
              | refine atA [true, true, true, true, true, true, true, true, true, true, true, true, true, true, true, true, true, true, true, false, false] ?_
                refine rdA [19] ?_
                refine AllReadyH.cons (o := { dst := none, op := Op.store 48 (Operand.tmp 12) (Operand.tmp 63), type := 0, pos := "law.go:61", after := #[{ on := 17, ground := Ground.data }, { on := 14, ground := Ground.data }, { on := 18, ground := Ground.chain }, { on := 0, ground := Ground.phase }, { on := 1, ground := Ground.phase }, { on := 2, ground := Ground.phase }, { on := 3, ground := Ground.phase }, { on := 4, ground := Ground.phase }, { on := 5, ground := Ground.phase }, { on := 6, ground := Ground.phase }, { on := 7, ground := Ground.phase }, { on := 8, ground := Ground.phase }, { on := 9, ground := Ground.phase }, { on := 10, ground := Ground.phase }, { on := 11, ground := Ground.phase }, { on := 12, ground := Ground.phase }, { on := 13, ground := Ground.phase }, { on := 14, ground := Ground.phase }, { on := 15, ground := Ground.textOnly Departure.lateStores }, { on := 16, ground := Ground.phase }, { on := 17, ground := Ground.phase }, { on := 18, ground := Ground.phase }], guard := none }) rfl (fun K hK => ?_) AllReadyH.nil
                refine stepStoreR3 ?_ (.tmp 12) (.tmp 63) ?_ mm12_100 (.int .i64 x7.f) (.int .i64 x7.t) (.slice x7.a x7.L.length x7.c) ?_ ?_ (there3 qqn12b_100) ⟨rfl, rfl, rfl⟩ ?_
                · rfl
                · rfl
                · rfl
                · rfl
                have U100n := (((UU_100).setCell (p := ⟨mm12_100, 0, none⟩) ZZm12_100 (.int .i64 x7.f)).setCell (p := ⟨mm12_100, 1, none⟩) ZZm12_100 (.int .i64 x7.t)).setCell (p := ⟨mm12_100, 2, none⟩) ZZm12_100 (.slice x7.a x7.L.length x7.c)
                refine hK.out _ _ (PS.old U100n HPS.out) (fun _ => ?_)
                clear hK K
                try simp only [Act.put, puA, puB, puC]
                have UU_100 := U100n
              | refine atA [true, true, true, true, true, true, true, true, true, true, true, true, true, true, true, true, true, true, true, false, false] ?_
                refine rdA [19] ?_
                refine AllReadyH.cons (o := { dst := none, op := Op.store 48 (Operand.tmp 12) (Operand.tmp 63), type := 0, pos := "law.go:61", after := #[{ on := 17, ground := Ground.data }, { on := 14, ground := Ground.data }, { on := 18, ground := Ground.chain }, { on := 0, ground := Ground.phase }, { on := 1, ground := Ground.phase }, { on := 2, ground := Ground.phase }, { on := 3, ground := Ground.phase }, { on := 4, ground := Ground.phase }, { on := 5, ground := Ground.phase }, { on := 6, ground := Ground.phase }, { on := 7, ground := Ground.phase }, { on := 8, ground := Ground.phase }, { on := 9, ground := Ground.phase }, { on := 10, ground := Ground.phase }, { on := 11, ground := Ground.phase }, { on := 12, ground := Ground.phase }, { on := 13, ground := Ground.phase }, { on := 14, ground := Ground.phase }, { on := 15, ground := Ground.textOnly Departure.lateStores }, { on := 16, ground := Ground.phase }, { on := 17, ground := Ground.phase }, { on := 18, ground := Ground.phase }], guard := none }) rfl (fun K hK => ?_) AllReadyH.nil
                refine stepStoreR3 ?_ (.tmp 12) (.tmp 63) ?_ mm12_100 (.int .i64 x7.f) (.int .i64 x7.t) (.slice x7.a x7.L.length x7.c) ?_ ?_ (there3 qqn12b_100) ⟨rfl, rfl, rfl⟩ ?_
                · rfl
                · rfl
                · rfl
                · rfl
                have U100n := (((UU_100).setCell (p := ⟨mm12_100, 0, none⟩) ZZm12_100 (.int .i64 x7.f)).setCell (p := ⟨mm12_100, 1, none⟩) ZZm12_100 (.int .i64 x7.t)).setCell (p := ⟨mm12_100, 2, none⟩) ZZm12_100 (.slice x7.a x7.L.length x7.c)
                refine hK.out _ _ (PS.old U100n HPS.out) (fun _ => ?_)
                clear hK K
                try simp only [Act.put, puA, puB, puC]
                have UU_100 := U100n
            all_goals first
              | refine atA [true, true, true, true, true, true, true, true, true, true, true, true, true, true, true, true, true, true, true, true, false] ?_
                refine rdA [20] ?_
                refine AllReadyH.cons (o := { dst := some 13, op := Op.assign (Operand.tmp 64), type := 4, pos := "law.go:61", after := #[{ on := 15, ground := Ground.data }, { on := 19, ground := Ground.chain }, { on := 0, ground := Ground.phase }, { on := 1, ground := Ground.phase }, { on := 2, ground := Ground.phase }, { on := 3, ground := Ground.phase }, { on := 4, ground := Ground.phase }, { on := 5, ground := Ground.phase }, { on := 6, ground := Ground.phase }, { on := 7, ground := Ground.phase }, { on := 8, ground := Ground.phase }, { on := 9, ground := Ground.phase }, { on := 10, ground := Ground.phase }, { on := 11, ground := Ground.phase }, { on := 12, ground := Ground.phase }, { on := 13, ground := Ground.phase }, { on := 14, ground := Ground.phase }, { on := 15, ground := Ground.phase }, { on := 16, ground := Ground.phase }, { on := 17, ground := Ground.phase }, { on := 18, ground := Ground.phase }, { on := 19, ground := Ground.phase }], guard := none }) rfl (fun K hK => ?_) AllReadyH.nil
                go_simp
                refine hK.out _ _ (PS.old UU_100 HPS.out) (fun _ => ?_)
                clear hK K
                try simp only [Act.put, puA, puB, puC]
              | refine atA [true, true, true, true, true, true, true, true, true, true, true, true, true, true, true, true, true, true, true, true, false] ?_
                refine rdA [20] ?_
                refine AllReadyH.cons (o := { dst := some 13, op := Op.assign (Operand.tmp 64), type := 4, pos := "law.go:61", after := #[{ on := 15, ground := Ground.data }, { on := 19, ground := Ground.chain }, { on := 0, ground := Ground.phase }, { on := 1, ground := Ground.phase }, { on := 2, ground := Ground.phase }, { on := 3, ground := Ground.phase }, { on := 4, ground := Ground.phase }, { on := 5, ground := Ground.phase }, { on := 6, ground := Ground.phase }, { on := 7, ground := Ground.phase }, { on := 8, ground := Ground.phase }, { on := 9, ground := Ground.phase }, { on := 10, ground := Ground.phase }, { on := 11, ground := Ground.phase }, { on := 12, ground := Ground.phase }, { on := 13, ground := Ground.phase }, { on := 14, ground := Ground.phase }, { on := 15, ground := Ground.phase }, { on := 16, ground := Ground.phase }, { on := 17, ground := Ground.phase }, { on := 18, ground := Ground.phase }, { on := 19, ground := Ground.phase }], guard := none }) rfl (fun K hK => ?_) AllReadyH.nil
                go_simp
                refine hK.out _ _ (PS.old UU_100 HPS.out) (fun _ => ?_)
                clear hK K
                try simp only [Act.put, puA, puB, puC]
              | refine atA [true, true, true, true, true, true, true, true, true, true, true, true, true, true, true, true, true, true, true, true, false] ?_
                refine rdA [20] ?_
                refine AllReadyH.cons (o := { dst := some 13, op := Op.assign (Operand.tmp 64), type := 4, pos := "law.go:61", after := #[{ on := 15, ground := Ground.data }, { on := 19, ground := Ground.chain }, { on := 0, ground := Ground.phase }, { on := 1, ground := Ground.phase }, { on := 2, ground := Ground.phase }, { on := 3, ground := Ground.phase }, { on := 4, ground := Ground.phase }, { on := 5, ground := Ground.phase }, { on := 6, ground := Ground.phase }, { on := 7, ground := Ground.phase }, { on := 8, ground := Ground.phase }, { on := 9, ground := Ground.phase }, { on := 10, ground := Ground.phase }, { on := 11, ground := Ground.phase }, { on := 12, ground := Ground.phase }, { on := 13, ground := Ground.phase }, { on := 14, ground := Ground.phase }, { on := 15, ground := Ground.phase }, { on := 16, ground := Ground.phase }, { on := 17, ground := Ground.phase }, { on := 18, ground := Ground.phase }, { on := 19, ground := Ground.phase }], guard := none }) rfl (fun K hK => ?_) AllReadyH.nil
                go_simp
                refine hK.out _ _ (PS.old UU_100 HPS.out) (fun _ => ?_)
                clear hK K
                try simp only [Act.put, puA, puB, puC]
            all_goals first
              | refine atA [true, true, true, true, true, true, true, true, true, true, true, true, true, true, true, true, true, true, true, true, true] ?_
                refine wpAnyH_done (by kernel_rfl) ?_ _
                refine NoPanic.normal ?_
                have FF := hid (rfin (p := .int .i64 (most : Nat)) (q := .slice a7 Z.length c7) (x := .int .i64 x7.f) (y := .int .i64 x7.t) (z := .slice x7.a x7.L.length x7.c) hnn11_100 nnn12_100)
                have D7 := hid (show DocAt w (((((xw_100.setCell ⟨mm11_100, 0, none⟩ (.int .i64 (most : Nat))).setCell ⟨mm11_100, 1, none⟩ (.slice a7 Z.length c7)).setCell ⟨mm12_100, 0, none⟩ (.int .i64 x7.f)).setCell ⟨mm12_100, 1, none⟩ (.int .i64 x7.t)).setCell ⟨mm12_100, 2, none⟩ (.slice x7.a x7.L.length x7.c)) (.slice a7 Z.length c7) Z from DocAt.chg2 (B := 0) dzdz_100 FF.out.2.2 hnn11_100 nnn12_100 (fun g e => ⟨Nm11.out g e, Nm12.out g e⟩))
                have S7 := hid (show Sr w (((((xw_100.setCell ⟨mm11_100, 0, none⟩ (.int .i64 (most : Nat))).setCell ⟨mm11_100, 1, none⟩ (.slice a7 Z.length c7)).setCell ⟨mm12_100, 0, none⟩ (.int .i64 x7.f)).setCell ⟨mm12_100, 1, none⟩ (.int .i64 x7.t)).setCell ⟨mm12_100, 2, none⟩ (.slice x7.a x7.L.length x7.c)) x7.v x7.L from Sr.chg2 sxsx_100 FF.out.2.2 hnn11_100 nnn12_100)
                have F11 := hid (show (((((xw_100.setCell ⟨mm11_100, 0, none⟩ (.int .i64 (most : Nat))).setCell ⟨mm11_100, 1, none⟩ (.slice a7 Z.length c7)).setCell ⟨mm12_100, 0, none⟩ (.int .i64 x7.f)).setCell ⟨mm12_100, 1, none⟩ (.int .i64 x7.t)).setCell ⟨mm12_100, 2, none⟩ (.slice x7.a x7.L.length x7.c)).heap[mm11_100]? = some (.cells #[.int .i64 (most : Nat), .slice a7 Z.length c7] 46 (0, 0)) from FF.out.1)
                have F12 := hid (show (((((xw_100.setCell ⟨mm11_100, 0, none⟩ (.int .i64 (most : Nat))).setCell ⟨mm11_100, 1, none⟩ (.slice a7 Z.length c7)).setCell ⟨mm12_100, 0, none⟩ (.int .i64 x7.f)).setCell ⟨mm12_100, 1, none⟩ (.int .i64 x7.t)).setCell ⟨mm12_100, 2, none⟩ (.slice x7.a x7.L.length x7.c)).heap[mm12_100]? = some (.cells #[.int .i64 x7.f, .int .i64 x7.t, .slice x7.a x7.L.length x7.c] 48 (0, 0)) from FF.out.2.1)
                have UZ := hid (show Old w6 (((((xw_100.setCell ⟨mm11_100, 0, none⟩ (.int .i64 (most : Nat))).setCell ⟨mm11_100, 1, none⟩ (.slice a7 Z.length c7)).setCell ⟨mm12_100, 0, none⟩ (.int .i64 x7.f)).setCell ⟨mm12_100, 1, none⟩ (.int .i64 x7.t)).setCell ⟨mm12_100, 2, none⟩ (.slice x7.a x7.L.length x7.c)) from UU_100)
                clear FF Nm11 Nm12 hnn11_100 nnn12_100 qqn12b_100 dzdz_100 sxsx_100 UU_100
                generalize (((((xw_100.setCell ⟨mm11_100, 0, none⟩ (.int .i64 (most : Nat))).setCell ⟨mm11_100, 1, none⟩ (.slice a7 Z.length c7)).setCell ⟨mm12_100, 0, none⟩ (.int .i64 x7.f)).setCell ⟨mm12_100, 1, none⟩ (.int .i64 x7.t)).setCell ⟨mm12_100, 2, none⟩ (.slice x7.a x7.L.length x7.c)) = w7 at *
                generalize mm11_100 = b11 at *
                generalize mm12_100 = b12 at *
                have N7 := hid (N6.out.old UZ.out)
                have HBm7 := hid (UZ.out.block HBm6.out)
                have HB97 := hid (UZ.out.block HB9.out)
                have O7 := hid (O6.out.old UZ.out)
                clear N6 HBm6 HB9 O6 D6 HBo6 HPS HOf HDc UZ
                obtain ⟨xf7, xt7, xa7, xc7, xL7⟩ := x7
                obtain ⟨e1, e2, e3⟩ : xf7 = xf ∧ xt7 = xt ∧ xL7 = xL := by
                  have h := HX7.out
                  unfold Lt.p at h
                  simp only [Prod.mk.injEq] at h
                  exact h
                clear HX7
                subst e1 e2 e3
                dsimp only at S7 F12
                unfold Lt.v at S7
                dsimp only at S7
                obtain ⟨r0, r1, -, -⟩ := box2 F11.out
                obtain ⟨s0, s1, sf0, sf1⟩ := box2 HBm7.out
                go_upto_region 12 with (fail)
                have M8 := hid (PA.set (cs := #[]) (most := most) N7.out HBm7.out HNw.out D7.out HZ7.out)
                have ne12 : b12 ≠ bm := fun e => by have h1 := F12.out; rw [e, HBm7.out] at h1; simp at h1
                have ne9 : b9 ≠ bm := fun e => by have h1 := HB97.out; rw [e, HBm7.out] at h1; simp at h1
                have G12 := hid (set_other (v := .slice a7 Z.length c7) (i := 1) (set_other (v := .int .i64 (most : Nat)) (i := 0) F12.out ne12) ne12)
                have G9 := hid (set_other (v := .slice a7 Z.length c7) (i := 1) (set_other (v := .int .i64 (most : Nat)) (i := 0) HB97.out ne9) ne9)
                have O8 := hid (O7.out.chg (chg2 w7 bm (.int .i64 (most : Nat)) (.slice a7 Z.length c7)) (O7.out.offT HBm7.out (by decide)))
                have S8 := hid (S7.out.chgT (chg2 w7 bm (.int .i64 (most : Nat)) (.slice a7 Z.length c7)) HBm7.out)
                clear r0 r1 s0 s1 sf0 sf1 F11 F12 HBm7 HB97 O7 N7 S7 D7 ne12 ne9
                generalize (w7.setCell ⟨bm, 0, none⟩ (.int .i64 (most : Nat))).setCell ⟨bm, 1, none⟩ (.slice a7 Z.length c7) = w8 at *
                have HS8 := hid (show (fun wz => (wz.cell? ⟨b9, 0, none⟩ = some (.int .i64 xf7) ∧ wz.cell? ⟨b9, 1, none⟩ = some (.int .i64 xt7) ∧ wz.cell? ⟨b9, 2, none⟩ = some (.slice a5 xL7.length c5)) ∧ (wz.cell? ⟨b12, 0, none⟩ = some (.int .i64 xf7) ∧ wz.cell? ⟨b12, 1, none⟩ = some (.int .i64 xt7) ∧ wz.cell? ⟨b12, 2, none⟩ = some (.slice xa7 xL7.length xc7)) ∧ wz.cell? ⟨bm, 1, none⟩ = some (.slice a7 Z.length c7)) w8 from ⟨⟨(box3 G9.out).1, (box3 G9.out).2.1, (box3 G9.out).2.2.1⟩, ⟨(box3 G12.out).1, (box3 G12.out).2.1, (box3 G12.out).2.2.1⟩, (box2 M8.out.box).2.1⟩)
                dsimp only at HS8
                have HOf8 := hid (fun (W : World) (u : Old w8 W) => rof_any xf7 xt7 a5 xL7.length c5 W)
                have HSm8 := hid (fun (W : World) (u : Old w8 W) => rsame_any xf7 xt7 a5 xa7 c5 xc7 xL7 W ((O8.out.old u).row) ((S8.out.old u).row (M8.out.net.base.trans u)))
                have HLn8 := hid (show ∀ W, Old w8 W → Calls Try.prog 11 #[.pointer (some ⟨nb, 0, none⟩)] W fun e w' => e = .returned (.int .i64 (Z.length : Nat)) ∧ Old W w' from fun W u => (lenN w W nb most P5 [] (M8.out.net.old u)).mono fun e w' q => ⟨by rw [q.1, ← HZ7.out, List.length_map], by rw [q.2]; exact Old.refl _⟩)
                clear G12 G9 O8 S8
                cases b5
                case false =>
                  refine wp_region_noPanic ?_
                  refine wp_region_held_drew (S := fun wz => (wz.cell? ⟨b9, 0, none⟩ = some (.int .i64 xf7) ∧ wz.cell? ⟨b9, 1, none⟩ = some (.int .i64 xt7) ∧ wz.cell? ⟨b9, 2, none⟩ = some (.slice a5 xL7.length c5)) ∧ (wz.cell? ⟨b12, 0, none⟩ = some (.int .i64 xf7) ∧ wz.cell? ⟨b12, 1, none⟩ = some (.int .i64 xt7) ∧ wz.cell? ⟨b12, 2, none⟩ = some (.slice xa7 xL7.length xc7)) ∧ wz.cell? ⟨bm, 1, none⟩ = some (.slice a7 Z.length c7)) (by kernel_rfl) ?_ (fun hHeld => ?_)
                  · exact T7.old ((Old.refl _).drew) HS8.out
                  (try simp only [Act.put]); (try simp only [List.setIfInBounds_toArray]); (try simp only [List.set_cons_succ]); (try simp only [List.set_cons_zero])
                  clear hHeld
                  refine tkA (i := 0) (oi := { dst := some 66, op := Op.move (Operand.tmp 10), type := 4, pos := "law.go:63", after := #[], guard := none }) (T7.old ((Old.refl w8).drew) HS8.out) ?_
                  try simp only [Act.put, puA, puB, puC]
                  refine tkA (i := 1) (oi := { dst := some 67, op := Op.move (Operand.tmp 13), type := 4, pos := "law.go:63", after := #[], guard := none }) (T7.old ((Old.refl w8).drew) HS8.out) ?_
                  try simp only [Act.put, puA, puB, puC]
                  refine tkA (i := 2) (oi := { dst := some 68, op := Op.binOp BinOp.neq 4 (Operand.tmp 66) (Operand.tmp 67) 4, type := 4, pos := "law.go:63", after := #[{ on := 0, ground := Ground.data }, { on := 1, ground := Ground.data }], guard := none }) (T7.old ((Old.refl w8).drew) HS8.out) ?_
                  try simp only [Act.put, puA, puB, puC]
                  refine tkA (i := 3) (oi := { dst := some 69, op := Op.move (Operand.tmp 68), type := 4, pos := "law.go:63", after := #[{ on := 2, ground := Ground.data }], guard := none }) (T7.old ((Old.refl w8).drew) HS8.out) ?_
                  try simp only [Act.put, puA, puB, puC]
                  refine tkA (i := 4) (oi := { dst := some 70, op := Op.load 30 (Operand.tmp 9), type := 30, pos := "law.go:63", after := #[{ on := 3, ground := Ground.guard }], guard := some (3, false) }) (T7.old ((Old.refl w8).drew) HS8.out) ?_
                  try simp only [Act.put, puA, puB, puC]
                  refine tkA (i := 6) (oi := { dst := some 72, op := Op.load 48 (Operand.tmp 12), type := 48, pos := "law.go:63", after := #[{ on := 3, ground := Ground.guard }], guard := some (3, false) }) (T7.old ((Old.refl w8).drew) HS8.out) ?_
                  try simp only [Act.put, puA, puB, puC]
                  refine wpAnyH_ready (rs := [5]) (by kernel_rfl) (by simp) ?_
                  refine AllReadyH.cons (o := { dst := some 71, op := Op.call { callee := Callee.value (Operand.func 17), args := #[Operand.tmp 70], argTypes := #[30] }, type := 48, pos := "law.go:63", after := #[{ on := 4, ground := Ground.data }, { on := 3, ground := Ground.chain }, { on := 3, ground := Ground.guard }], guard := some (3, false) }) rfl (fun K hK => ?_) AllReadyH.nil
                  refine wantCall1 ?_ 17 (.tmp 70) #[30] ?_ (.agg #[.int .i64 xf7, .int .i64 xt7, .slice a5 xL7.length c5]) ?_ ?_ ((enters_of Try.func17 (by kernel_rfl) rfl) _ _) ?_
                  · rfl
                  · rfl
                  · rfl
                  · rfl
                  refine (HOf8.out _ ((Old.refl w8).drew)).mono ?_
                  rintro o x7 ⟨rfl, b7⟩
                  refine ⟨_, rfl, ?_⟩
                  have U7 := ((Old.refl w8).drew).trans b7
                  refine hK.out _ _ (T7.old U7 HS8.out) (fun _ => ?_)
                  clear hK K
                  (try simp only [Act.put]); (try simp only [List.setIfInBounds_toArray]); (try simp only [List.set_cons_succ]); (try simp only [List.set_cons_zero])
                  refine wpAnyH_ready (rs := [7]) (by kernel_rfl) (by simp) ?_
                  refine AllReadyH.cons (o := { dst := some 73, op := Op.call { callee := Callee.value (Operand.func 18), args := #[Operand.tmp 71, Operand.tmp 72], argTypes := #[48, 48] }, type := 4, pos := "law.go:63", after := #[{ on := 5, ground := Ground.data }, { on := 6, ground := Ground.data }, { on := 5, ground := Ground.chain }, { on := 3, ground := Ground.guard }], guard := some (3, false) }) rfl (fun K hK => ?_) AllReadyH.nil
                  refine wantCall2 ?_ 18 (.tmp 71) (.tmp 72) #[48, 48] ?_ (.agg #[.int .i64 xf7, .int .i64 xt7, .slice a5 xL7.length c5]) (.agg #[.int .i64 xf7, .int .i64 xt7, .slice xa7 xL7.length xc7]) ?_ ?_ ?_ ((enters_of Try.func18 (by kernel_rfl) rfl) _ _) ?_
                  · rfl
                  · rfl
                  · rfl
                  · rfl
                  · rfl
                  refine (HSm8.out _ U7).mono ?_
                  rintro o x8 ⟨rfl, b8⟩
                  refine ⟨_, rfl, ?_⟩
                  have U8 := U7.trans b8
                  refine hK.out _ _ (T7.old U8 HS8.out) (fun _ => ?_)
                  clear hK K
                  (try simp only [Act.put]); (try simp only [List.setIfInBounds_toArray]); (try simp only [List.set_cons_succ]); (try simp only [List.set_cons_zero])
                  refine tkA (i := 8) (oi := { dst := some 74, op := Op.unOp UnOp.not 4 (Operand.tmp 73), type := 4, pos := "law.go:63", after := #[{ on := 7, ground := Ground.data }, { on := 3, ground := Ground.guard }], guard := some (3, false) }) (T7.old U8 HS8.out) ?_
                  try simp only [Act.put, puA, puB, puC]
                  refine tkA (i := 9) (oi := { dst := some 75, op := Op.pick (Operand.tmp 69) (Operand.const (Value.bool true)) (Operand.tmp 74), type := 4, pos := "law.go:63", after := #[{ on := 3, ground := Ground.data }, { on := 8, ground := Ground.data }], guard := none }) (T7.old U8 HS8.out) ?_
                  try simp only [Act.put, puA, puB, puC]
                  refine tkA (i := 10) (oi := { dst := some 76, op := Op.move (Operand.tmp 75), type := 4, pos := "law.go:63", after := #[{ on := 9, ground := Ground.data }, { on := 7, ground := Ground.chain }], guard := none }) (T7.old U8 HS8.out) ?_
                  try simp only [Act.put, puA, puB, puC]
                  refine tkA (i := 11) (oi := { dst := some 77, op := Op.move (Operand.tmp 5), type := 23, pos := "law.go:63", after := #[{ on := 10, ground := Ground.guard }], guard := some (10, false) }) (T7.old U8 HS8.out) ?_
                  try simp only [Act.put, puA, puB, puC]
                  refine tkA (i := 13) (oi := { dst := some 79, op := Op.fieldAddr 46 (Operand.tmp 6) 1, type := 0, pos := "law.go:63", after := #[{ on := 10, ground := Ground.guard }], guard := some (10, false) }) (T7.old U8 HS8.out) ?_
                  try simp only [Act.put, puA, puB, puC]
                  refine tkA (i := 14) (oi := { dst := some 80, op := Op.load 44 (Operand.tmp 79), type := 44, pos := "law.go:63", after := #[{ on := 13, ground := Ground.data }, { on := 10, ground := Ground.guard }], guard := some (10, false) }) (T7.old U8 HS8.out) ?_
                  try simp only [Act.put, puA, puB, puC]
                  refine tkA (i := 15) (oi := { dst := some 81, op := Op.call { callee := Callee.builtin Builtin.len, args := #[Operand.tmp 80], argTypes := #[44] }, type := 3, pos := "law.go:63", after := #[{ on := 14, ground := Ground.data }, { on := 10, ground := Ground.guard }], guard := some (10, false) }) (T7.old U8 HS8.out) ?_
                  try simp only [Act.put, puA, puB, puC]
                  refine wpAnyH_ready (rs := [12]) (by kernel_rfl) (by simp) ?_
                  refine AllReadyH.cons (o := { dst := some 78, op := Op.call { callee := Callee.value (Operand.func 11), args := #[Operand.tmp 77], argTypes := #[23] }, type := 3, pos := "law.go:63", after := #[{ on := 11, ground := Ground.data }, { on := 10, ground := Ground.chain }, { on := 10, ground := Ground.guard }], guard := some (10, false) }) rfl (fun K hK => ?_) AllReadyH.nil
                  refine wantCall1 ?_ 11 (.tmp 77) #[23] ?_ (.pointer (some ⟨nb, 0, none⟩)) ?_ ?_ ((enters_of Try.func11 (by kernel_rfl) rfl) _ _) ?_
                  · rfl
                  · rfl
                  · rfl
                  · rfl
                  refine (HLn8.out _ U8).mono ?_
                  rintro o x16 ⟨rfl, b16⟩
                  refine ⟨_, rfl, ?_⟩
                  have U16 := U8.trans b16
                  refine hK.out _ _ (T7.old U16 HS8.out) (fun _ => ?_)
                  clear hK K
                  (try simp only [Act.put]); (try simp only [List.setIfInBounds_toArray]); (try simp only [List.set_cons_succ]); (try simp only [List.set_cons_zero])
                  refine tkA (i := 16) (oi := { dst := some 82, op := Op.binOp BinOp.neq 3 (Operand.tmp 78) (Operand.tmp 81) 3, type := 4, pos := "law.go:63", after := #[{ on := 12, ground := Ground.data }, { on := 15, ground := Ground.data }, { on := 10, ground := Ground.guard }], guard := some (10, false) }) (T7.old U16 HS8.out) ?_
                  try simp only [Act.put, puA, puB, puC]
                  refine tkA (i := 17) (oi := { dst := some 83, op := Op.pick (Operand.tmp 76) (Operand.const (Value.bool true)) (Operand.tmp 82), type := 4, pos := "law.go:63", after := #[{ on := 10, ground := Ground.data }, { on := 16, ground := Ground.data }], guard := none }) (T7.old U16 HS8.out) ?_
                  try simp only [Act.put, puA, puB, puC]
                  refine wpAnyH_done (by kernel_rfl) ?_ _
                  refine NoPanic.normal ?_
                  have UY := hid U16
                  go_wp2
                  go_roundw
                  case rel => exact ⟨i + 1, a7, c7, Z, P5, hlt, by go_num, M8.out.old UY.out⟩
                  case measure => simp [intOf]; omega
                case true =>
                  refine wp_region_noPanic ?_
                  refine wp_region_held_drew (S := fun wz => (wz.cell? ⟨b9, 0, none⟩ = some (.int .i64 xf7) ∧ wz.cell? ⟨b9, 1, none⟩ = some (.int .i64 xt7) ∧ wz.cell? ⟨b9, 2, none⟩ = some (.slice a5 xL7.length c5)) ∧ (wz.cell? ⟨b12, 0, none⟩ = some (.int .i64 xf7) ∧ wz.cell? ⟨b12, 1, none⟩ = some (.int .i64 xt7) ∧ wz.cell? ⟨b12, 2, none⟩ = some (.slice xa7 xL7.length xc7)) ∧ wz.cell? ⟨bm, 1, none⟩ = some (.slice a7 Z.length c7)) (by kernel_rfl) ?_ (fun hHeld => ?_)
                  · exact T7.old ((Old.refl _).drew) HS8.out
                  (try simp only [Act.put]); (try simp only [List.setIfInBounds_toArray]); (try simp only [List.set_cons_succ]); (try simp only [List.set_cons_zero])
                  clear hHeld
                  refine tkA (i := 0) (oi := { dst := some 66, op := Op.move (Operand.tmp 10), type := 4, pos := "law.go:63", after := #[], guard := none }) (T7.old ((Old.refl w8).drew) HS8.out) ?_
                  try simp only [Act.put, puA, puB, puC]
                  refine tkA (i := 1) (oi := { dst := some 67, op := Op.move (Operand.tmp 13), type := 4, pos := "law.go:63", after := #[], guard := none }) (T7.old ((Old.refl w8).drew) HS8.out) ?_
                  try simp only [Act.put, puA, puB, puC]
                  refine tkA (i := 2) (oi := { dst := some 68, op := Op.binOp BinOp.neq 4 (Operand.tmp 66) (Operand.tmp 67) 4, type := 4, pos := "law.go:63", after := #[{ on := 0, ground := Ground.data }, { on := 1, ground := Ground.data }], guard := none }) (T7.old ((Old.refl w8).drew) HS8.out) ?_
                  try simp only [Act.put, puA, puB, puC]
                  refine tkA (i := 3) (oi := { dst := some 69, op := Op.move (Operand.tmp 68), type := 4, pos := "law.go:63", after := #[{ on := 2, ground := Ground.data }], guard := none }) (T7.old ((Old.refl w8).drew) HS8.out) ?_
                  try simp only [Act.put, puA, puB, puC]
                  refine tkA (i := 4) (oi := { dst := some 70, op := Op.load 30 (Operand.tmp 9), type := 30, pos := "law.go:63", after := #[{ on := 3, ground := Ground.guard }], guard := some (3, false) }) (T7.old ((Old.refl w8).drew) HS8.out) ?_
                  try simp only [Act.put, puA, puB, puC]
                  refine tkA (i := 6) (oi := { dst := some 72, op := Op.load 48 (Operand.tmp 12), type := 48, pos := "law.go:63", after := #[{ on := 3, ground := Ground.guard }], guard := some (3, false) }) (T7.old ((Old.refl w8).drew) HS8.out) ?_
                  try simp only [Act.put, puA, puB, puC]
                  refine wpAnyH_ready (rs := [5]) (by kernel_rfl) (by simp) ?_
                  refine AllReadyH.cons (o := { dst := some 71, op := Op.call { callee := Callee.value (Operand.func 17), args := #[Operand.tmp 70], argTypes := #[30] }, type := 48, pos := "law.go:63", after := #[{ on := 4, ground := Ground.data }, { on := 3, ground := Ground.chain }, { on := 3, ground := Ground.guard }], guard := some (3, false) }) rfl (fun K hK => ?_) AllReadyH.nil
                  refine wantCall1 ?_ 17 (.tmp 70) #[30] ?_ (.agg #[.int .i64 xf7, .int .i64 xt7, .slice a5 xL7.length c5]) ?_ ?_ ((enters_of Try.func17 (by kernel_rfl) rfl) _ _) ?_
                  · rfl
                  · rfl
                  · rfl
                  · rfl
                  refine (HOf8.out _ ((Old.refl w8).drew)).mono ?_
                  rintro o x25 ⟨rfl, b25⟩
                  refine ⟨_, rfl, ?_⟩
                  have U25 := ((Old.refl w8).drew).trans b25
                  refine hK.out _ _ (T7.old U25 HS8.out) (fun _ => ?_)
                  clear hK K
                  (try simp only [Act.put]); (try simp only [List.setIfInBounds_toArray]); (try simp only [List.set_cons_succ]); (try simp only [List.set_cons_zero])
                  refine wpAnyH_ready (rs := [7]) (by kernel_rfl) (by simp) ?_
                  refine AllReadyH.cons (o := { dst := some 73, op := Op.call { callee := Callee.value (Operand.func 18), args := #[Operand.tmp 71, Operand.tmp 72], argTypes := #[48, 48] }, type := 4, pos := "law.go:63", after := #[{ on := 5, ground := Ground.data }, { on := 6, ground := Ground.data }, { on := 5, ground := Ground.chain }, { on := 3, ground := Ground.guard }], guard := some (3, false) }) rfl (fun K hK => ?_) AllReadyH.nil
                  refine wantCall2 ?_ 18 (.tmp 71) (.tmp 72) #[48, 48] ?_ (.agg #[.int .i64 xf7, .int .i64 xt7, .slice a5 xL7.length c5]) (.agg #[.int .i64 xf7, .int .i64 xt7, .slice xa7 xL7.length xc7]) ?_ ?_ ?_ ((enters_of Try.func18 (by kernel_rfl) rfl) _ _) ?_
                  · rfl
                  · rfl
                  · rfl
                  · rfl
                  · rfl
                  refine (HSm8.out _ U25).mono ?_
                  rintro o x26 ⟨rfl, b26⟩
                  refine ⟨_, rfl, ?_⟩
                  have U26 := U25.trans b26
                  refine hK.out _ _ (T7.old U26 HS8.out) (fun _ => ?_)
                  clear hK K
                  (try simp only [Act.put]); (try simp only [List.setIfInBounds_toArray]); (try simp only [List.set_cons_succ]); (try simp only [List.set_cons_zero])
                  refine tkA (i := 8) (oi := { dst := some 74, op := Op.unOp UnOp.not 4 (Operand.tmp 73), type := 4, pos := "law.go:63", after := #[{ on := 7, ground := Ground.data }, { on := 3, ground := Ground.guard }], guard := some (3, false) }) (T7.old U26 HS8.out) ?_
                  try simp only [Act.put, puA, puB, puC]
                  refine tkA (i := 9) (oi := { dst := some 75, op := Op.pick (Operand.tmp 69) (Operand.const (Value.bool true)) (Operand.tmp 74), type := 4, pos := "law.go:63", after := #[{ on := 3, ground := Ground.data }, { on := 8, ground := Ground.data }], guard := none }) (T7.old U26 HS8.out) ?_
                  try simp only [Act.put, puA, puB, puC]
                  refine tkA (i := 10) (oi := { dst := some 76, op := Op.move (Operand.tmp 75), type := 4, pos := "law.go:63", after := #[{ on := 9, ground := Ground.data }, { on := 7, ground := Ground.chain }], guard := none }) (T7.old U26 HS8.out) ?_
                  try simp only [Act.put, puA, puB, puC]
                  refine tkA (i := 11) (oi := { dst := some 77, op := Op.move (Operand.tmp 5), type := 23, pos := "law.go:63", after := #[{ on := 10, ground := Ground.guard }], guard := some (10, false) }) (T7.old U26 HS8.out) ?_
                  try simp only [Act.put, puA, puB, puC]
                  refine tkA (i := 13) (oi := { dst := some 79, op := Op.fieldAddr 46 (Operand.tmp 6) 1, type := 0, pos := "law.go:63", after := #[{ on := 10, ground := Ground.guard }], guard := some (10, false) }) (T7.old U26 HS8.out) ?_
                  try simp only [Act.put, puA, puB, puC]
                  refine tkA (i := 14) (oi := { dst := some 80, op := Op.load 44 (Operand.tmp 79), type := 44, pos := "law.go:63", after := #[{ on := 13, ground := Ground.data }, { on := 10, ground := Ground.guard }], guard := some (10, false) }) (T7.old U26 HS8.out) ?_
                  try simp only [Act.put, puA, puB, puC]
                  refine tkA (i := 15) (oi := { dst := some 81, op := Op.call { callee := Callee.builtin Builtin.len, args := #[Operand.tmp 80], argTypes := #[44] }, type := 3, pos := "law.go:63", after := #[{ on := 14, ground := Ground.data }, { on := 10, ground := Ground.guard }], guard := some (10, false) }) (T7.old U26 HS8.out) ?_
                  try simp only [Act.put, puA, puB, puC]
                  refine wpAnyH_ready (rs := [12]) (by kernel_rfl) (by simp) ?_
                  refine AllReadyH.cons (o := { dst := some 78, op := Op.call { callee := Callee.value (Operand.func 11), args := #[Operand.tmp 77], argTypes := #[23] }, type := 3, pos := "law.go:63", after := #[{ on := 11, ground := Ground.data }, { on := 10, ground := Ground.chain }, { on := 10, ground := Ground.guard }], guard := some (10, false) }) rfl (fun K hK => ?_) AllReadyH.nil
                  refine wantCall1 ?_ 11 (.tmp 77) #[23] ?_ (.pointer (some ⟨nb, 0, none⟩)) ?_ ?_ ((enters_of Try.func11 (by kernel_rfl) rfl) _ _) ?_
                  · rfl
                  · rfl
                  · rfl
                  · rfl
                  refine (HLn8.out _ U26).mono ?_
                  rintro o x34 ⟨rfl, b34⟩
                  refine ⟨_, rfl, ?_⟩
                  have U34 := U26.trans b34
                  refine hK.out _ _ (T7.old U34 HS8.out) (fun _ => ?_)
                  clear hK K
                  (try simp only [Act.put]); (try simp only [List.setIfInBounds_toArray]); (try simp only [List.set_cons_succ]); (try simp only [List.set_cons_zero])
                  refine tkA (i := 16) (oi := { dst := some 82, op := Op.binOp BinOp.neq 3 (Operand.tmp 78) (Operand.tmp 81) 3, type := 4, pos := "law.go:63", after := #[{ on := 12, ground := Ground.data }, { on := 15, ground := Ground.data }, { on := 10, ground := Ground.guard }], guard := some (10, false) }) (T7.old U34 HS8.out) ?_
                  try simp only [Act.put, puA, puB, puC]
                  refine tkA (i := 17) (oi := { dst := some 83, op := Op.pick (Operand.tmp 76) (Operand.const (Value.bool true)) (Operand.tmp 82), type := 4, pos := "law.go:63", after := #[{ on := 10, ground := Ground.data }, { on := 16, ground := Ground.data }], guard := none }) (T7.old U34 HS8.out) ?_
                  try simp only [Act.put, puA, puB, puC]
                  refine wpAnyH_done (by kernel_rfl) ?_ _
                  refine NoPanic.normal ?_
                  have UY := hid U34
                  go_wp2
                  go_roundw
                  case rel => exact ⟨i + 1, a7, c7, Z, P5, hlt, by go_num, M8.out.old UY.out⟩
                  case measure => simp [intOf]; omega
              | refine atA [true, true, true, true, true, true, true, true, true, true, true, true, true, true, true, true, true, true, true, true, true] ?_
                refine wpAnyH_done (by kernel_rfl) ?_ _
                refine NoPanic.normal ?_
                have FF := hid (rfin (p := .int .i64 (most : Nat)) (q := .slice a7 Z.length c7) (x := .int .i64 x7.f) (y := .int .i64 x7.t) (z := .slice x7.a x7.L.length x7.c) nnn11_100 hnn12_100)
                have D7 := hid (show DocAt w (((((xw_100.setCell ⟨mm11_100, 0, none⟩ (.int .i64 (most : Nat))).setCell ⟨mm11_100, 1, none⟩ (.slice a7 Z.length c7)).setCell ⟨mm12_100, 0, none⟩ (.int .i64 x7.f)).setCell ⟨mm12_100, 1, none⟩ (.int .i64 x7.t)).setCell ⟨mm12_100, 2, none⟩ (.slice x7.a x7.L.length x7.c)) (.slice a7 Z.length c7) Z from DocAt.chg2 (B := 0) dzdz_100 FF.out.2.2 nnn11_100 hnn12_100 (fun g e => ⟨Nm11.out g e, Nm12.out g e⟩))
                have S7 := hid (show Sr w (((((xw_100.setCell ⟨mm11_100, 0, none⟩ (.int .i64 (most : Nat))).setCell ⟨mm11_100, 1, none⟩ (.slice a7 Z.length c7)).setCell ⟨mm12_100, 0, none⟩ (.int .i64 x7.f)).setCell ⟨mm12_100, 1, none⟩ (.int .i64 x7.t)).setCell ⟨mm12_100, 2, none⟩ (.slice x7.a x7.L.length x7.c)) x7.v x7.L from Sr.chg2 sxsx_100 FF.out.2.2 nnn11_100 hnn12_100)
                have F11 := hid (show (((((xw_100.setCell ⟨mm11_100, 0, none⟩ (.int .i64 (most : Nat))).setCell ⟨mm11_100, 1, none⟩ (.slice a7 Z.length c7)).setCell ⟨mm12_100, 0, none⟩ (.int .i64 x7.f)).setCell ⟨mm12_100, 1, none⟩ (.int .i64 x7.t)).setCell ⟨mm12_100, 2, none⟩ (.slice x7.a x7.L.length x7.c)).heap[mm11_100]? = some (.cells #[.int .i64 (most : Nat), .slice a7 Z.length c7] 46 (0, 0)) from FF.out.1)
                have F12 := hid (show (((((xw_100.setCell ⟨mm11_100, 0, none⟩ (.int .i64 (most : Nat))).setCell ⟨mm11_100, 1, none⟩ (.slice a7 Z.length c7)).setCell ⟨mm12_100, 0, none⟩ (.int .i64 x7.f)).setCell ⟨mm12_100, 1, none⟩ (.int .i64 x7.t)).setCell ⟨mm12_100, 2, none⟩ (.slice x7.a x7.L.length x7.c)).heap[mm12_100]? = some (.cells #[.int .i64 x7.f, .int .i64 x7.t, .slice x7.a x7.L.length x7.c] 48 (0, 0)) from FF.out.2.1)
                have UZ := hid (show Old w6 (((((xw_100.setCell ⟨mm11_100, 0, none⟩ (.int .i64 (most : Nat))).setCell ⟨mm11_100, 1, none⟩ (.slice a7 Z.length c7)).setCell ⟨mm12_100, 0, none⟩ (.int .i64 x7.f)).setCell ⟨mm12_100, 1, none⟩ (.int .i64 x7.t)).setCell ⟨mm12_100, 2, none⟩ (.slice x7.a x7.L.length x7.c)) from UU_100)
                clear FF Nm11 Nm12 nnn11_100 hnn12_100 qqn12b_100 dzdz_100 sxsx_100 UU_100
                generalize (((((xw_100.setCell ⟨mm11_100, 0, none⟩ (.int .i64 (most : Nat))).setCell ⟨mm11_100, 1, none⟩ (.slice a7 Z.length c7)).setCell ⟨mm12_100, 0, none⟩ (.int .i64 x7.f)).setCell ⟨mm12_100, 1, none⟩ (.int .i64 x7.t)).setCell ⟨mm12_100, 2, none⟩ (.slice x7.a x7.L.length x7.c)) = w7 at *
                generalize mm11_100 = b11 at *
                generalize mm12_100 = b12 at *
                have N7 := hid (N6.out.old UZ.out)
                have HBm7 := hid (UZ.out.block HBm6.out)
                have HB97 := hid (UZ.out.block HB9.out)
                have O7 := hid (O6.out.old UZ.out)
                clear N6 HBm6 HB9 O6 D6 HBo6 HPS HOf HDc UZ
                obtain ⟨xf7, xt7, xa7, xc7, xL7⟩ := x7
                obtain ⟨e1, e2, e3⟩ : xf7 = xf ∧ xt7 = xt ∧ xL7 = xL := by
                  have h := HX7.out
                  unfold Lt.p at h
                  simp only [Prod.mk.injEq] at h
                  exact h
                clear HX7
                subst e1 e2 e3
                dsimp only at S7 F12
                unfold Lt.v at S7
                dsimp only at S7
                obtain ⟨r0, r1, -, -⟩ := box2 F11.out
                obtain ⟨s0, s1, sf0, sf1⟩ := box2 HBm7.out
                go_upto_region 12 with (fail)
                have M8 := hid (PA.set (cs := #[]) (most := most) N7.out HBm7.out HNw.out D7.out HZ7.out)
                have ne12 : b12 ≠ bm := fun e => by have h1 := F12.out; rw [e, HBm7.out] at h1; simp at h1
                have ne9 : b9 ≠ bm := fun e => by have h1 := HB97.out; rw [e, HBm7.out] at h1; simp at h1
                have G12 := hid (set_other (v := .slice a7 Z.length c7) (i := 1) (set_other (v := .int .i64 (most : Nat)) (i := 0) F12.out ne12) ne12)
                have G9 := hid (set_other (v := .slice a7 Z.length c7) (i := 1) (set_other (v := .int .i64 (most : Nat)) (i := 0) HB97.out ne9) ne9)
                have O8 := hid (O7.out.chg (chg2 w7 bm (.int .i64 (most : Nat)) (.slice a7 Z.length c7)) (O7.out.offT HBm7.out (by decide)))
                have S8 := hid (S7.out.chgT (chg2 w7 bm (.int .i64 (most : Nat)) (.slice a7 Z.length c7)) HBm7.out)
                clear r0 r1 s0 s1 sf0 sf1 F11 F12 HBm7 HB97 O7 N7 S7 D7 ne12 ne9
                generalize (w7.setCell ⟨bm, 0, none⟩ (.int .i64 (most : Nat))).setCell ⟨bm, 1, none⟩ (.slice a7 Z.length c7) = w8 at *
                have HS8 := hid (show (fun wz => (wz.cell? ⟨b9, 0, none⟩ = some (.int .i64 xf7) ∧ wz.cell? ⟨b9, 1, none⟩ = some (.int .i64 xt7) ∧ wz.cell? ⟨b9, 2, none⟩ = some (.slice a5 xL7.length c5)) ∧ (wz.cell? ⟨b12, 0, none⟩ = some (.int .i64 xf7) ∧ wz.cell? ⟨b12, 1, none⟩ = some (.int .i64 xt7) ∧ wz.cell? ⟨b12, 2, none⟩ = some (.slice xa7 xL7.length xc7)) ∧ wz.cell? ⟨bm, 1, none⟩ = some (.slice a7 Z.length c7)) w8 from ⟨⟨(box3 G9.out).1, (box3 G9.out).2.1, (box3 G9.out).2.2.1⟩, ⟨(box3 G12.out).1, (box3 G12.out).2.1, (box3 G12.out).2.2.1⟩, (box2 M8.out.box).2.1⟩)
                dsimp only at HS8
                have HOf8 := hid (fun (W : World) (u : Old w8 W) => rof_any xf7 xt7 a5 xL7.length c5 W)
                have HSm8 := hid (fun (W : World) (u : Old w8 W) => rsame_any xf7 xt7 a5 xa7 c5 xc7 xL7 W ((O8.out.old u).row) ((S8.out.old u).row (M8.out.net.base.trans u)))
                have HLn8 := hid (show ∀ W, Old w8 W → Calls Try.prog 11 #[.pointer (some ⟨nb, 0, none⟩)] W fun e w' => e = .returned (.int .i64 (Z.length : Nat)) ∧ Old W w' from fun W u => (lenN w W nb most P5 [] (M8.out.net.old u)).mono fun e w' q => ⟨by rw [q.1, ← HZ7.out, List.length_map], by rw [q.2]; exact Old.refl _⟩)
                clear G12 G9 O8 S8
                cases b5
                case false =>
                  refine wp_region_noPanic ?_
                  refine wp_region_held_drew (S := fun wz => (wz.cell? ⟨b9, 0, none⟩ = some (.int .i64 xf7) ∧ wz.cell? ⟨b9, 1, none⟩ = some (.int .i64 xt7) ∧ wz.cell? ⟨b9, 2, none⟩ = some (.slice a5 xL7.length c5)) ∧ (wz.cell? ⟨b12, 0, none⟩ = some (.int .i64 xf7) ∧ wz.cell? ⟨b12, 1, none⟩ = some (.int .i64 xt7) ∧ wz.cell? ⟨b12, 2, none⟩ = some (.slice xa7 xL7.length xc7)) ∧ wz.cell? ⟨bm, 1, none⟩ = some (.slice a7 Z.length c7)) (by kernel_rfl) ?_ (fun hHeld => ?_)
                  · exact T7.old ((Old.refl _).drew) HS8.out
                  (try simp only [Act.put]); (try simp only [List.setIfInBounds_toArray]); (try simp only [List.set_cons_succ]); (try simp only [List.set_cons_zero])
                  clear hHeld
                  refine tkA (i := 0) (oi := { dst := some 66, op := Op.move (Operand.tmp 10), type := 4, pos := "law.go:63", after := #[], guard := none }) (T7.old ((Old.refl w8).drew) HS8.out) ?_
                  try simp only [Act.put, puA, puB, puC]
                  refine tkA (i := 1) (oi := { dst := some 67, op := Op.move (Operand.tmp 13), type := 4, pos := "law.go:63", after := #[], guard := none }) (T7.old ((Old.refl w8).drew) HS8.out) ?_
                  try simp only [Act.put, puA, puB, puC]
                  refine tkA (i := 2) (oi := { dst := some 68, op := Op.binOp BinOp.neq 4 (Operand.tmp 66) (Operand.tmp 67) 4, type := 4, pos := "law.go:63", after := #[{ on := 0, ground := Ground.data }, { on := 1, ground := Ground.data }], guard := none }) (T7.old ((Old.refl w8).drew) HS8.out) ?_
                  try simp only [Act.put, puA, puB, puC]
                  refine tkA (i := 3) (oi := { dst := some 69, op := Op.move (Operand.tmp 68), type := 4, pos := "law.go:63", after := #[{ on := 2, ground := Ground.data }], guard := none }) (T7.old ((Old.refl w8).drew) HS8.out) ?_
                  try simp only [Act.put, puA, puB, puC]
                  refine tkA (i := 4) (oi := { dst := some 70, op := Op.load 30 (Operand.tmp 9), type := 30, pos := "law.go:63", after := #[{ on := 3, ground := Ground.guard }], guard := some (3, false) }) (T7.old ((Old.refl w8).drew) HS8.out) ?_
                  try simp only [Act.put, puA, puB, puC]
                  refine tkA (i := 6) (oi := { dst := some 72, op := Op.load 48 (Operand.tmp 12), type := 48, pos := "law.go:63", after := #[{ on := 3, ground := Ground.guard }], guard := some (3, false) }) (T7.old ((Old.refl w8).drew) HS8.out) ?_
                  try simp only [Act.put, puA, puB, puC]
                  refine wpAnyH_ready (rs := [5]) (by kernel_rfl) (by simp) ?_
                  refine AllReadyH.cons (o := { dst := some 71, op := Op.call { callee := Callee.value (Operand.func 17), args := #[Operand.tmp 70], argTypes := #[30] }, type := 48, pos := "law.go:63", after := #[{ on := 4, ground := Ground.data }, { on := 3, ground := Ground.chain }, { on := 3, ground := Ground.guard }], guard := some (3, false) }) rfl (fun K hK => ?_) AllReadyH.nil
                  refine wantCall1 ?_ 17 (.tmp 70) #[30] ?_ (.agg #[.int .i64 xf7, .int .i64 xt7, .slice a5 xL7.length c5]) ?_ ?_ ((enters_of Try.func17 (by kernel_rfl) rfl) _ _) ?_
                  · rfl
                  · rfl
                  · rfl
                  · rfl
                  refine (HOf8.out _ ((Old.refl w8).drew)).mono ?_
                  rintro o x43 ⟨rfl, b43⟩
                  refine ⟨_, rfl, ?_⟩
                  have U43 := ((Old.refl w8).drew).trans b43
                  refine hK.out _ _ (T7.old U43 HS8.out) (fun _ => ?_)
                  clear hK K
                  (try simp only [Act.put]); (try simp only [List.setIfInBounds_toArray]); (try simp only [List.set_cons_succ]); (try simp only [List.set_cons_zero])
                  refine wpAnyH_ready (rs := [7]) (by kernel_rfl) (by simp) ?_
                  refine AllReadyH.cons (o := { dst := some 73, op := Op.call { callee := Callee.value (Operand.func 18), args := #[Operand.tmp 71, Operand.tmp 72], argTypes := #[48, 48] }, type := 4, pos := "law.go:63", after := #[{ on := 5, ground := Ground.data }, { on := 6, ground := Ground.data }, { on := 5, ground := Ground.chain }, { on := 3, ground := Ground.guard }], guard := some (3, false) }) rfl (fun K hK => ?_) AllReadyH.nil
                  refine wantCall2 ?_ 18 (.tmp 71) (.tmp 72) #[48, 48] ?_ (.agg #[.int .i64 xf7, .int .i64 xt7, .slice a5 xL7.length c5]) (.agg #[.int .i64 xf7, .int .i64 xt7, .slice xa7 xL7.length xc7]) ?_ ?_ ?_ ((enters_of Try.func18 (by kernel_rfl) rfl) _ _) ?_
                  · rfl
                  · rfl
                  · rfl
                  · rfl
                  · rfl
                  refine (HSm8.out _ U43).mono ?_
                  rintro o x44 ⟨rfl, b44⟩
                  refine ⟨_, rfl, ?_⟩
                  have U44 := U43.trans b44
                  refine hK.out _ _ (T7.old U44 HS8.out) (fun _ => ?_)
                  clear hK K
                  (try simp only [Act.put]); (try simp only [List.setIfInBounds_toArray]); (try simp only [List.set_cons_succ]); (try simp only [List.set_cons_zero])
                  refine tkA (i := 8) (oi := { dst := some 74, op := Op.unOp UnOp.not 4 (Operand.tmp 73), type := 4, pos := "law.go:63", after := #[{ on := 7, ground := Ground.data }, { on := 3, ground := Ground.guard }], guard := some (3, false) }) (T7.old U44 HS8.out) ?_
                  try simp only [Act.put, puA, puB, puC]
                  refine tkA (i := 9) (oi := { dst := some 75, op := Op.pick (Operand.tmp 69) (Operand.const (Value.bool true)) (Operand.tmp 74), type := 4, pos := "law.go:63", after := #[{ on := 3, ground := Ground.data }, { on := 8, ground := Ground.data }], guard := none }) (T7.old U44 HS8.out) ?_
                  try simp only [Act.put, puA, puB, puC]
                  refine tkA (i := 10) (oi := { dst := some 76, op := Op.move (Operand.tmp 75), type := 4, pos := "law.go:63", after := #[{ on := 9, ground := Ground.data }, { on := 7, ground := Ground.chain }], guard := none }) (T7.old U44 HS8.out) ?_
                  try simp only [Act.put, puA, puB, puC]
                  refine tkA (i := 11) (oi := { dst := some 77, op := Op.move (Operand.tmp 5), type := 23, pos := "law.go:63", after := #[{ on := 10, ground := Ground.guard }], guard := some (10, false) }) (T7.old U44 HS8.out) ?_
                  try simp only [Act.put, puA, puB, puC]
                  refine tkA (i := 13) (oi := { dst := some 79, op := Op.fieldAddr 46 (Operand.tmp 6) 1, type := 0, pos := "law.go:63", after := #[{ on := 10, ground := Ground.guard }], guard := some (10, false) }) (T7.old U44 HS8.out) ?_
                  try simp only [Act.put, puA, puB, puC]
                  refine tkA (i := 14) (oi := { dst := some 80, op := Op.load 44 (Operand.tmp 79), type := 44, pos := "law.go:63", after := #[{ on := 13, ground := Ground.data }, { on := 10, ground := Ground.guard }], guard := some (10, false) }) (T7.old U44 HS8.out) ?_
                  try simp only [Act.put, puA, puB, puC]
                  refine tkA (i := 15) (oi := { dst := some 81, op := Op.call { callee := Callee.builtin Builtin.len, args := #[Operand.tmp 80], argTypes := #[44] }, type := 3, pos := "law.go:63", after := #[{ on := 14, ground := Ground.data }, { on := 10, ground := Ground.guard }], guard := some (10, false) }) (T7.old U44 HS8.out) ?_
                  try simp only [Act.put, puA, puB, puC]
                  refine wpAnyH_ready (rs := [12]) (by kernel_rfl) (by simp) ?_
                  refine AllReadyH.cons (o := { dst := some 78, op := Op.call { callee := Callee.value (Operand.func 11), args := #[Operand.tmp 77], argTypes := #[23] }, type := 3, pos := "law.go:63", after := #[{ on := 11, ground := Ground.data }, { on := 10, ground := Ground.chain }, { on := 10, ground := Ground.guard }], guard := some (10, false) }) rfl (fun K hK => ?_) AllReadyH.nil
                  refine wantCall1 ?_ 11 (.tmp 77) #[23] ?_ (.pointer (some ⟨nb, 0, none⟩)) ?_ ?_ ((enters_of Try.func11 (by kernel_rfl) rfl) _ _) ?_
                  · rfl
                  · rfl
                  · rfl
                  · rfl
                  refine (HLn8.out _ U44).mono ?_
                  rintro o x52 ⟨rfl, b52⟩
                  refine ⟨_, rfl, ?_⟩
                  have U52 := U44.trans b52
                  refine hK.out _ _ (T7.old U52 HS8.out) (fun _ => ?_)
                  clear hK K
                  (try simp only [Act.put]); (try simp only [List.setIfInBounds_toArray]); (try simp only [List.set_cons_succ]); (try simp only [List.set_cons_zero])
                  refine tkA (i := 16) (oi := { dst := some 82, op := Op.binOp BinOp.neq 3 (Operand.tmp 78) (Operand.tmp 81) 3, type := 4, pos := "law.go:63", after := #[{ on := 12, ground := Ground.data }, { on := 15, ground := Ground.data }, { on := 10, ground := Ground.guard }], guard := some (10, false) }) (T7.old U52 HS8.out) ?_
                  try simp only [Act.put, puA, puB, puC]
                  refine tkA (i := 17) (oi := { dst := some 83, op := Op.pick (Operand.tmp 76) (Operand.const (Value.bool true)) (Operand.tmp 82), type := 4, pos := "law.go:63", after := #[{ on := 10, ground := Ground.data }, { on := 16, ground := Ground.data }], guard := none }) (T7.old U52 HS8.out) ?_
                  try simp only [Act.put, puA, puB, puC]
                  refine wpAnyH_done (by kernel_rfl) ?_ _
                  refine NoPanic.normal ?_
                  have UY := hid U52
                  go_wp2
                  go_roundw
                  case rel => exact ⟨i + 1, a7, c7, Z, P5, hlt, by go_num, M8.out.old UY.out⟩
                  case measure => simp [intOf]; omega
                case true =>
                  refine wp_region_noPanic ?_
                  refine wp_region_held_drew (S := fun wz => (wz.cell? ⟨b9, 0, none⟩ = some (.int .i64 xf7) ∧ wz.cell? ⟨b9, 1, none⟩ = some (.int .i64 xt7) ∧ wz.cell? ⟨b9, 2, none⟩ = some (.slice a5 xL7.length c5)) ∧ (wz.cell? ⟨b12, 0, none⟩ = some (.int .i64 xf7) ∧ wz.cell? ⟨b12, 1, none⟩ = some (.int .i64 xt7) ∧ wz.cell? ⟨b12, 2, none⟩ = some (.slice xa7 xL7.length xc7)) ∧ wz.cell? ⟨bm, 1, none⟩ = some (.slice a7 Z.length c7)) (by kernel_rfl) ?_ (fun hHeld => ?_)
                  · exact T7.old ((Old.refl _).drew) HS8.out
                  (try simp only [Act.put]); (try simp only [List.setIfInBounds_toArray]); (try simp only [List.set_cons_succ]); (try simp only [List.set_cons_zero])
                  clear hHeld
                  refine tkA (i := 0) (oi := { dst := some 66, op := Op.move (Operand.tmp 10), type := 4, pos := "law.go:63", after := #[], guard := none }) (T7.old ((Old.refl w8).drew) HS8.out) ?_
                  try simp only [Act.put, puA, puB, puC]
                  refine tkA (i := 1) (oi := { dst := some 67, op := Op.move (Operand.tmp 13), type := 4, pos := "law.go:63", after := #[], guard := none }) (T7.old ((Old.refl w8).drew) HS8.out) ?_
                  try simp only [Act.put, puA, puB, puC]
                  refine tkA (i := 2) (oi := { dst := some 68, op := Op.binOp BinOp.neq 4 (Operand.tmp 66) (Operand.tmp 67) 4, type := 4, pos := "law.go:63", after := #[{ on := 0, ground := Ground.data }, { on := 1, ground := Ground.data }], guard := none }) (T7.old ((Old.refl w8).drew) HS8.out) ?_
                  try simp only [Act.put, puA, puB, puC]
                  refine tkA (i := 3) (oi := { dst := some 69, op := Op.move (Operand.tmp 68), type := 4, pos := "law.go:63", after := #[{ on := 2, ground := Ground.data }], guard := none }) (T7.old ((Old.refl w8).drew) HS8.out) ?_
                  try simp only [Act.put, puA, puB, puC]
                  refine tkA (i := 4) (oi := { dst := some 70, op := Op.load 30 (Operand.tmp 9), type := 30, pos := "law.go:63", after := #[{ on := 3, ground := Ground.guard }], guard := some (3, false) }) (T7.old ((Old.refl w8).drew) HS8.out) ?_
                  try simp only [Act.put, puA, puB, puC]
                  refine tkA (i := 6) (oi := { dst := some 72, op := Op.load 48 (Operand.tmp 12), type := 48, pos := "law.go:63", after := #[{ on := 3, ground := Ground.guard }], guard := some (3, false) }) (T7.old ((Old.refl w8).drew) HS8.out) ?_
                  try simp only [Act.put, puA, puB, puC]
                  refine wpAnyH_ready (rs := [5]) (by kernel_rfl) (by simp) ?_
                  refine AllReadyH.cons (o := { dst := some 71, op := Op.call { callee := Callee.value (Operand.func 17), args := #[Operand.tmp 70], argTypes := #[30] }, type := 48, pos := "law.go:63", after := #[{ on := 4, ground := Ground.data }, { on := 3, ground := Ground.chain }, { on := 3, ground := Ground.guard }], guard := some (3, false) }) rfl (fun K hK => ?_) AllReadyH.nil
                  refine wantCall1 ?_ 17 (.tmp 70) #[30] ?_ (.agg #[.int .i64 xf7, .int .i64 xt7, .slice a5 xL7.length c5]) ?_ ?_ ((enters_of Try.func17 (by kernel_rfl) rfl) _ _) ?_
                  · rfl
                  · rfl
                  · rfl
                  · rfl
                  refine (HOf8.out _ ((Old.refl w8).drew)).mono ?_
                  rintro o x61 ⟨rfl, b61⟩
                  refine ⟨_, rfl, ?_⟩
                  have U61 := ((Old.refl w8).drew).trans b61
                  refine hK.out _ _ (T7.old U61 HS8.out) (fun _ => ?_)
                  clear hK K
                  (try simp only [Act.put]); (try simp only [List.setIfInBounds_toArray]); (try simp only [List.set_cons_succ]); (try simp only [List.set_cons_zero])
                  refine wpAnyH_ready (rs := [7]) (by kernel_rfl) (by simp) ?_
                  refine AllReadyH.cons (o := { dst := some 73, op := Op.call { callee := Callee.value (Operand.func 18), args := #[Operand.tmp 71, Operand.tmp 72], argTypes := #[48, 48] }, type := 4, pos := "law.go:63", after := #[{ on := 5, ground := Ground.data }, { on := 6, ground := Ground.data }, { on := 5, ground := Ground.chain }, { on := 3, ground := Ground.guard }], guard := some (3, false) }) rfl (fun K hK => ?_) AllReadyH.nil
                  refine wantCall2 ?_ 18 (.tmp 71) (.tmp 72) #[48, 48] ?_ (.agg #[.int .i64 xf7, .int .i64 xt7, .slice a5 xL7.length c5]) (.agg #[.int .i64 xf7, .int .i64 xt7, .slice xa7 xL7.length xc7]) ?_ ?_ ?_ ((enters_of Try.func18 (by kernel_rfl) rfl) _ _) ?_
                  · rfl
                  · rfl
                  · rfl
                  · rfl
                  · rfl
                  refine (HSm8.out _ U61).mono ?_
                  rintro o x62 ⟨rfl, b62⟩
                  refine ⟨_, rfl, ?_⟩
                  have U62 := U61.trans b62
                  refine hK.out _ _ (T7.old U62 HS8.out) (fun _ => ?_)
                  clear hK K
                  (try simp only [Act.put]); (try simp only [List.setIfInBounds_toArray]); (try simp only [List.set_cons_succ]); (try simp only [List.set_cons_zero])
                  refine tkA (i := 8) (oi := { dst := some 74, op := Op.unOp UnOp.not 4 (Operand.tmp 73), type := 4, pos := "law.go:63", after := #[{ on := 7, ground := Ground.data }, { on := 3, ground := Ground.guard }], guard := some (3, false) }) (T7.old U62 HS8.out) ?_
                  try simp only [Act.put, puA, puB, puC]
                  refine tkA (i := 9) (oi := { dst := some 75, op := Op.pick (Operand.tmp 69) (Operand.const (Value.bool true)) (Operand.tmp 74), type := 4, pos := "law.go:63", after := #[{ on := 3, ground := Ground.data }, { on := 8, ground := Ground.data }], guard := none }) (T7.old U62 HS8.out) ?_
                  try simp only [Act.put, puA, puB, puC]
                  refine tkA (i := 10) (oi := { dst := some 76, op := Op.move (Operand.tmp 75), type := 4, pos := "law.go:63", after := #[{ on := 9, ground := Ground.data }, { on := 7, ground := Ground.chain }], guard := none }) (T7.old U62 HS8.out) ?_
                  try simp only [Act.put, puA, puB, puC]
                  refine tkA (i := 11) (oi := { dst := some 77, op := Op.move (Operand.tmp 5), type := 23, pos := "law.go:63", after := #[{ on := 10, ground := Ground.guard }], guard := some (10, false) }) (T7.old U62 HS8.out) ?_
                  try simp only [Act.put, puA, puB, puC]
                  refine tkA (i := 13) (oi := { dst := some 79, op := Op.fieldAddr 46 (Operand.tmp 6) 1, type := 0, pos := "law.go:63", after := #[{ on := 10, ground := Ground.guard }], guard := some (10, false) }) (T7.old U62 HS8.out) ?_
                  try simp only [Act.put, puA, puB, puC]
                  refine tkA (i := 14) (oi := { dst := some 80, op := Op.load 44 (Operand.tmp 79), type := 44, pos := "law.go:63", after := #[{ on := 13, ground := Ground.data }, { on := 10, ground := Ground.guard }], guard := some (10, false) }) (T7.old U62 HS8.out) ?_
                  try simp only [Act.put, puA, puB, puC]
                  refine tkA (i := 15) (oi := { dst := some 81, op := Op.call { callee := Callee.builtin Builtin.len, args := #[Operand.tmp 80], argTypes := #[44] }, type := 3, pos := "law.go:63", after := #[{ on := 14, ground := Ground.data }, { on := 10, ground := Ground.guard }], guard := some (10, false) }) (T7.old U62 HS8.out) ?_
                  try simp only [Act.put, puA, puB, puC]
                  refine wpAnyH_ready (rs := [12]) (by kernel_rfl) (by simp) ?_
                  refine AllReadyH.cons (o := { dst := some 78, op := Op.call { callee := Callee.value (Operand.func 11), args := #[Operand.tmp 77], argTypes := #[23] }, type := 3, pos := "law.go:63", after := #[{ on := 11, ground := Ground.data }, { on := 10, ground := Ground.chain }, { on := 10, ground := Ground.guard }], guard := some (10, false) }) rfl (fun K hK => ?_) AllReadyH.nil
                  refine wantCall1 ?_ 11 (.tmp 77) #[23] ?_ (.pointer (some ⟨nb, 0, none⟩)) ?_ ?_ ((enters_of Try.func11 (by kernel_rfl) rfl) _ _) ?_
                  · rfl
                  · rfl
                  · rfl
                  · rfl
                  refine (HLn8.out _ U62).mono ?_
                  rintro o x70 ⟨rfl, b70⟩
                  refine ⟨_, rfl, ?_⟩
                  have U70 := U62.trans b70
                  refine hK.out _ _ (T7.old U70 HS8.out) (fun _ => ?_)
                  clear hK K
                  (try simp only [Act.put]); (try simp only [List.setIfInBounds_toArray]); (try simp only [List.set_cons_succ]); (try simp only [List.set_cons_zero])
                  refine tkA (i := 16) (oi := { dst := some 82, op := Op.binOp BinOp.neq 3 (Operand.tmp 78) (Operand.tmp 81) 3, type := 4, pos := "law.go:63", after := #[{ on := 12, ground := Ground.data }, { on := 15, ground := Ground.data }, { on := 10, ground := Ground.guard }], guard := some (10, false) }) (T7.old U70 HS8.out) ?_
                  try simp only [Act.put, puA, puB, puC]
                  refine tkA (i := 17) (oi := { dst := some 83, op := Op.pick (Operand.tmp 76) (Operand.const (Value.bool true)) (Operand.tmp 82), type := 4, pos := "law.go:63", after := #[{ on := 10, ground := Ground.data }, { on := 16, ground := Ground.data }], guard := none }) (T7.old U70 HS8.out) ?_
                  try simp only [Act.put, puA, puB, puC]
                  refine wpAnyH_done (by kernel_rfl) ?_ _
                  refine NoPanic.normal ?_
                  have UY := hid U70
                  go_wp2
                  go_roundw
                  case rel => exact ⟨i + 1, a7, c7, Z, P5, hlt, by go_num, M8.out.old UY.out⟩
                  case measure => simp [intOf]; omega
              | refine atA [true, true, true, true, true, true, true, true, true, true, true, true, true, true, true, true, true, true, true, true, true] ?_
                refine wpAnyH_done (by kernel_rfl) ?_ _
                refine NoPanic.normal ?_
                have FF := hid (rfin (p := .int .i64 (most : Nat)) (q := .slice a7 Z.length c7) (x := .int .i64 x7.f) (y := .int .i64 x7.t) (z := .slice x7.a x7.L.length x7.c) hnn11_100 hnn12_100)
                have D7 := hid (show DocAt w (((((xw_100.setCell ⟨mm11_100, 0, none⟩ (.int .i64 (most : Nat))).setCell ⟨mm11_100, 1, none⟩ (.slice a7 Z.length c7)).setCell ⟨mm12_100, 0, none⟩ (.int .i64 x7.f)).setCell ⟨mm12_100, 1, none⟩ (.int .i64 x7.t)).setCell ⟨mm12_100, 2, none⟩ (.slice x7.a x7.L.length x7.c)) (.slice a7 Z.length c7) Z from DocAt.chg2 (B := 0) dddz_100 FF.out.2.2 hnn11_100 hnn12_100 (fun g e => ⟨Nm11.out g e, Nm12.out g e⟩))
                have S7 := hid (show Sr w (((((xw_100.setCell ⟨mm11_100, 0, none⟩ (.int .i64 (most : Nat))).setCell ⟨mm11_100, 1, none⟩ (.slice a7 Z.length c7)).setCell ⟨mm12_100, 0, none⟩ (.int .i64 x7.f)).setCell ⟨mm12_100, 1, none⟩ (.int .i64 x7.t)).setCell ⟨mm12_100, 2, none⟩ (.slice x7.a x7.L.length x7.c)) x7.v x7.L from Sr.chg2 sssx_100 FF.out.2.2 hnn11_100 hnn12_100)
                have F11 := hid (show (((((xw_100.setCell ⟨mm11_100, 0, none⟩ (.int .i64 (most : Nat))).setCell ⟨mm11_100, 1, none⟩ (.slice a7 Z.length c7)).setCell ⟨mm12_100, 0, none⟩ (.int .i64 x7.f)).setCell ⟨mm12_100, 1, none⟩ (.int .i64 x7.t)).setCell ⟨mm12_100, 2, none⟩ (.slice x7.a x7.L.length x7.c)).heap[mm11_100]? = some (.cells #[.int .i64 (most : Nat), .slice a7 Z.length c7] 46 (0, 0)) from FF.out.1)
                have F12 := hid (show (((((xw_100.setCell ⟨mm11_100, 0, none⟩ (.int .i64 (most : Nat))).setCell ⟨mm11_100, 1, none⟩ (.slice a7 Z.length c7)).setCell ⟨mm12_100, 0, none⟩ (.int .i64 x7.f)).setCell ⟨mm12_100, 1, none⟩ (.int .i64 x7.t)).setCell ⟨mm12_100, 2, none⟩ (.slice x7.a x7.L.length x7.c)).heap[mm12_100]? = some (.cells #[.int .i64 x7.f, .int .i64 x7.t, .slice x7.a x7.L.length x7.c] 48 (0, 0)) from FF.out.2.1)
                have UZ := hid (show Old w6 (((((xw_100.setCell ⟨mm11_100, 0, none⟩ (.int .i64 (most : Nat))).setCell ⟨mm11_100, 1, none⟩ (.slice a7 Z.length c7)).setCell ⟨mm12_100, 0, none⟩ (.int .i64 x7.f)).setCell ⟨mm12_100, 1, none⟩ (.int .i64 x7.t)).setCell ⟨mm12_100, 2, none⟩ (.slice x7.a x7.L.length x7.c)) from UU_100)
                clear FF Nm11 Nm12 hnn11_100 hnn12_100 qqn12b_100 dddz_100 sssx_100 UU_100
                generalize (((((xw_100.setCell ⟨mm11_100, 0, none⟩ (.int .i64 (most : Nat))).setCell ⟨mm11_100, 1, none⟩ (.slice a7 Z.length c7)).setCell ⟨mm12_100, 0, none⟩ (.int .i64 x7.f)).setCell ⟨mm12_100, 1, none⟩ (.int .i64 x7.t)).setCell ⟨mm12_100, 2, none⟩ (.slice x7.a x7.L.length x7.c)) = w7 at *
                generalize mm11_100 = b11 at *
                generalize mm12_100 = b12 at *
                have N7 := hid (N6.out.old UZ.out)
                have HBm7 := hid (UZ.out.block HBm6.out)
                have HB97 := hid (UZ.out.block HB9.out)
                have O7 := hid (O6.out.old UZ.out)
                clear N6 HBm6 HB9 O6 D6 HBo6 HPS HOf HDc UZ
                obtain ⟨xf7, xt7, xa7, xc7, xL7⟩ := x7
                obtain ⟨e1, e2, e3⟩ : xf7 = xf ∧ xt7 = xt ∧ xL7 = xL := by
                  have h := HX7.out
                  unfold Lt.p at h
                  simp only [Prod.mk.injEq] at h
                  exact h
                clear HX7
                subst e1 e2 e3
                dsimp only at S7 F12
                unfold Lt.v at S7
                dsimp only at S7
                obtain ⟨r0, r1, -, -⟩ := box2 F11.out
                obtain ⟨s0, s1, sf0, sf1⟩ := box2 HBm7.out
                go_upto_region 12 with (fail)
                have M8 := hid (PA.set (cs := #[]) (most := most) N7.out HBm7.out HNw.out D7.out HZ7.out)
                have ne12 : b12 ≠ bm := fun e => by have h1 := F12.out; rw [e, HBm7.out] at h1; simp at h1
                have ne9 : b9 ≠ bm := fun e => by have h1 := HB97.out; rw [e, HBm7.out] at h1; simp at h1
                have G12 := hid (set_other (v := .slice a7 Z.length c7) (i := 1) (set_other (v := .int .i64 (most : Nat)) (i := 0) F12.out ne12) ne12)
                have G9 := hid (set_other (v := .slice a7 Z.length c7) (i := 1) (set_other (v := .int .i64 (most : Nat)) (i := 0) HB97.out ne9) ne9)
                have O8 := hid (O7.out.chg (chg2 w7 bm (.int .i64 (most : Nat)) (.slice a7 Z.length c7)) (O7.out.offT HBm7.out (by decide)))
                have S8 := hid (S7.out.chgT (chg2 w7 bm (.int .i64 (most : Nat)) (.slice a7 Z.length c7)) HBm7.out)
                clear r0 r1 s0 s1 sf0 sf1 F11 F12 HBm7 HB97 O7 N7 S7 D7 ne12 ne9
                generalize (w7.setCell ⟨bm, 0, none⟩ (.int .i64 (most : Nat))).setCell ⟨bm, 1, none⟩ (.slice a7 Z.length c7) = w8 at *
                have HS8 := hid (show (fun wz => (wz.cell? ⟨b9, 0, none⟩ = some (.int .i64 xf7) ∧ wz.cell? ⟨b9, 1, none⟩ = some (.int .i64 xt7) ∧ wz.cell? ⟨b9, 2, none⟩ = some (.slice a5 xL7.length c5)) ∧ (wz.cell? ⟨b12, 0, none⟩ = some (.int .i64 xf7) ∧ wz.cell? ⟨b12, 1, none⟩ = some (.int .i64 xt7) ∧ wz.cell? ⟨b12, 2, none⟩ = some (.slice xa7 xL7.length xc7)) ∧ wz.cell? ⟨bm, 1, none⟩ = some (.slice a7 Z.length c7)) w8 from ⟨⟨(box3 G9.out).1, (box3 G9.out).2.1, (box3 G9.out).2.2.1⟩, ⟨(box3 G12.out).1, (box3 G12.out).2.1, (box3 G12.out).2.2.1⟩, (box2 M8.out.box).2.1⟩)
                dsimp only at HS8
                have HOf8 := hid (fun (W : World) (u : Old w8 W) => rof_any xf7 xt7 a5 xL7.length c5 W)
                have HSm8 := hid (fun (W : World) (u : Old w8 W) => rsame_any xf7 xt7 a5 xa7 c5 xc7 xL7 W ((O8.out.old u).row) ((S8.out.old u).row (M8.out.net.base.trans u)))
                have HLn8 := hid (show ∀ W, Old w8 W → Calls Try.prog 11 #[.pointer (some ⟨nb, 0, none⟩)] W fun e w' => e = .returned (.int .i64 (Z.length : Nat)) ∧ Old W w' from fun W u => (lenN w W nb most P5 [] (M8.out.net.old u)).mono fun e w' q => ⟨by rw [q.1, ← HZ7.out, List.length_map], by rw [q.2]; exact Old.refl _⟩)
                clear G12 G9 O8 S8
                cases b5
                case false =>
                  refine wp_region_noPanic ?_
                  refine wp_region_held_drew (S := fun wz => (wz.cell? ⟨b9, 0, none⟩ = some (.int .i64 xf7) ∧ wz.cell? ⟨b9, 1, none⟩ = some (.int .i64 xt7) ∧ wz.cell? ⟨b9, 2, none⟩ = some (.slice a5 xL7.length c5)) ∧ (wz.cell? ⟨b12, 0, none⟩ = some (.int .i64 xf7) ∧ wz.cell? ⟨b12, 1, none⟩ = some (.int .i64 xt7) ∧ wz.cell? ⟨b12, 2, none⟩ = some (.slice xa7 xL7.length xc7)) ∧ wz.cell? ⟨bm, 1, none⟩ = some (.slice a7 Z.length c7)) (by kernel_rfl) ?_ (fun hHeld => ?_)
                  · exact T7.old ((Old.refl _).drew) HS8.out
                  (try simp only [Act.put]); (try simp only [List.setIfInBounds_toArray]); (try simp only [List.set_cons_succ]); (try simp only [List.set_cons_zero])
                  clear hHeld
                  refine tkA (i := 0) (oi := { dst := some 66, op := Op.move (Operand.tmp 10), type := 4, pos := "law.go:63", after := #[], guard := none }) (T7.old ((Old.refl w8).drew) HS8.out) ?_
                  try simp only [Act.put, puA, puB, puC]
                  refine tkA (i := 1) (oi := { dst := some 67, op := Op.move (Operand.tmp 13), type := 4, pos := "law.go:63", after := #[], guard := none }) (T7.old ((Old.refl w8).drew) HS8.out) ?_
                  try simp only [Act.put, puA, puB, puC]
                  refine tkA (i := 2) (oi := { dst := some 68, op := Op.binOp BinOp.neq 4 (Operand.tmp 66) (Operand.tmp 67) 4, type := 4, pos := "law.go:63", after := #[{ on := 0, ground := Ground.data }, { on := 1, ground := Ground.data }], guard := none }) (T7.old ((Old.refl w8).drew) HS8.out) ?_
                  try simp only [Act.put, puA, puB, puC]
                  refine tkA (i := 3) (oi := { dst := some 69, op := Op.move (Operand.tmp 68), type := 4, pos := "law.go:63", after := #[{ on := 2, ground := Ground.data }], guard := none }) (T7.old ((Old.refl w8).drew) HS8.out) ?_
                  try simp only [Act.put, puA, puB, puC]
                  refine tkA (i := 4) (oi := { dst := some 70, op := Op.load 30 (Operand.tmp 9), type := 30, pos := "law.go:63", after := #[{ on := 3, ground := Ground.guard }], guard := some (3, false) }) (T7.old ((Old.refl w8).drew) HS8.out) ?_
                  try simp only [Act.put, puA, puB, puC]
                  refine tkA (i := 6) (oi := { dst := some 72, op := Op.load 48 (Operand.tmp 12), type := 48, pos := "law.go:63", after := #[{ on := 3, ground := Ground.guard }], guard := some (3, false) }) (T7.old ((Old.refl w8).drew) HS8.out) ?_
                  try simp only [Act.put, puA, puB, puC]
                  refine wpAnyH_ready (rs := [5]) (by kernel_rfl) (by simp) ?_
                  refine AllReadyH.cons (o := { dst := some 71, op := Op.call { callee := Callee.value (Operand.func 17), args := #[Operand.tmp 70], argTypes := #[30] }, type := 48, pos := "law.go:63", after := #[{ on := 4, ground := Ground.data }, { on := 3, ground := Ground.chain }, { on := 3, ground := Ground.guard }], guard := some (3, false) }) rfl (fun K hK => ?_) AllReadyH.nil
                  refine wantCall1 ?_ 17 (.tmp 70) #[30] ?_ (.agg #[.int .i64 xf7, .int .i64 xt7, .slice a5 xL7.length c5]) ?_ ?_ ((enters_of Try.func17 (by kernel_rfl) rfl) _ _) ?_
                  · rfl
                  · rfl
                  · rfl
                  · rfl
                  refine (HOf8.out _ ((Old.refl w8).drew)).mono ?_
                  rintro o x79 ⟨rfl, b79⟩
                  refine ⟨_, rfl, ?_⟩
                  have U79 := ((Old.refl w8).drew).trans b79
                  refine hK.out _ _ (T7.old U79 HS8.out) (fun _ => ?_)
                  clear hK K
                  (try simp only [Act.put]); (try simp only [List.setIfInBounds_toArray]); (try simp only [List.set_cons_succ]); (try simp only [List.set_cons_zero])
                  refine wpAnyH_ready (rs := [7]) (by kernel_rfl) (by simp) ?_
                  refine AllReadyH.cons (o := { dst := some 73, op := Op.call { callee := Callee.value (Operand.func 18), args := #[Operand.tmp 71, Operand.tmp 72], argTypes := #[48, 48] }, type := 4, pos := "law.go:63", after := #[{ on := 5, ground := Ground.data }, { on := 6, ground := Ground.data }, { on := 5, ground := Ground.chain }, { on := 3, ground := Ground.guard }], guard := some (3, false) }) rfl (fun K hK => ?_) AllReadyH.nil
                  refine wantCall2 ?_ 18 (.tmp 71) (.tmp 72) #[48, 48] ?_ (.agg #[.int .i64 xf7, .int .i64 xt7, .slice a5 xL7.length c5]) (.agg #[.int .i64 xf7, .int .i64 xt7, .slice xa7 xL7.length xc7]) ?_ ?_ ?_ ((enters_of Try.func18 (by kernel_rfl) rfl) _ _) ?_
                  · rfl
                  · rfl
                  · rfl
                  · rfl
                  · rfl
                  refine (HSm8.out _ U79).mono ?_
                  rintro o x80 ⟨rfl, b80⟩
                  refine ⟨_, rfl, ?_⟩
                  have U80 := U79.trans b80
                  refine hK.out _ _ (T7.old U80 HS8.out) (fun _ => ?_)
                  clear hK K
                  (try simp only [Act.put]); (try simp only [List.setIfInBounds_toArray]); (try simp only [List.set_cons_succ]); (try simp only [List.set_cons_zero])
                  refine tkA (i := 8) (oi := { dst := some 74, op := Op.unOp UnOp.not 4 (Operand.tmp 73), type := 4, pos := "law.go:63", after := #[{ on := 7, ground := Ground.data }, { on := 3, ground := Ground.guard }], guard := some (3, false) }) (T7.old U80 HS8.out) ?_
                  try simp only [Act.put, puA, puB, puC]
                  refine tkA (i := 9) (oi := { dst := some 75, op := Op.pick (Operand.tmp 69) (Operand.const (Value.bool true)) (Operand.tmp 74), type := 4, pos := "law.go:63", after := #[{ on := 3, ground := Ground.data }, { on := 8, ground := Ground.data }], guard := none }) (T7.old U80 HS8.out) ?_
                  try simp only [Act.put, puA, puB, puC]
                  refine tkA (i := 10) (oi := { dst := some 76, op := Op.move (Operand.tmp 75), type := 4, pos := "law.go:63", after := #[{ on := 9, ground := Ground.data }, { on := 7, ground := Ground.chain }], guard := none }) (T7.old U80 HS8.out) ?_
                  try simp only [Act.put, puA, puB, puC]
                  refine tkA (i := 11) (oi := { dst := some 77, op := Op.move (Operand.tmp 5), type := 23, pos := "law.go:63", after := #[{ on := 10, ground := Ground.guard }], guard := some (10, false) }) (T7.old U80 HS8.out) ?_
                  try simp only [Act.put, puA, puB, puC]
                  refine tkA (i := 13) (oi := { dst := some 79, op := Op.fieldAddr 46 (Operand.tmp 6) 1, type := 0, pos := "law.go:63", after := #[{ on := 10, ground := Ground.guard }], guard := some (10, false) }) (T7.old U80 HS8.out) ?_
                  try simp only [Act.put, puA, puB, puC]
                  refine tkA (i := 14) (oi := { dst := some 80, op := Op.load 44 (Operand.tmp 79), type := 44, pos := "law.go:63", after := #[{ on := 13, ground := Ground.data }, { on := 10, ground := Ground.guard }], guard := some (10, false) }) (T7.old U80 HS8.out) ?_
                  try simp only [Act.put, puA, puB, puC]
                  refine tkA (i := 15) (oi := { dst := some 81, op := Op.call { callee := Callee.builtin Builtin.len, args := #[Operand.tmp 80], argTypes := #[44] }, type := 3, pos := "law.go:63", after := #[{ on := 14, ground := Ground.data }, { on := 10, ground := Ground.guard }], guard := some (10, false) }) (T7.old U80 HS8.out) ?_
                  try simp only [Act.put, puA, puB, puC]
                  refine wpAnyH_ready (rs := [12]) (by kernel_rfl) (by simp) ?_
                  refine AllReadyH.cons (o := { dst := some 78, op := Op.call { callee := Callee.value (Operand.func 11), args := #[Operand.tmp 77], argTypes := #[23] }, type := 3, pos := "law.go:63", after := #[{ on := 11, ground := Ground.data }, { on := 10, ground := Ground.chain }, { on := 10, ground := Ground.guard }], guard := some (10, false) }) rfl (fun K hK => ?_) AllReadyH.nil
                  refine wantCall1 ?_ 11 (.tmp 77) #[23] ?_ (.pointer (some ⟨nb, 0, none⟩)) ?_ ?_ ((enters_of Try.func11 (by kernel_rfl) rfl) _ _) ?_
                  · rfl
                  · rfl
                  · rfl
                  · rfl
                  refine (HLn8.out _ U80).mono ?_
                  rintro o x88 ⟨rfl, b88⟩
                  refine ⟨_, rfl, ?_⟩
                  have U88 := U80.trans b88
                  refine hK.out _ _ (T7.old U88 HS8.out) (fun _ => ?_)
                  clear hK K
                  (try simp only [Act.put]); (try simp only [List.setIfInBounds_toArray]); (try simp only [List.set_cons_succ]); (try simp only [List.set_cons_zero])
                  refine tkA (i := 16) (oi := { dst := some 82, op := Op.binOp BinOp.neq 3 (Operand.tmp 78) (Operand.tmp 81) 3, type := 4, pos := "law.go:63", after := #[{ on := 12, ground := Ground.data }, { on := 15, ground := Ground.data }, { on := 10, ground := Ground.guard }], guard := some (10, false) }) (T7.old U88 HS8.out) ?_
                  try simp only [Act.put, puA, puB, puC]
                  refine tkA (i := 17) (oi := { dst := some 83, op := Op.pick (Operand.tmp 76) (Operand.const (Value.bool true)) (Operand.tmp 82), type := 4, pos := "law.go:63", after := #[{ on := 10, ground := Ground.data }, { on := 16, ground := Ground.data }], guard := none }) (T7.old U88 HS8.out) ?_
                  try simp only [Act.put, puA, puB, puC]
                  refine wpAnyH_done (by kernel_rfl) ?_ _
                  refine NoPanic.normal ?_
                  have UY := hid U88
                  go_wp2
                  go_roundw
                  case rel => exact ⟨i + 1, a7, c7, Z, P5, hlt, by go_num, M8.out.old UY.out⟩
                  case measure => simp [intOf]; omega
                case true =>
                  refine wp_region_noPanic ?_
                  refine wp_region_held_drew (S := fun wz => (wz.cell? ⟨b9, 0, none⟩ = some (.int .i64 xf7) ∧ wz.cell? ⟨b9, 1, none⟩ = some (.int .i64 xt7) ∧ wz.cell? ⟨b9, 2, none⟩ = some (.slice a5 xL7.length c5)) ∧ (wz.cell? ⟨b12, 0, none⟩ = some (.int .i64 xf7) ∧ wz.cell? ⟨b12, 1, none⟩ = some (.int .i64 xt7) ∧ wz.cell? ⟨b12, 2, none⟩ = some (.slice xa7 xL7.length xc7)) ∧ wz.cell? ⟨bm, 1, none⟩ = some (.slice a7 Z.length c7)) (by kernel_rfl) ?_ (fun hHeld => ?_)
                  · exact T7.old ((Old.refl _).drew) HS8.out
                  (try simp only [Act.put]); (try simp only [List.setIfInBounds_toArray]); (try simp only [List.set_cons_succ]); (try simp only [List.set_cons_zero])
                  clear hHeld
                  refine tkA (i := 0) (oi := { dst := some 66, op := Op.move (Operand.tmp 10), type := 4, pos := "law.go:63", after := #[], guard := none }) (T7.old ((Old.refl w8).drew) HS8.out) ?_
                  try simp only [Act.put, puA, puB, puC]
                  refine tkA (i := 1) (oi := { dst := some 67, op := Op.move (Operand.tmp 13), type := 4, pos := "law.go:63", after := #[], guard := none }) (T7.old ((Old.refl w8).drew) HS8.out) ?_
                  try simp only [Act.put, puA, puB, puC]
                  refine tkA (i := 2) (oi := { dst := some 68, op := Op.binOp BinOp.neq 4 (Operand.tmp 66) (Operand.tmp 67) 4, type := 4, pos := "law.go:63", after := #[{ on := 0, ground := Ground.data }, { on := 1, ground := Ground.data }], guard := none }) (T7.old ((Old.refl w8).drew) HS8.out) ?_
                  try simp only [Act.put, puA, puB, puC]
                  refine tkA (i := 3) (oi := { dst := some 69, op := Op.move (Operand.tmp 68), type := 4, pos := "law.go:63", after := #[{ on := 2, ground := Ground.data }], guard := none }) (T7.old ((Old.refl w8).drew) HS8.out) ?_
                  try simp only [Act.put, puA, puB, puC]
                  refine tkA (i := 4) (oi := { dst := some 70, op := Op.load 30 (Operand.tmp 9), type := 30, pos := "law.go:63", after := #[{ on := 3, ground := Ground.guard }], guard := some (3, false) }) (T7.old ((Old.refl w8).drew) HS8.out) ?_
                  try simp only [Act.put, puA, puB, puC]
                  refine tkA (i := 6) (oi := { dst := some 72, op := Op.load 48 (Operand.tmp 12), type := 48, pos := "law.go:63", after := #[{ on := 3, ground := Ground.guard }], guard := some (3, false) }) (T7.old ((Old.refl w8).drew) HS8.out) ?_
                  try simp only [Act.put, puA, puB, puC]
                  refine wpAnyH_ready (rs := [5]) (by kernel_rfl) (by simp) ?_
                  refine AllReadyH.cons (o := { dst := some 71, op := Op.call { callee := Callee.value (Operand.func 17), args := #[Operand.tmp 70], argTypes := #[30] }, type := 48, pos := "law.go:63", after := #[{ on := 4, ground := Ground.data }, { on := 3, ground := Ground.chain }, { on := 3, ground := Ground.guard }], guard := some (3, false) }) rfl (fun K hK => ?_) AllReadyH.nil
                  refine wantCall1 ?_ 17 (.tmp 70) #[30] ?_ (.agg #[.int .i64 xf7, .int .i64 xt7, .slice a5 xL7.length c5]) ?_ ?_ ((enters_of Try.func17 (by kernel_rfl) rfl) _ _) ?_
                  · rfl
                  · rfl
                  · rfl
                  · rfl
                  refine (HOf8.out _ ((Old.refl w8).drew)).mono ?_
                  rintro o x97 ⟨rfl, b97⟩
                  refine ⟨_, rfl, ?_⟩
                  have U97 := ((Old.refl w8).drew).trans b97
                  refine hK.out _ _ (T7.old U97 HS8.out) (fun _ => ?_)
                  clear hK K
                  (try simp only [Act.put]); (try simp only [List.setIfInBounds_toArray]); (try simp only [List.set_cons_succ]); (try simp only [List.set_cons_zero])
                  refine wpAnyH_ready (rs := [7]) (by kernel_rfl) (by simp) ?_
                  refine AllReadyH.cons (o := { dst := some 73, op := Op.call { callee := Callee.value (Operand.func 18), args := #[Operand.tmp 71, Operand.tmp 72], argTypes := #[48, 48] }, type := 4, pos := "law.go:63", after := #[{ on := 5, ground := Ground.data }, { on := 6, ground := Ground.data }, { on := 5, ground := Ground.chain }, { on := 3, ground := Ground.guard }], guard := some (3, false) }) rfl (fun K hK => ?_) AllReadyH.nil
                  refine wantCall2 ?_ 18 (.tmp 71) (.tmp 72) #[48, 48] ?_ (.agg #[.int .i64 xf7, .int .i64 xt7, .slice a5 xL7.length c5]) (.agg #[.int .i64 xf7, .int .i64 xt7, .slice xa7 xL7.length xc7]) ?_ ?_ ?_ ((enters_of Try.func18 (by kernel_rfl) rfl) _ _) ?_
                  · rfl
                  · rfl
                  · rfl
                  · rfl
                  · rfl
                  refine (HSm8.out _ U97).mono ?_
                  rintro o x98 ⟨rfl, b98⟩
                  refine ⟨_, rfl, ?_⟩
                  have U98 := U97.trans b98
                  refine hK.out _ _ (T7.old U98 HS8.out) (fun _ => ?_)
                  clear hK K
                  (try simp only [Act.put]); (try simp only [List.setIfInBounds_toArray]); (try simp only [List.set_cons_succ]); (try simp only [List.set_cons_zero])
                  refine tkA (i := 8) (oi := { dst := some 74, op := Op.unOp UnOp.not 4 (Operand.tmp 73), type := 4, pos := "law.go:63", after := #[{ on := 7, ground := Ground.data }, { on := 3, ground := Ground.guard }], guard := some (3, false) }) (T7.old U98 HS8.out) ?_
                  try simp only [Act.put, puA, puB, puC]
                  refine tkA (i := 9) (oi := { dst := some 75, op := Op.pick (Operand.tmp 69) (Operand.const (Value.bool true)) (Operand.tmp 74), type := 4, pos := "law.go:63", after := #[{ on := 3, ground := Ground.data }, { on := 8, ground := Ground.data }], guard := none }) (T7.old U98 HS8.out) ?_
                  try simp only [Act.put, puA, puB, puC]
                  refine tkA (i := 10) (oi := { dst := some 76, op := Op.move (Operand.tmp 75), type := 4, pos := "law.go:63", after := #[{ on := 9, ground := Ground.data }, { on := 7, ground := Ground.chain }], guard := none }) (T7.old U98 HS8.out) ?_
                  try simp only [Act.put, puA, puB, puC]
                  refine tkA (i := 11) (oi := { dst := some 77, op := Op.move (Operand.tmp 5), type := 23, pos := "law.go:63", after := #[{ on := 10, ground := Ground.guard }], guard := some (10, false) }) (T7.old U98 HS8.out) ?_
                  try simp only [Act.put, puA, puB, puC]
                  refine tkA (i := 13) (oi := { dst := some 79, op := Op.fieldAddr 46 (Operand.tmp 6) 1, type := 0, pos := "law.go:63", after := #[{ on := 10, ground := Ground.guard }], guard := some (10, false) }) (T7.old U98 HS8.out) ?_
                  try simp only [Act.put, puA, puB, puC]
                  refine tkA (i := 14) (oi := { dst := some 80, op := Op.load 44 (Operand.tmp 79), type := 44, pos := "law.go:63", after := #[{ on := 13, ground := Ground.data }, { on := 10, ground := Ground.guard }], guard := some (10, false) }) (T7.old U98 HS8.out) ?_
                  try simp only [Act.put, puA, puB, puC]
                  refine tkA (i := 15) (oi := { dst := some 81, op := Op.call { callee := Callee.builtin Builtin.len, args := #[Operand.tmp 80], argTypes := #[44] }, type := 3, pos := "law.go:63", after := #[{ on := 14, ground := Ground.data }, { on := 10, ground := Ground.guard }], guard := some (10, false) }) (T7.old U98 HS8.out) ?_
                  try simp only [Act.put, puA, puB, puC]
                  refine wpAnyH_ready (rs := [12]) (by kernel_rfl) (by simp) ?_
                  refine AllReadyH.cons (o := { dst := some 78, op := Op.call { callee := Callee.value (Operand.func 11), args := #[Operand.tmp 77], argTypes := #[23] }, type := 3, pos := "law.go:63", after := #[{ on := 11, ground := Ground.data }, { on := 10, ground := Ground.chain }, { on := 10, ground := Ground.guard }], guard := some (10, false) }) rfl (fun K hK => ?_) AllReadyH.nil
                  refine wantCall1 ?_ 11 (.tmp 77) #[23] ?_ (.pointer (some ⟨nb, 0, none⟩)) ?_ ?_ ((enters_of Try.func11 (by kernel_rfl) rfl) _ _) ?_
                  · rfl
                  · rfl
                  · rfl
                  · rfl
                  refine (HLn8.out _ U98).mono ?_
                  rintro o x106 ⟨rfl, b106⟩
                  refine ⟨_, rfl, ?_⟩
                  have U106 := U98.trans b106
                  refine hK.out _ _ (T7.old U106 HS8.out) (fun _ => ?_)
                  clear hK K
                  (try simp only [Act.put]); (try simp only [List.setIfInBounds_toArray]); (try simp only [List.set_cons_succ]); (try simp only [List.set_cons_zero])
                  refine tkA (i := 16) (oi := { dst := some 82, op := Op.binOp BinOp.neq 3 (Operand.tmp 78) (Operand.tmp 81) 3, type := 4, pos := "law.go:63", after := #[{ on := 12, ground := Ground.data }, { on := 15, ground := Ground.data }, { on := 10, ground := Ground.guard }], guard := some (10, false) }) (T7.old U106 HS8.out) ?_
                  try simp only [Act.put, puA, puB, puC]
                  refine tkA (i := 17) (oi := { dst := some 83, op := Op.pick (Operand.tmp 76) (Operand.const (Value.bool true)) (Operand.tmp 82), type := 4, pos := "law.go:63", after := #[{ on := 10, ground := Ground.data }, { on := 16, ground := Ground.data }], guard := none }) (T7.old U106 HS8.out) ?_
                  try simp only [Act.put, puA, puB, puC]
                  refine wpAnyH_done (by kernel_rfl) ?_ _
                  refine NoPanic.normal ?_
                  have UY := hid U106
                  go_wp2
                  go_roundw
                  case rel => exact ⟨i + 1, a7, c7, Z, P5, hlt, by go_num, M8.out.old UY.out⟩
                  case measure => simp [intOf]; omega
        · go_wp2
          go_roundw
          case rel => exact ⟨i + 1, a, cp, Y, P, hlt, by go_num, HM1.out⟩
          case measure => simp [intOf]; omega
      · go_wp2
        go_roundw
        case rel => exact ⟨i + 1, a, cp, Y, P, hlt, by go_num, HM1.out⟩
        case measure => simp [intOf]; omega
    · have l3 : ¬ ((i : Int) < (n : Int)) := by omega
      obtain rfl : i = n := by omega
      clear hlt HO hi hnm hnc
      go_upto_region 16 with (go_at_call 14; refine (allN w _ nb _ _ _ HM.out.net).mono ?_; rintro e w5 ⟨go, Z, rfl, a5, u5⟩; have A5 := hid a5; have U5 := hid u5; clear a5 u5)
      obtain ⟨q, hq⟩ : ∃ q, q = P.length := ⟨_, rfl⟩
      have HZl := hid (show Z.length = q from by have := congrArg List.length A5.out.p; rw [List.length_map] at this; omega)
      have HYl := hid (show Y.length = q from by rw [hq, ← HM.out.eq, List.length_map])
      have HQm := hid (show q ≤ 1000 from by have := HM.out.net.le; omega)
      rw [← hq] at A5 ⊢
      clear hq
      generalize wr = wy at *
      go_wp2
      go_loopw [89] (fun c wr => ∃ (j : Nat), j ≤ q ∧ c = .int .i64 (j : Nat) ∧ LP wy wr go q Z j) (fun c _ => q - (intOf c).toNat)
      case atStart => exact ⟨0, Nat.zero_le _, rfl, U5.out, A5.out.row, fun t ht _ => (A5.out.own _ (List.getElem_mem ht)).1⟩
      case round =>
        obtain ⟨j, hj, rfl, hP⟩ := hrel
        have HP := hid hP
        clear hP
        have l8 : (q : Int) ≤ 1000 := by have := HQm.out; omega
        by_cases hlt : j < q
        · have hjz : j < Z.length := by rw [HZl.out]; exact hlt
          have hjy : j < Y.length := by rw [HYl.out]; exact hlt
          have l2 : (0 : Int) ≤ (j : Int) := by omega
          have l3 : (j : Int) < (q : Int) := by omega
          obtain ⟨g1, c1, q1, -, -, ⟨y0, y1, y2⟩, -⟩ := HP.out.row.at j hjz
          cases (Value.slice.inj q1).1
          obtain ⟨gy, cy, qy, -, -, ⟨d0, d1, d2⟩, -⟩ := (HM.out.doc.old HP.out.u).row.at j hjy
          obtain ⟨ey, -, -⟩ := Value.slice.inj qy
          subst ey
          have d3 := (box2 (HP.out.u.block HM.out.box)).2.1
          rw [HYl.out] at d3
          have HEq := hid (same_at A5.out.p HM.out.eq j hjz hjy)
          have HOz := hid (HP.out.own j hjz (Nat.le_refl _))
          have HSy := hid ((HM.out.doc.byt _ (List.getElem_mem hjy)).1)
          have HLy := hid ((HM.out.doc.byt _ (List.getElem_mem hjy)).2)
          have HBs := hid ((A5.out.own _ (List.getElem_mem hjz)).2)
          have HFar := hid (show ∀ t (ht : t < Z.length), j + 1 ≤ t → ∀ g, Z[j].v.ownBlock = some g → Z[t].v.ownBlock ≠ some g from fun t ht h => List.pairwise_iff_getElem.1 A5.out.far j t hjz ht (by omega))
          have HZj := hid (show Z[j]'hjz = Z[j]'hjz from rfl)
          clear q1 qy
          generalize hzx : Z[j] = x at *
          generalize Y[j] = y at *
          obtain ⟨xf, xt, xa, xc, xL⟩ := x
          obtain ⟨yf, yt, ya, yc, yL⟩ := y
          have HZx := hid hzx
          clear hzx HZj
          obtain ⟨e1, e2, e3⟩ := HEq.out
          dsimp only at e1 e2 e3
          subst e1 e2 e3
          clear HEq
          unfold Lt.v at y2 d2 HOz HSy HBs HFar
          dsimp only at y0 y1 y2 d0 d1 d2 HOz HSy HBs HFar HLy
          go_upto_region 19 with (fail)
          have HS9 := hid (And.intro (And.intro y0 (And.intro y1 y2)) (And.intro (And.intro d0 (And.intro d1 d2)) d3))
          have HOf9 := hid (fun (W : World) (u : Old wr W) => rof_any xf xt xa xL.length xc W)
          have HSm9 := hid (fun (W : World) (u : Old wr W) => rsame_any xf xt xa ya xc yc xL W ((HOz.out.old u).row) ((HSy.out.old (HP.out.u.trans u)).row (HM.out.net.base.trans (HP.out.u.trans u))))
          clear y0 y1 y2 d0 d1 d2 d3
          refine wp_region_noPanic ?_
          refine wp_region_held_drew (S := fun wz => (wz.cell? ⟨go, j * 3, none⟩ = some (.int .i64 xf) ∧ wz.cell? ⟨go, j * 3 + 1, none⟩ = some (.int .i64 xt) ∧ wz.cell? ⟨go, j * 3 + 2, none⟩ = some (.slice xa xL.length xc)) ∧ (wz.cell? ⟨gy, j * 3, none⟩ = some (.int .i64 xf) ∧ wz.cell? ⟨gy, j * 3 + 1, none⟩ = some (.int .i64 xt) ∧ wz.cell? ⟨gy, j * 3 + 2, none⟩ = some (.slice ya xL.length yc)) ∧ wz.cell? ⟨bm, 1, none⟩ = some (.slice (some ⟨gy, 0, none⟩) q cp)) (by kernel_rfl) ?_ (fun hHeld => ?_)
          · exact T8.old ((Old.refl _).drew) HS9.out
          (try simp only [Act.put]); (try simp only [List.setIfInBounds_toArray]); (try simp only [List.set_cons_succ]); (try simp only [List.set_cons_zero])
          clear hHeld
          refine tkA (i := 0) (oi := { dst := some 92, op := Op.move (Operand.tmp 14), type := 38, pos := "law.go:69", after := #[], guard := none }) (T8.old ((Old.refl wr).drew) HS9.out) ?_
          try simp only [Act.put, puA, puB, puC]
          refine tkA (i := 1) (oi := { dst := some 93, op := Op.move (Operand.tmp 15), type := 3, pos := "law.go:69", after := #[], guard := none }) (T8.old ((Old.refl wr).drew) HS9.out) ?_
          try simp only [Act.put, puA, puB, puC]
          refine tkA (i := 2) (oi := { dst := some 94, op := Op.indexAddr 38 (Operand.tmp 92) (Operand.tmp 93), type := 0, pos := "law.go:69", after := #[{ on := 0, ground := Ground.data }, { on := 1, ground := Ground.data }], guard := none }) (T8.old ((Old.refl wr).drew) HS9.out) ?_
          try simp only [Act.put, puA, puB, puC]
          refine tkA (i := 3) (oi := { dst := some 95, op := Op.load 30 (Operand.tmp 94), type := 30, pos := "law.go:69", after := #[{ on := 2, ground := Ground.data }], guard := none }) (T8.old ((Old.refl wr).drew) HS9.out) ?_
          try simp only [Act.put, puA, puB, puC]
          refine tkA (i := 5) (oi := { dst := some 97, op := Op.fieldAddr 46 (Operand.tmp 6) 1, type := 0, pos := "law.go:69", after := #[], guard := none }) (T8.old ((Old.refl wr).drew) HS9.out) ?_
          try simp only [Act.put, puA, puB, puC]
          refine tkA (i := 6) (oi := { dst := some 98, op := Op.load 44 (Operand.tmp 97), type := 44, pos := "law.go:69", after := #[{ on := 5, ground := Ground.data }], guard := none }) (T8.old ((Old.refl wr).drew) HS9.out) ?_
          try simp only [Act.put, puA, puB, puC]
          refine tkA (i := 7) (oi := { dst := some 99, op := Op.move (Operand.tmp 15), type := 3, pos := "law.go:69", after := #[], guard := none }) (T8.old ((Old.refl wr).drew) HS9.out) ?_
          try simp only [Act.put, puA, puB, puC]
          refine tkA (i := 8) (oi := { dst := some 100, op := Op.indexAddr 44 (Operand.tmp 98) (Operand.tmp 99), type := 0, pos := "law.go:69", after := #[{ on := 6, ground := Ground.data }, { on := 7, ground := Ground.data }], guard := none }) (T8.old ((Old.refl wr).drew) HS9.out) ?_
          try simp only [Act.put, puA, puB, puC]
          refine tkA (i := 9) (oi := { dst := some 101, op := Op.load 48 (Operand.tmp 100), type := 48, pos := "law.go:69", after := #[{ on := 8, ground := Ground.data }], guard := none }) (T8.old ((Old.refl wr).drew) HS9.out) ?_
          try simp only [Act.put, puA, puB, puC]
          refine wpAnyH_ready (rs := [4]) (by kernel_rfl) (by simp) ?_
          refine AllReadyH.cons (o := { dst := some 96, op := Op.call { callee := Callee.value (Operand.func 17), args := #[Operand.tmp 95], argTypes := #[30] }, type := 48, pos := "law.go:69", after := #[{ on := 3, ground := Ground.data }], guard := none }) rfl (fun K hK => ?_) AllReadyH.nil
          refine wantCall1 ?_ 17 (.tmp 95) #[30] ?_ (.agg #[.int .i64 xf, .int .i64 xt, .slice xa xL.length xc]) ?_ ?_ ((enters_of Try.func17 (by kernel_rfl) rfl) _ _) ?_
          · rfl
          · rfl
          · rfl
          · rfl
          refine (HOf9.out _ ((Old.refl wr).drew)).mono ?_
          rintro o x118 ⟨rfl, b118⟩
          refine ⟨_, rfl, ?_⟩
          have U118 := ((Old.refl wr).drew).trans b118
          refine hK.out _ _ (T8.old U118 HS9.out) (fun _ => ?_)
          clear hK K
          (try simp only [Act.put]); (try simp only [List.setIfInBounds_toArray]); (try simp only [List.set_cons_succ]); (try simp only [List.set_cons_zero])
          refine wpAnyH_ready (rs := [10]) (by kernel_rfl) (by simp) ?_
          refine AllReadyH.cons (o := { dst := some 102, op := Op.call { callee := Callee.value (Operand.func 18), args := #[Operand.tmp 96, Operand.tmp 101], argTypes := #[48, 48] }, type := 4, pos := "law.go:69", after := #[{ on := 4, ground := Ground.data }, { on := 9, ground := Ground.data }, { on := 4, ground := Ground.chain }], guard := none }) rfl (fun K hK => ?_) AllReadyH.nil
          refine wantCall2 ?_ 18 (.tmp 96) (.tmp 101) #[48, 48] ?_ (.agg #[.int .i64 xf, .int .i64 xt, .slice xa xL.length xc]) (.agg #[.int .i64 xf, .int .i64 xt, .slice ya xL.length yc]) ?_ ?_ ?_ ((enters_of Try.func18 (by kernel_rfl) rfl) _ _) ?_
          · rfl
          · rfl
          · rfl
          · rfl
          · rfl
          refine (HSm9.out _ U118).mono ?_
          rintro o x119 ⟨rfl, b119⟩
          refine ⟨_, rfl, ?_⟩
          have U119 := U118.trans b119
          refine hK.out _ _ (T8.old U119 HS9.out) (fun _ => ?_)
          clear hK K
          (try simp only [Act.put]); (try simp only [List.setIfInBounds_toArray]); (try simp only [List.set_cons_succ]); (try simp only [List.set_cons_zero])
          refine tkA (i := 11) (oi := { dst := some 103, op := Op.unOp UnOp.not 4 (Operand.tmp 102), type := 4, pos := "law.go:69", after := #[{ on := 10, ground := Ground.data }], guard := none }) (T8.old U119 HS9.out) ?_
          try simp only [Act.put, puA, puB, puC]
          refine wpAnyH_done (by kernel_rfl) ?_ _
          refine NoPanic.normal ?_
          have UY := hid U119
          have P9 := hid (HP.out.old UY.out)
          have k2 := UY.out.keep HS9.out.1.2.2
          have HO9 := hid (HOz.out.old UY.out)
          have HSh := hid (show xL.length = 0 ∨ ∃ g, xa = some ⟨g, 0, none⟩ ∧ xL.length ≤ xc ∧ BlkU x119 g xc from by
            rcases HO9.out.cases with ⟨_, e⟩ | ⟨g, cap, cur, e, hg, h1, h2, h3, _⟩
            · exact .inl (by rw [e]; rfl)
            · obtain ⟨e1, _, e3⟩ := Value.slice.inj e
              exact .inr ⟨g, e1, by omega, cur, hg, by omega⟩)
          clear HP HOz HSy HO9 HS9 HOf9 HSm9
          go_wp2
          go_loopw [110] (fun c wr => ∃ (k : Nat), k ≤ xL.length ∧ c = .int .i64 (k : Nat) ∧ LP wy wr go q Z (j + 1) ∧ ∀ g, xa = some ⟨g, 0, none⟩ → 0 < xL.length → BlkU wr g xc) (fun c _ => xL.length - (intOf c).toNat)
          case atStart => exact ⟨0, Nat.zero_le _, rfl, ⟨P9.out.u, P9.out.row, fun t ht h => P9.out.own t ht (by omega)⟩, fun g e h0 => by
            rcases HSh.out with z | ⟨g', e', _, hb⟩
            · omega
            · rw [e'] at e; cases e; exact hb⟩
          case round =>
            obtain ⟨k, hk, rfl, hP2, hB2⟩ := hrel
            have HP2 := hid hP2
            have HB2 := hid hB2
            clear hP2 hB2 k2 P9
            have l9 : (xL.length : Int) ≤ 140737488355328 := by have := HLy.out; omega
            by_cases hkl : k < xL.length
            · obtain ⟨g, eg, hlc⟩ : ∃ g, xa = some ⟨g, 0, none⟩ ∧ xL.length ≤ xc := by
                rcases HSh.out with z | ⟨g, e', h2, _⟩
                · omega
                · exact ⟨g, e', h2⟩
              subst eg
              have HBk := hid (HB2.out g rfl (by omega))
              obtain ⟨⟨z, hz⟩, hfz⟩ := HBk.out.at (k := k) (by omega)
              obtain ⟨g1, c1, q1, -, -, ⟨-, -, y2⟩, -⟩ := HP2.out.row.at j hjz
              cases (Value.slice.inj q1).1
              rw [HZx.out] at y2
              unfold Lt.v at y2
              dsimp only at y2
              have l5 : (0 : Int) ≤ (k : Int) := by omega
              have l6 : (k : Int) < (xL.length : Int) := by omega
              clear q1 HSh HB2
              go_wp2
              go_roundw
              case rel => exact ⟨k + 1, hkl, by go_num, HP2.out.set HBk.out (HBs.out g rfl) (fun t ht h => HFar.out t ht h g rfl), fun g' e h0 => by cases e; exact HBk.out.set⟩
              case measure => simp [intOf]; omega
            · obtain rfl : k = xL.length := by omega
              have l6 : ¬ (xL.length : Int) < (xL.length : Int) := by omega
              go_wp2
              go_roundw
              case rel => exact ⟨j + 1, hlt, by go_num, HP2.out⟩
              case measure => simp [intOf]; omega
        · obtain rfl : j = q := by omega
          have l3 : ¬ (j : Int) < (j : Int) := by omega
          have M9 := hid (HM.out.old HP.out.u)
          clear hlt A5 HP HM U5
          go_upto_region 28 with (go_at_call 14; refine (allN w _ nb _ _ _ M9.out.net).mono ?_; rintro e w6 ⟨go2, Z2, rfl, a6, u6⟩; have A6 := hid a6; have M10 := hid (M9.out.old u6); clear a6 u6)
          have HPl := hid (show P.length = j from by rw [← HYl.out, ← M10.out.eq, List.length_map])
          rw [HPl.out] at A6 ⊢
          have HZ2 := hid (show Z2.length = j from by have := congrArg List.length A6.out.p; rw [List.length_map, HPl.out] at this; omega)
          clear M9 hj HZl
          generalize wr = wx at *
          go_wp2
          go_loopw [126] (fun c wr => ∃ (s : Nat), s ≤ j ∧ c = .int .i64 (s : Nat) ∧ Old w6 wr) (fun c _ => j - (intOf c).toNat)
          case atStart => exact ⟨0, Nat.zero_le _, rfl, Old.refl _⟩
          case round =>
            obtain ⟨s, hs, rfl, hU⟩ := hrel
            have HU := hid hU
            clear hU
            by_cases hlt : s < j
            · have hjz : s < Z2.length := by rw [HZ2.out]; exact hlt
              have hjy : s < Y.length := by rw [HYl.out]; exact hlt
              have l2 : (0 : Int) ≤ (s : Int) := by omega
              have l4 : (s : Int) < (j : Int) := by omega
              obtain ⟨g1, c1, q1, -, -, ⟨y0, y1, y2⟩, -⟩ := (A6.out.row.old HU.out).at s hjz
              cases (Value.slice.inj q1).1
              obtain ⟨gy, cy, qy, -, -, ⟨d0, d1, d2⟩, -⟩ := (M10.out.doc.old HU.out).row.at s hjy
              obtain ⟨ey, -, -⟩ := Value.slice.inj qy
              subst ey
              have d3 := (box2 (HU.out.block M10.out.box)).2.1
              rw [HYl.out] at d3
              have HEq := hid (same_at A6.out.p M10.out.eq s hjz hjy)
              have HOz := hid ((A6.out.own _ (List.getElem_mem hjz)).1)
              have HSy := hid ((M10.out.doc.byt _ (List.getElem_mem hjy)).1)
              clear q1 qy
              generalize Z2[s] = x at *
              generalize Y[s] = y at *
              obtain ⟨xf, xt, xa, xc, xL⟩ := x
              obtain ⟨yf, yt, ya, yc, yL⟩ := y
              obtain ⟨e1, e2, e3⟩ := HEq.out
              dsimp only at e1 e2 e3
              subst e1 e2 e3
              clear HEq
              unfold Lt.v at y2 d2 HOz HSy
              dsimp only at y0 y1 y2 d0 d1 d2 HOz HSy
              go_upto_region 31 with (fail)
              have HS9 := hid (And.intro (And.intro y0 (And.intro y1 y2)) (And.intro (And.intro d0 (And.intro d1 d2)) d3))
              have HOf9 := hid (fun (W : World) (u : Old wr W) => rof_any xf xt xa xL.length xc W)
              have HSm9 := hid (fun (W : World) (u : Old wr W) => rsame_any xf xt xa ya xc yc xL W ((HOz.out.old (HU.out.trans u)).row) ((HSy.out.old (HU.out.trans u)).row (M10.out.net.base.trans (HU.out.trans u))))
              clear y0 y1 y2 d0 d1 d2 d3
              refine wp_region_noPanic ?_
              refine wp_region_held_drew (S := fun wz => (wz.cell? ⟨go2, s * 3, none⟩ = some (.int .i64 xf) ∧ wz.cell? ⟨go2, s * 3 + 1, none⟩ = some (.int .i64 xt) ∧ wz.cell? ⟨go2, s * 3 + 2, none⟩ = some (.slice xa xL.length xc)) ∧ (wz.cell? ⟨gy, s * 3, none⟩ = some (.int .i64 xf) ∧ wz.cell? ⟨gy, s * 3 + 1, none⟩ = some (.int .i64 xt) ∧ wz.cell? ⟨gy, s * 3 + 2, none⟩ = some (.slice ya xL.length yc)) ∧ wz.cell? ⟨bm, 1, none⟩ = some (.slice (some ⟨gy, 0, none⟩) j cp)) (by kernel_rfl) ?_ (fun hHeld => ?_)
              · exact T8.old ((Old.refl _).drew) HS9.out
              (try simp only [Act.put]); (try simp only [List.setIfInBounds_toArray]); (try simp only [List.set_cons_succ]); (try simp only [List.set_cons_zero])
              clear hHeld
              refine tkA (i := 0) (oi := { dst := some 129, op := Op.move (Operand.tmp 17), type := 38, pos := "law.go:78", after := #[], guard := none }) (T8.old ((Old.refl wr).drew) HS9.out) ?_
              try simp only [Act.put, puA, puB, puC]
              refine tkA (i := 1) (oi := { dst := some 130, op := Op.move (Operand.tmp 18), type := 3, pos := "law.go:78", after := #[], guard := none }) (T8.old ((Old.refl wr).drew) HS9.out) ?_
              try simp only [Act.put, puA, puB, puC]
              refine tkA (i := 2) (oi := { dst := some 131, op := Op.indexAddr 38 (Operand.tmp 129) (Operand.tmp 130), type := 0, pos := "law.go:78", after := #[{ on := 0, ground := Ground.data }, { on := 1, ground := Ground.data }], guard := none }) (T8.old ((Old.refl wr).drew) HS9.out) ?_
              try simp only [Act.put, puA, puB, puC]
              refine tkA (i := 3) (oi := { dst := some 132, op := Op.load 30 (Operand.tmp 131), type := 30, pos := "law.go:78", after := #[{ on := 2, ground := Ground.data }], guard := none }) (T8.old ((Old.refl wr).drew) HS9.out) ?_
              try simp only [Act.put, puA, puB, puC]
              refine tkA (i := 5) (oi := { dst := some 134, op := Op.fieldAddr 46 (Operand.tmp 6) 1, type := 0, pos := "law.go:78", after := #[], guard := none }) (T8.old ((Old.refl wr).drew) HS9.out) ?_
              try simp only [Act.put, puA, puB, puC]
              refine tkA (i := 6) (oi := { dst := some 135, op := Op.load 44 (Operand.tmp 134), type := 44, pos := "law.go:78", after := #[{ on := 5, ground := Ground.data }], guard := none }) (T8.old ((Old.refl wr).drew) HS9.out) ?_
              try simp only [Act.put, puA, puB, puC]
              refine tkA (i := 7) (oi := { dst := some 136, op := Op.move (Operand.tmp 18), type := 3, pos := "law.go:78", after := #[], guard := none }) (T8.old ((Old.refl wr).drew) HS9.out) ?_
              try simp only [Act.put, puA, puB, puC]
              refine tkA (i := 8) (oi := { dst := some 137, op := Op.indexAddr 44 (Operand.tmp 135) (Operand.tmp 136), type := 0, pos := "law.go:78", after := #[{ on := 6, ground := Ground.data }, { on := 7, ground := Ground.data }], guard := none }) (T8.old ((Old.refl wr).drew) HS9.out) ?_
              try simp only [Act.put, puA, puB, puC]
              refine tkA (i := 9) (oi := { dst := some 138, op := Op.load 48 (Operand.tmp 137), type := 48, pos := "law.go:78", after := #[{ on := 8, ground := Ground.data }], guard := none }) (T8.old ((Old.refl wr).drew) HS9.out) ?_
              try simp only [Act.put, puA, puB, puC]
              refine wpAnyH_ready (rs := [4]) (by kernel_rfl) (by simp) ?_
              refine AllReadyH.cons (o := { dst := some 133, op := Op.call { callee := Callee.value (Operand.func 17), args := #[Operand.tmp 132], argTypes := #[30] }, type := 48, pos := "law.go:78", after := #[{ on := 3, ground := Ground.data }], guard := none }) rfl (fun K hK => ?_) AllReadyH.nil
              refine wantCall1 ?_ 17 (.tmp 132) #[30] ?_ (.agg #[.int .i64 xf, .int .i64 xt, .slice xa xL.length xc]) ?_ ?_ ((enters_of Try.func17 (by kernel_rfl) rfl) _ _) ?_
              · rfl
              · rfl
              · rfl
              · rfl
              refine (HOf9.out _ ((Old.refl wr).drew)).mono ?_
              rintro o x130 ⟨rfl, b130⟩
              refine ⟨_, rfl, ?_⟩
              have U130 := ((Old.refl wr).drew).trans b130
              refine hK.out _ _ (T8.old U130 HS9.out) (fun _ => ?_)
              clear hK K
              (try simp only [Act.put]); (try simp only [List.setIfInBounds_toArray]); (try simp only [List.set_cons_succ]); (try simp only [List.set_cons_zero])
              refine wpAnyH_ready (rs := [10]) (by kernel_rfl) (by simp) ?_
              refine AllReadyH.cons (o := { dst := some 139, op := Op.call { callee := Callee.value (Operand.func 18), args := #[Operand.tmp 133, Operand.tmp 138], argTypes := #[48, 48] }, type := 4, pos := "law.go:78", after := #[{ on := 4, ground := Ground.data }, { on := 9, ground := Ground.data }, { on := 4, ground := Ground.chain }], guard := none }) rfl (fun K hK => ?_) AllReadyH.nil
              refine wantCall2 ?_ 18 (.tmp 133) (.tmp 138) #[48, 48] ?_ (.agg #[.int .i64 xf, .int .i64 xt, .slice xa xL.length xc]) (.agg #[.int .i64 xf, .int .i64 xt, .slice ya xL.length yc]) ?_ ?_ ?_ ((enters_of Try.func18 (by kernel_rfl) rfl) _ _) ?_
              · rfl
              · rfl
              · rfl
              · rfl
              · rfl
              refine (HSm9.out _ U130).mono ?_
              rintro o x131 ⟨rfl, b131⟩
              refine ⟨_, rfl, ?_⟩
              have U131 := U130.trans b131
              refine hK.out _ _ (T8.old U131 HS9.out) (fun _ => ?_)
              clear hK K
              (try simp only [Act.put]); (try simp only [List.setIfInBounds_toArray]); (try simp only [List.set_cons_succ]); (try simp only [List.set_cons_zero])
              refine tkA (i := 11) (oi := { dst := some 140, op := Op.unOp UnOp.not 4 (Operand.tmp 139), type := 4, pos := "law.go:78", after := #[{ on := 10, ground := Ground.data }], guard := none }) (T8.old U131 HS9.out) ?_
              try simp only [Act.put, puA, puB, puC]
              refine wpAnyH_done (by kernel_rfl) ?_ _
              refine NoPanic.normal ?_
              have UY := hid U131
              go_wp2
              go_roundw
              case rel => exact ⟨s + 1, hlt, by go_num, HU.out.trans UY.out⟩
              case measure => simp [intOf]; omega
            · obtain rfl : s = j := by omega
              have l4 : ¬ (s : Int) < (s : Int) := by omega
              have d3 := (box2 (HU.out.block M10.out.box)).2.1
              rw [HYl.out] at d3
              go_wp2
              go_ret
              exact ⟨rfl, M10.out.net.base.trans HU.out⟩
end Go.Proofs.Ytejeihbcakojeaa
