/- The document's DropTo of layer 16 at every log; conditions: it lies in memory. -/
import Derived.Test.YtgpfmohaogppiaaRl26
namespace Go.Proofs.Ytgpfmohaogppiaa
open Go.RowKit Go.Lib
set_option linter.unusedVariables false
set_option linter.unusedSimpArgs false
set_option maxRecDepth 20000
theorem infoLg : (Try.prog.info? 54).map (·.size) = some 5 := by kernel_rfl
theorem stepStoreLg {ops : Array Oper} {o : Oper} {a : Act} {w : World} {K : Act → World → Prop} {Q : Exit → Act → World → Prop} {E : Prop} (hg : o.guard = none) (x y : Operand) (hop : o.op = Op.store 54 x y) (m : Nat) (v1 v2 v3 v4 v5 : Value)
    (hx : a.eval x = .pointer (some ⟨m, 0, none⟩)) (hy : a.eval y = .agg #[v1, v2, v3, v4, v5]) (ht : w.there m 0 5) (h1 : (v1.oneCell' && v2.oneCell' && v3.oneCell' && v4.oneCell' && v5.oneCell') = true)
    (hK : K (a.put o.dst undef) (w.setCells m 0 [v1, v2, v3, v4, v5])) :
    if Region.wanted o (yielded ops a.tmps) = true then Oper.wp Try.prog o a w K Q else E := by
  have hw : Region.wanted o (yielded ops a.tmps) = true := by simp [Region.wanted, hg]
  rw [if_pos hw]
  simp only [Bool.and_eq_true] at h1
  exact wp_store_mid _ x y hop m 0 _ hx hy ht infoLg (by simp [h1]) hK
theorem there5 {w : World} {b : Nat} {x y z u v : Value} {T : TypeId} (h : w.heap[b]? = some (.cells #[x, y, z, u, v] T (0, 0))) : w.there b 0 5 := fun j hj => by
  obtain ⟨⟨c0, c1, c2, c3, c4⟩, f0, f1, f2, f3, f4⟩ := box5 h
  rw [Nat.zero_add]
  match j, hj with
  | 0, _ => exact ⟨by rw [c0]; rfl, f0⟩
  | 1, _ => exact ⟨by rw [c1]; rfl, f1⟩
  | 2, _ => exact ⟨by rw [c2]; rfl, f2⟩
  | 3, _ => exact ⟨by rw [c3]; rfl, f3⟩
  | 4, _ => exact ⟨by rw [c4]; rfl, f4⟩
theorem blk5_set {w : World} {b : Nat} {x y z u v p q r s t : Value} {T : TypeId} (h : w.heap[b]? = some (.cells #[x, y, z, u, v] T (0, 0))) : (w.setCells b 0 [p, q, r, s, t]).heap[b]? = some (.cells #[p, q, r, s, t] T (0, 0)) := box5_set h
theorem Chg.setL5 {S : List Nat} (w : World) (b : Nat) (hb : b ∈ S) : ∀ (vs : List Value) (o : Nat) {w2 : World}, Chg S w w2 → Chg S w (w2.setCells b o vs)
  | [], _, _, h => h
  | v :: r, o, _, h => by rw [World.setCells]; exact Chg.setL5 w b hb r (o + 1) (h.trans (Chg.set (S := S) _ ⟨b, o, none⟩ v hb))
abbrev S6 (b : Nat) (x y z u v : Value) (m : Nat) (p q : Value) : World → Prop := fun w => (w.cell? ⟨b, 0, none⟩ = some x ∧ w.cell? ⟨b, 1, none⟩ = some y ∧ w.cell? ⟨b, 2, none⟩ = some z ∧ w.cell? ⟨b, 3, none⟩ = some u ∧ w.cell? ⟨b, 4, none⟩ = some v) ∧ w.cell? ⟨m, 0, none⟩ = some p ∧ w.cell? ⟨m, 1, none⟩ = some q
theorem S6.old {b : Nat} {x y z u v : Value} {m : Nat} {p q : Value} {w w' : World} (o : Old w w') (h : S6 b x y z u v m p q w) : S6 b x y z u v m p q w' := ⟨⟨o.keep h.1.1, o.keep h.1.2.1, o.keep h.1.2.2.1, o.keep h.1.2.2.2.1, o.keep h.1.2.2.2.2⟩, o.keep h.2.1, o.keep h.2.2⟩
theorem S6.setC {b : Nat} {x y z u v : Value} {m : Nat} {p q : Value} {w : World} (h : S6 b x y z u v m p q w) (e : Nat) (vs : List Value) (h1 : b ≠ e) (h2 : m ≠ e) : S6 b x y z u v m p q (w.setCells e 0 vs) := by
  have k1 : ∀ i, (w.setCells e 0 vs).cell? ⟨b, i, none⟩ = w.cell? ⟨b, i, none⟩ := fun i => World.cell?_setCells_out e vs 0 w ⟨b, i, none⟩ (fun q => absurd q h1)
  have k2 : ∀ i, (w.setCells e 0 vs).cell? ⟨m, i, none⟩ = w.cell? ⟨m, i, none⟩ := fun i => World.cell?_setCells_out e vs 0 w ⟨m, i, none⟩ (fun q => absurd q h2)
  exact ⟨⟨(k1 0).trans h.1.1, (k1 1).trans h.1.2.1, (k1 2).trans h.1.2.2.1, (k1 3).trans h.1.2.2.2.1, (k1 4).trans h.1.2.2.2.2⟩, (k2 0).trans h.2.1, (k2 1).trans h.2.2⟩
theorem fr_keep {w3 w5 W : World} {b : Nat} {a a0 : List Int} {t q : Option Addr} {z c : Nat} (f : Fr w3 a a0 t q z c) (h5 : NRowL w5 (.slice t a.length z) a.length (gI a)) (hW : NRowL W (.slice q a0.length c) a0.length (gI a0)) (ch : Chg [b] w5 W) (hb : b < w3.heap.size) : NRowL W (.slice t a.length z) a.length (gI a) := by
  rcases f with ⟨rfl, rfl, rfl⟩ | f
  · exact hW
  · exact h5.chg ch (fun g e q => by have := f _ g e; simp at q; omega)
theorem drp_conf {P : PL} {f : Int} (h : drpB P f = true) : drpP P f = ⟨f, tmP P f, P.es.drop (drpN P f), (cfA P f).2.1, (cfA P f).2.2⟩ := by
  unfold drpP
  rw [if_pos h]
  unfold tmP cfA
  rw [if_pos h]
  have e : cN P f = drpN P f := by unfold drpB at h; simp at h; unfold cN drpN; omega
  rw [e]
  rfl
set_option maxHeartbeats 8000000 in
set_option maxRecDepth 20000 in
theorem rDrop_any (P : PL) (D : Dg) (f : Int) (w : World) (h : DocP P D w) :
    Calls Try.prog 27 #[DV P D, .int .i64 f] w fun e w' => RPost (drpP P f) (drpV P f) P D [] w e w' := by
  have HD := hid h
  have HTm := hid (fun (W : World) (u : Old w W) => rTerm_any P D f W (h.old u))
  have HCf := hid (fun (W : World) (u : Old w W) => rConfAt_any P D f W (h.old u))
  have HL := hid (fun (W : World) (u : Old w W) => rLast_any P D W (h.old u))
  have HPt := hid (fun (W : World) (u : Old w W) => rPart_any P D (f + 1) (lI P) W (h.old u))
  have HFr := hid (fun (v : Value) (hv : ∀ g, v.ownBlock = some g → w.heap.size + 2 ≤ g) => far_new (h.e.2.2) (ptL_mem (f := f + 1) (t := lI P) (A := D.X)) hv)
  have HB := hid (show lI P ≤ 1099511627776 ∧ lI P = P.ix + P.es.length ∧ 0 ≤ P.ix from ⟨(Fol.last _ _ _ h.ok.fol h.ok.i1 h.ok.t0 h.ok.t1).1, Fol.len _ _ _ h.ok.fol, h.ok.i0⟩)
  have HMem := hid (show ∀ x ∈ ptL (f + 1) (lI P) D.X, x ∈ D.X from fun x hx => ptL_mem hx)
  have HPd := hid (fun (hb : drpB P f = true) => show pls (ptL (f + 1) (lI P) D.X) = P.es.drop (drpN P f) from by rw [ptL_pls, h.x, pt_drop h.ok f hb])
  have HOk := hid (drpP_ok h.ok f)
  have HDc := hid (drp_conf (P := P) (f := f))
  unfold CfPost at HCf
  unfold RPost
  unfold DV Dg.v1 Dg.v2 Dg.ve at HTm HCf HL HPt ⊢
  obtain ⟨q1, c1, q2, c2, q, c, X⟩ := D
  dsimp only at HTm HCf HL HPt HFr HPd HMem ⊢
  obtain ⟨n1, hn1⟩ : ∃ n1, P.a.length = n1 := ⟨_, rfl⟩
  obtain ⟨n2, hn2⟩ : ∃ n2, P.b.length = n2 := ⟨_, rfl⟩
  obtain ⟨n, hn⟩ : ∃ n, X.length = n := ⟨_, rfl⟩
  obtain ⟨pix, hpx⟩ : ∃ pix, P.ix = pix := ⟨_, rfl⟩
  obtain ⟨ptm, hpt⟩ : ∃ ptm, P.tm = ptm := ⟨_, rfl⟩
  have HN := hid (And.intro hn1 (And.intro hn2 (And.intro hn (And.intro hpx hpt))))
  rw [hn1, hn2, hn, hpx, hpt] at HTm HCf HL HPt
  conv => arg 3; rw [hn1, hn2, hn, hpx, hpt]
  clear hn1 hn2 hn hpx hpt h
  by_cases hb : drpB P f = true
  · have e2 : drpV P f = 0 := if_pos hb
    have hf1 : 0 ≤ f := by have := HB.out; unfold drpB at hb; simp at hb; omega
    have hf2 : f ≤ 1099511627776 := by have := HB.out; unfold drpB at hb; simp at hb; omega
    have HDe := hid (HDc.out hb)
    have HPe := hid (HPd.out hb)
    have HOk2 := hid (show PLok ⟨f, tmP P f, P.es.drop (drpN P f), (cfA P f).2.1, (cfA P f).2.2⟩ from by rw [← HDe.out]; exact HOk.out)
    rw [HDe.out, e2]
    rw [hb] at HTm
    clear HDc HPd HOk HDe e2 hb
    generalize cfA P f = C at *
    generalize tmP P f = tv at *
    obtain ⟨li, hli⟩ : ∃ li, lI P = li := ⟨_, rfl⟩
    rw [hli] at HL HPt HFr HPe HMem
    clear hli HB
    generalize lT P = lt at *
    generalize P.es.drop (drpN P f) = ES at *
    obtain ⟨Y, hY⟩ : ∃ Y, ptL (f + 1) li X = Y := ⟨_, rfl⟩
    rw [hY] at HPt HFr HPe HMem
    clear hY
    obtain ⟨yn, hyn⟩ : ∃ yn, Y.length = yn := ⟨_, rfl⟩
    have HYN := hid hyn
    rw [hyn] at HPt
    clear hyn
    rw [show f + 1 = IntKind.i64.wrap (f + 1) from (IntWalk.i64_in _ (by omega)).symm] at HPt
    go_enter Try.func27, Try.ntmps27
    go_upto_region 1 with (fail)
    have U0 := hid (((Old.refl w).alloc (.cells #[.int .i64 pix, .int .i64 ptm, .slice q1 n1 c1, .slice q2 n2 c2, .slice q n c] 54)).alloc (.cells #[.int .i64 0, .int .i64 0, .slice none 0 0, .slice none 0 0, .slice none 0 0] 54))
    have B2 := hid (((Old.refl _).alloc (.cells #[.int .i64 0, .int .i64 0, .slice none 0 0, .slice none 0 0, .slice none 0 0] 54)).block (alloc_at w (.cells #[.int .i64 pix, .int .i64 ptm, .slice q1 n1 c1, .slice q2 n2 c2, .slice q n c] 54)))
    have B4 := hid (show ((w.alloc (.cells #[.int .i64 pix, .int .i64 ptm, .slice q1 n1 c1, .slice q2 n2 c2, .slice q n c] 54)).alloc (.cells #[.int .i64 0, .int .i64 0, .slice none 0 0, .slice none 0 0, .slice none 0 0] 54)).heap[w.heap.size + 1]? = some (.cells #[.int .i64 0, .int .i64 0, .slice none 0 0, .slice none 0 0, .slice none 0 0] 54) from by have := alloc_at (w.alloc (.cells #[.int .i64 pix, .int .i64 ptm, .slice q1 n1 c1, .slice q2 n2 c2, .slice q n c] 54)) (.cells #[.int .i64 0, .int .i64 0, .slice none 0 0, .slice none 0 0, .slice none 0 0] 54); simpa using this)
    have S0 := hid (show ((w.alloc (.cells #[.int .i64 pix, .int .i64 ptm, .slice q1 n1 c1, .slice q2 n2 c2, .slice q n c] 54)).alloc (.cells #[.int .i64 0, .int .i64 0, .slice none 0 0, .slice none 0 0, .slice none 0 0] 54)).heap.size = w.heap.size + 2 from by simp)
    generalize (w.alloc (.cells #[.int .i64 pix, .int .i64 ptm, .slice q1 n1 c1, .slice q2 n2 c2, .slice q n c] 54)).alloc (.cells #[.int .i64 0, .int .i64 0, .slice none 0 0, .slice none 0 0, .slice none 0 0] 54) = w0 at *
    obtain ⟨bx, hbx⟩ : ∃ bx, w.heap.size = bx := ⟨_, rfl⟩
    have HBX := hid hbx
    rw [hbx] at B2 B4 S0 HFr ⊢
    clear hbx
    obtain ⟨⟨a0, a1, a2, a3, a4⟩, -⟩ := box5 B2.out
    go_upto_region 4 with (go_at_call 40; refine (HTm.out _ U0.out).mono ?_; rintro e w2 ⟨rfl, o2⟩; have O2 := hid (U0.out.trans o2); have C2 := hid (o2.block B2.out); have C4 := hid (o2.block B4.out); have S2 := hid (show bx + 2 ≤ w2.heap.size from by have := o2.size; have := S0.out; omega); clear o2 a0 a1 a2 a3 a4; obtain ⟨⟨a0, a1, a2, a3, a4⟩, -⟩ := box5 C2.out)
    clear B2 B4 U0 S0 HTm
    go_upto_region 5 with (go_at_call 41; refine (HCf.out _ O2.out).mono ?_; rintro e w3 ⟨t1, t2, z1, z2, rfl, r1, r2, f1, f2, o3⟩; have R1 := hid r1; have R2 := hid r2; have F1 := hid f1; have F2 := hid f2; have O3 := hid o3; clear r1 r2 f1 f2 o3)
    clear HCf a0 a1 a2 a3 a4
    obtain ⟨l1, hl1⟩ : ∃ l1, C.2.1.length = l1 := ⟨_, rfl⟩
    obtain ⟨l2, hl2⟩ : ∃ l2, C.2.2.length = l2 := ⟨_, rfl⟩
    have HLL := hid (And.intro hl1 hl2)
    rw [hl1, hl2]
    clear hl1 hl2
    have A3 := hid ((Old.refl w3).alloc (.cells #[.slice t1 l1 z1, .slice t2 l2 z2] 24))
    have N3 := hid (alloc_at w3 (.cells #[.slice t1 l1 z1, .slice t2 l2 z2] 24))
    generalize w3.alloc (.cells #[.slice t1 l1 z1, .slice t2 l2 z2] 24) = w4 at *
    obtain ⟨nb, hnb⟩ : ∃ nb, w3.heap.size = nb := ⟨_, rfl⟩
    have HNB := hid hnb
    rw [hnb] at N3 ⊢
    clear hnb
    have D2 := hid ((O3.out.trans A3.out).block C2.out)
    have E4 := hid ((O3.out.trans A3.out).block C4.out)
    obtain ⟨⟨a0, a1, a2, a3, a4⟩, -⟩ := box5 D2.out
    go_upto_region 6 with (go_at_call 24; refine (HL.out _ (O2.out.trans (O3.out.trans A3.out))).mono ?_; rintro e w5 ⟨rfl, o5⟩; have O5' := hid (O3.out.trans (A3.out.trans o5)); have HX5 := hid (o5.block D2.out); have D4 := hid (o5.block E4.out); have N5 := hid (o5.block N3.out); have A5 := hid (A3.out.trans o5); clear o5)
    have O5 := hid (O2.out.trans O5'.out)
    have HX6 := hid (show S6 bx (.int .i64 pix) (.int .i64 ptm) (.slice q1 n1 c1) (.slice q2 n2 c2) (.slice q n c) nb (.slice t1 l1 z1) (.slice t2 l2 z2) w5 from ⟨(box5 HX5.out).1, (box2 N5.out).1, (box2 N5.out).2⟩)
    have HNe := hid (show bx ≠ bx + 1 ∧ nb ≠ bx + 1 from ⟨by omega, by have := S2.out; have := O3.out.size; have := HNB.out; omega⟩)
    have S5 := hid (show bx + 2 ≤ w5.heap.size from by have := O5'.out.size; have := S2.out; omega)
    have HFin := hid (show ∀ (W : World) (U : Old w W) (p : Option Addr) (cc : Nat) (x6 : World), (∀ n g, (Value.slice p n cc).ownBlock = some g → w.heap.size ≤ g) → ERow W (.slice p yn cc) Y → Old w5 x6 → Chg [bx + 1] x6 W → ∃ D' : Dg, (Ending.returned (.tuple #[.agg #[.int .i64 f, .int .i64 tv, .slice t1 l1 z1, .slice t2 l2 z2, .slice p yn cc], .int .i64 0]) = Ending.returned (.tuple #[DV ⟨f, tv, ES, C.2.1, C.2.2⟩ D', .int .i64 0])) ∧ DocP ⟨f, tv, ES, C.2.1, C.2.2⟩ D' W ∧ Old w W ∧ Keeps P ⟨f, tv, ES, C.2.1, C.2.2⟩ ⟨q1, c1, q2, c2, q, c, X⟩ D' [] w from fun W U p cc x6 hnew r o6 ch => by
      refine ⟨⟨t1, z1, t2, z2, p, cc, Y⟩, ?_, ⟨?_, HPe.out, ?_, ?_, HOk2.out⟩, U, ⟨.inr hnew, fun x hx => .inl (HMem.out x hx), F1.out.mono (by have := S2.out; have := HBX.out; omega), F2.out.mono (by have := S2.out; have := HBX.out; omega)⟩⟩
      · unfold DV Dg.v1 Dg.v2 Dg.ve; dsimp only; rw [HLL.out.1, HLL.out.2, HYN.out]
      · show ERow W (.slice p Y.length cc) Y; rw [HYN.out]; exact r
      · exact fr_keep F1.out (R1.out.old (A5.out.trans o6)) (HD.out.a.old U) ch (by have := S2.out; omega)
      · exact fr_keep F2.out (R2.out.old (A5.out.trans o6)) (HD.out.b.old U) ch (by have := S2.out; omega))
    clear a0 a1 a2 a3 a4 HL HX5 N3 N5 D2 C2 C4 E4 R1 R2 F1 F2
    unfold DV Dg.v1 Dg.v2 Dg.ve at HFin
    refine wp_region_noPanic ?_
    refine wp_region_held_drew (S := S6 bx (.int .i64 pix) (.int .i64 ptm) (.slice q1 n1 c1) (.slice q2 n2 c2) (.slice q n c) nb (.slice t1 l1 z1) (.slice t2 l2 z2)) (by kernel_rfl) ?_ (fun hHeld => ?_)
    · exact S6.old ((Old.refl w5).drew) HX6.out
    (try simp only [Act.put]); (try simp only [List.setIfInBounds_toArray]); (try simp only [List.set_cons_succ]); (try simp only [List.set_cons_zero])
    clear hHeld
    refine wpAnyH_take (i := 0) (oi := { dst := some 32, op := Op.move (Operand.tmp 1), type := 2, pos := "ref.go:141", after := #[], guard := none }) (v := ?vk11) rfl (by kernel_rfl) (by kernel_rfl) (by kernel_rfl) (fun _ _ _ h => h) (Or.inl ⟨by rfl, ?hk11⟩) (S6.old ((Old.refl w5).drew) HX6.out) ?rk11
    case hk11 => (intro wz hSw; (try dsimp only at hSw); go_simp; try with_reducible rfl)
    (try simp only [Act.put]); (try simp only [List.setIfInBounds_toArray]); (try simp only [List.set_cons_succ]); (try simp only [List.set_cons_zero])
    refine wpAnyH_take (i := 1) (oi := { dst := some 33, op := Op.move (Operand.tmp 6), type := 2, pos := "ref.go:141", after := #[], guard := none }) (v := ?vk12) rfl (by kernel_rfl) (by kernel_rfl) (by kernel_rfl) (fun _ _ _ h => h) (Or.inl ⟨by rfl, ?hk12⟩) (S6.old ((Old.refl w5).drew) HX6.out) ?rk12
    case hk12 => (intro wz hSw; (try dsimp only at hSw); go_simp; try with_reducible rfl)
    (try simp only [Act.put]); (try simp only [List.setIfInBounds_toArray]); (try simp only [List.set_cons_succ]); (try simp only [List.set_cons_zero])
    refine wpAnyH_take (i := 2) (oi := { dst := some 34, op := Op.load 24 (Operand.tmp 8), type := 24, pos := "ref.go:141", after := #[], guard := none }) (v := ?vk13) rfl (by kernel_rfl) (by kernel_rfl) (by kernel_rfl) (fun _ _ _ h => h) (Or.inl ⟨by rfl, ?hk13⟩) (S6.old ((Old.refl w5).drew) HX6.out) ?rk13
    case hk13 => (intro wz hSw; (try dsimp only at hSw); go_simp; try with_reducible rfl)
    (try simp only [Act.put]); (try simp only [List.setIfInBounds_toArray]); (try simp only [List.set_cons_succ]); (try simp only [List.set_cons_zero])
    refine wpAnyH_take (i := 3) (oi := { dst := some 35, op := Op.load 54 (Operand.tmp 2), type := 54, pos := "ref.go:141", after := #[], guard := none }) (v := ?vk14) rfl (by kernel_rfl) (by kernel_rfl) (by kernel_rfl) (fun _ _ _ h => h) (Or.inl ⟨by rfl, ?hk14⟩) (S6.old ((Old.refl w5).drew) HX6.out) ?rk14
    case hk14 => (intro wz hSw; (try dsimp only at hSw); go_simp; try with_reducible rfl)
    (try simp only [Act.put]); (try simp only [List.setIfInBounds_toArray]); (try simp only [List.set_cons_succ]); (try simp only [List.set_cons_zero])
    refine wpAnyH_take (i := 4) (oi := { dst := some 36, op := Op.move (Operand.tmp 1), type := 2, pos := "ref.go:141", after := #[], guard := none }) (v := ?vk15) rfl (by kernel_rfl) (by kernel_rfl) (by kernel_rfl) (fun _ _ _ h => h) (Or.inl ⟨by rfl, ?hk15⟩) (S6.old ((Old.refl w5).drew) HX6.out) ?rk15
    case hk15 => (intro wz hSw; (try dsimp only at hSw); go_simp; try with_reducible rfl)
    (try simp only [Act.put]); (try simp only [List.setIfInBounds_toArray]); (try simp only [List.set_cons_succ]); (try simp only [List.set_cons_zero])
    refine wpAnyH_take (i := 5) (oi := { dst := some 37, op := Op.binOp BinOp.add 2 (Operand.tmp 36) (Operand.const (Value.int IntKind.i64 1)) 2, type := 2, pos := "ref.go:141", after := #[{ on := 4, ground := Ground.data }], guard := none }) (v := ?vk16) rfl (by kernel_rfl) (by kernel_rfl) (by kernel_rfl) (fun _ _ _ h => h) (Or.inl ⟨by rfl, ?hk16⟩) (S6.old ((Old.refl w5).drew) HX6.out) ?rk16
    case hk16 => (intro wz hSw; (try dsimp only at hSw); go_simp; try with_reducible rfl)
    (try simp only [Act.put]); (try simp only [List.setIfInBounds_toArray]); (try simp only [List.set_cons_succ]); (try simp only [List.set_cons_zero])
    refine wpAnyH_take (i := 6) (oi := { dst := some 38, op := Op.move (Operand.tmp 10), type := 2, pos := "ref.go:141", after := #[], guard := none }) (v := ?vk17) rfl (by kernel_rfl) (by kernel_rfl) (by kernel_rfl) (fun _ _ _ h => h) (Or.inl ⟨by rfl, ?hk17⟩) (S6.old ((Old.refl w5).drew) HX6.out) ?rk17
    case hk17 => (intro wz hSw; (try dsimp only at hSw); go_simp; try with_reducible rfl)
    (try simp only [Act.put]); (try simp only [List.setIfInBounds_toArray]); (try simp only [List.set_cons_succ]); (try simp only [List.set_cons_zero])
    refine wpAnyH_ready (rs := [7]) (by kernel_rfl) (by simp) ?_
    refine AllReadyH.cons (o := { dst := some 39, op := Op.call { callee := Callee.value (Operand.func 39), args := #[Operand.tmp 35, Operand.tmp 37, Operand.tmp 38], argTypes := #[54, 2, 2] }, type := 29, pos := "ref.go:141", after := #[{ on := 3, ground := Ground.data }, { on := 5, ground := Ground.data }, { on := 6, ground := Ground.data }], guard := none }) rfl (fun K hK => ?_) AllReadyH.nil
    · skip
      refine wantCall3 ?_ 39 (.tmp 35) (.tmp 37) (.tmp 38) #[54, 2, 2] ?_ (.agg #[.int .i64 pix, .int .i64 ptm, .slice q1 n1 c1, .slice q2 n2 c2, .slice q n c]) (.int .i64 (IntKind.i64.wrap (f + 1))) (.int .i64 li) ?_ ?_ ?_ ?_ (enters_of Try.func39 (by kernel_rfl) rfl _ _) ?_
      · rfl
      · rfl
      · rfl
      · rfl
      · rfl
      · rfl
      refine (HPt.out _ (O5.out.trans ((Old.refl w5).drew))).mono ?_
      rintro o x18 ⟨p, cc, rfl, r18, b18⟩
      refine ⟨_, rfl, ?_⟩
      have U18 := ((Old.refl w5).drew).trans b18
      have R18 := hid r18
      have Z18 := hid ((Old.refl w5).drew).size
      refine hK.out _ _ (S6.old U18 HX6.out) (fun _ => ?_)
      clear hK K
      (try simp only [Act.put]); (try simp only [List.setIfInBounds_toArray]); (try simp only [List.set_cons_succ]); (try simp only [List.set_cons_zero])
      refine wpAnyH_take (i := 8) (oi := { dst := some 40, op := Op.build 54 #[(0, Operand.tmp 32), (1, Operand.tmp 33), (2, Operand.tmp 34), (3, Operand.tmp 39)], type := 54, pos := "ref.go:141", after := #[{ on := 0, ground := Ground.data }, { on := 1, ground := Ground.data }, { on := 2, ground := Ground.data }, { on := 7, ground := Ground.data }], guard := none }) (v := ?vk19) rfl (by kernel_rfl) (by kernel_rfl) (by kernel_rfl) (fun _ _ _ h => h) (Or.inl ⟨by rfl, ?hk19⟩) (S6.old U18 HX6.out) ?rk19
      case hk19 => (intro wz hSw; (try dsimp only at hSw); go_simp; try with_reducible rfl)
      (try simp only [Act.put]); (try simp only [List.setIfInBounds_toArray]); (try simp only [List.set_cons_succ]); (try simp only [List.set_cons_zero])
      refine wpAnyH_ready (rs := [9]) (by kernel_rfl) (by simp) ?_
      refine AllReadyH.cons (o := { dst := none, op := Op.store 54 (Operand.tmp 4) (Operand.tmp 40), type := 0, pos := "ref.go:141", after := #[{ on := 8, ground := Ground.data }, { on := 7, ground := Ground.chain }, { on := 0, ground := Ground.phase }, { on := 1, ground := Ground.phase }, { on := 2, ground := Ground.phase }, { on := 3, ground := Ground.phase }, { on := 4, ground := Ground.phase }, { on := 5, ground := Ground.phase }, { on := 6, ground := Ground.phase }, { on := 7, ground := Ground.phase }, { on := 8, ground := Ground.phase }], guard := none }) rfl (fun K hK => ?_) AllReadyH.nil
      · skip
        have T20 := hid (U18.block D4.out)
        refine stepStoreLg ?_ (.tmp 4) (.tmp 40) ?_ (bx + 1) (.int .i64 f) (.int .i64 tv) (.slice t1 l1 z1) (.slice t2 l2 z2) (.slice p yn cc) ?_ ?_ (there5 T20.out) rfl ?_
        · rfl
        · rfl
        · rfl
        · rfl
        have X20 := hid (blk5_set (p := .int .i64 f) (q := .int .i64 tv) (r := .slice t1 l1 z1) (s := .slice t2 l2 z2) (t := .slice p yn cc) T20.out)
        have P20 := hid U18
        have S20 := S6.setC (S6.old U18 HX6.out) (bx + 1) [.int .i64 f, .int .i64 tv, .slice t1 l1 z1, .slice t2 l2 z2, .slice p yn cc] HNe.out.1 HNe.out.2
        refine hK.out _ _ S20 (fun _ => ?_)
        clear hK K
        (try simp only [Act.put]); (try simp only [List.setIfInBounds_toArray]); (try simp only [List.set_cons_succ]); (try simp only [List.set_cons_zero])
        refine wpAnyH_ready (rs := [10]) (by kernel_rfl) (by simp) ?_
        refine AllReadyH.cons (o := { dst := some 5, op := Op.assign (Operand.const (Value.int IntKind.i64 0)), type := 3, pos := "ref.go:141", after := #[{ on := 9, ground := Ground.chain }, { on := 0, ground := Ground.phase }, { on := 1, ground := Ground.phase }, { on := 2, ground := Ground.phase }, { on := 3, ground := Ground.phase }, { on := 4, ground := Ground.phase }, { on := 5, ground := Ground.phase }, { on := 6, ground := Ground.phase }, { on := 7, ground := Ground.phase }, { on := 8, ground := Ground.phase }, { on := 9, ground := Ground.phase }], guard := none }) rfl (fun K hK => ?_) AllReadyH.nil
        · skip
          go_simp
          refine hK.out _ _ S20 (fun _ => ?_)
          clear hK K
          (try simp only [Act.put]); (try simp only [List.setIfInBounds_toArray]); (try simp only [List.set_cons_succ]); (try simp only [List.set_cons_zero])
          refine wpAnyH_done (by kernel_rfl) ?_ _
          refine NoPanic.normal ?_
          obtain ⟨⟨g0, g1, g2, g3, g4⟩, -⟩ := box5 X20.out
          have PU := P20
          have RR := R18
          have ZZ := Z18
          have XX := X20
          go_wp2
          refine bodyPost_ret (v := .tuple #[.agg #[.int .i64 f, .int .i64 tv, .slice t1 l1 z1, .slice t2 l2 z2, .slice p yn cc], .int .i64 0]) (by simp [results, Try.results27, go_sem, g0, g1, g2, g3, g4]) rfl ?_
          have CH := Chg.setL5 (S := [bx + 1]) x18 (bx + 1) (by simp) [.int .i64 f, .int .i64 tv, .slice t1 l1 z1, .slice t2 l2 z2, .slice p yn cc] 0 (Chg.ofOld (S := [bx + 1]) (Old.refl x18))
          have U9 : Old w (x18.setCells (bx + 1) 0 [.int .i64 f, .int .i64 tv, .slice t1 l1 z1, .slice t2 l2 z2, .slice p yn cc]) := Old.setCells (by have := HBX.out; omega) _ 0 (O5.out.trans PU.out)
          have R9 := ERow.chg RR.out.e CH ((HFr.out _ (fun g e => by have := RR.out.n g e; have := S5.out; have := ZZ.out; omega)).2)
          exact HFin.out _ U9 p cc _ (fun n g e => by have := RR.out.n g (by cases p <;> exact e); have := ZZ.out; have := S5.out; have := HBX.out; omega) R9 (PU.out) CH
  · have e1 : drpP P f = P := if_neg hb
    have e2 : drpV P f = 1 := if_neg hb
    have hbf : drpB P f = false := by simpa using hb
    rw [e1, e2]
    rw [hbf] at HTm
    clear e1 e2 HCf HL HPt HFr HB HPd HOk HDc hb hbf
    generalize tmP P f = tv at *
    go_enter Try.func27, Try.ntmps27
    go_upto_region 1 with (fail)
    have U0 := hid (((Old.refl w).alloc (.cells #[.int .i64 pix, .int .i64 ptm, .slice q1 n1 c1, .slice q2 n2 c2, .slice q n c] 54)).alloc (.cells #[.int .i64 0, .int .i64 0, .slice none 0 0, .slice none 0 0, .slice none 0 0] 54))
    have B2 := hid (((Old.refl _).alloc (.cells #[.int .i64 0, .int .i64 0, .slice none 0 0, .slice none 0 0, .slice none 0 0] 54)).block (alloc_at w (.cells #[.int .i64 pix, .int .i64 ptm, .slice q1 n1 c1, .slice q2 n2 c2, .slice q n c] 54)))
    have B4 := hid (show ((w.alloc (.cells #[.int .i64 pix, .int .i64 ptm, .slice q1 n1 c1, .slice q2 n2 c2, .slice q n c] 54)).alloc (.cells #[.int .i64 0, .int .i64 0, .slice none 0 0, .slice none 0 0, .slice none 0 0] 54)).heap[w.heap.size + 1]? = some (.cells #[.int .i64 0, .int .i64 0, .slice none 0 0, .slice none 0 0, .slice none 0 0] 54) from by have := alloc_at (w.alloc (.cells #[.int .i64 pix, .int .i64 ptm, .slice q1 n1 c1, .slice q2 n2 c2, .slice q n c] 54)) (.cells #[.int .i64 0, .int .i64 0, .slice none 0 0, .slice none 0 0, .slice none 0 0] 54); simpa using this)
    generalize (w.alloc (.cells #[.int .i64 pix, .int .i64 ptm, .slice q1 n1 c1, .slice q2 n2 c2, .slice q n c] 54)).alloc (.cells #[.int .i64 0, .int .i64 0, .slice none 0 0, .slice none 0 0, .slice none 0 0] 54) = w0 at *
    obtain ⟨⟨a0, a1, a2, a3, a4⟩, -⟩ := box5 B2.out
    go_upto_region 3 with (go_at_call 40; refine (HTm.out _ U0.out).mono ?_; rintro e w2 ⟨rfl, o2⟩; have O2 := hid (U0.out.trans o2); have C2 := hid (o2.block B2.out); have C4 := hid (o2.block B4.out); clear o2 a0 a1 a2 a3 a4)
    obtain ⟨⟨a0, a1, a2, a3, a4⟩, -⟩ := box5 C2.out
    obtain ⟨⟨z0, z1, z2, z3, z4⟩, f0, f1, f2, f3, f4⟩ := box5 C4.out
    have B5 := hid (box5_set (p := .int .i64 pix) (q := .int .i64 ptm) (r := .slice q1 n1 c1) (s := .slice q2 n2 c2) (t := .slice q n c) C4.out)
    go_wp2
    obtain ⟨⟨g0, g1, g2, g3, g4⟩, -⟩ := box5 B5.out
    refine bodyPost_ret (v := .tuple #[.agg #[.int .i64 pix, .int .i64 ptm, .slice q1 n1 c1, .slice q2 n2 c2, .slice q n c], .int .i64 1]) (by simp [results, Try.results27, go_sem, g0, g1, g2, g3, g4]) rfl ?_
    have U9 := O2.out.set5 (b := w.heap.size + 1) (p := .int .i64 pix) (q := .int .i64 ptm) (r := .slice q1 n1 c1) (s := .slice q2 n2 c2) (t := .slice q n c) (Nat.le_succ _)
    exact ⟨⟨q1, c1, q2, c2, q, c, X⟩, by dsimp only; (try rw [HN.out.1]); (try rw [HN.out.2.1]); (try rw [HN.out.2.2.1]); (try rw [HN.out.2.2.2.1]); (try rw [HN.out.2.2.2.2]), HD.out.old U9, U9, Keeps.same _ _ _ _⟩
end Go.Proofs.Ytgpfmohaogppiaa
