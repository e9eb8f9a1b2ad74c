/- The law RlogDrops, walked; conditions: its arguments lie in memory. -/
import Derived.Test.YtgpfmohaogppiaaRl19
namespace Go.Proofs.Ytgpfmohaogppiaa
open Go.RowKit Go.Lib
set_option linter.unusedVariables false
set_option linter.unusedSimpArgs false
set_option maxRecDepth 20000
theorem OwnOff.mono {base b' : Nat} {e : TypeId} {size : Nat} {w : World} {v : Value} {n : Nat} {xs : List Value} (h : OwnOff base e size w v n xs) (hb : b' ≤ base) : OwnOff b' e size w v n xs := by
  refine ⟨h.1, ?_⟩
  rcases h.2 with q | ⟨g, off, cap, cur, rfl, h2, r⟩
  · exact .inl q
  · exact .inr ⟨g, off, cap, cur, rfl, by omega, r⟩
theorem LogM.mono {base b' lb : Nat} {G : Lg} {w : World} (h : LogM base lb G w) (hb : b' ≤ base) : LogM b' lb G w := ⟨h.bx, Nat.le_trans hb h.bb, h.oe.mono hb, h.oc.mono hb, h.de, h.dc⟩
theorem LogP.mono {base b' lb : Nat} {G : Lg} {P : PL} {w : World} (h : LogP base lb G P w) (hb : b' ≤ base) : LogP b' lb G P w := ⟨h.m.mono hb, h.is, h.ok⟩
/-- Two new logs. -/
theorem TwoL.new {w wa wb : World} {lb1 : Nat} {G1 : Lg} {P1 : PL} {lb2 : Nat} {G2 : Lg} {P2 : PL} {w1 : World} (u1 : Old w wa) (h1 : LogP wa.heap.size lb1 G1 P1 w1) (u2 : Old w1 wb) (u0 : Old w w1) {w2 : World} (h2 : LogP wb.heap.size lb2 G2 P2 w2) (u3 : Old wb w2) : TwoL w lb1 G1 P1 lb2 G2 P2 w2 := by
  refine ⟨(h1.mono u1.size).old (u2.trans u3), h2.mono (Nat.le_trans u0.size u2.size), fun k hk hk2 => ?_, (u0.trans u2).trans u3⟩
  have := (h1.m.lt k hk).2
  have := (h2.m.lt k hk2).1
  have := u2.size
  omega
/-- One entry as a row. -/
theorem erow_one {w : World} {g : Nat} {x : En} (h : EntIn w g 0 x.e) (hd : Rw w x.s x.d) : ERow w (.slice (some ⟨g, 0, none⟩) 1 1) [x] := by
  refine ⟨by simp, ⟨some ⟨g, 0, none⟩, 1, rfl, by simp, by omega, fun j hj => ⟨g, 0, rfl, ?_⟩⟩, fun y hy => by simp at hy; subst hy; exact hd⟩
  have : j = 0 := by simp at hj; omega
  subst this
  simpa [atE] using h
theorem appF_cases (P : PL) (x : En) : (flt (lI P) (lT P) [x] = 0 ∧ appF P [x] = appP P [x]) ∨ (flt (lI P) (lT P) [x] ≠ 0 ∧ appF P [x] = P) := by
  by_cases h : flt (lI P) (lT P) [x] = 0
  · exact .inl ⟨h, if_pos h⟩
  · exact .inr ⟨h, if_neg h⟩
theorem appF_ix (P : PL) (X : List En) : (appF P X).ix = P.ix := by unfold appF; split <;> rfl
theorem and3 (a : Int) : 0 ≤ bits .and .i64 a 3 ∧ bits .and .i64 a 3 ≤ 3 := by
  obtain ⟨M, h1, h2⟩ := and_mask a 3 (by decide)
  have : bits .and .i64 a 3 = (M : Int) := h2
  omega
theorem and1023 (a : Int) : 0 ≤ bits .and .i64 a 1023 ∧ bits .and .i64 a 1023 ≤ 1023 := by
  obtain ⟨M, h1, h2⟩ := and_mask a 1023 (by decide)
  have : bits .and .i64 a 1023 = (M : Int) := h2
  omega
theorem LogP.small {base lb : Nat} {G : Lg} {P : PL} {w : World} (h : LogP base lb G P w) (n : Nat) : (lastCf (P.ix, P.a, P.b) (cfs (P.es.take n))).2.1.length ≤ 17592186044000 ∧ (lastCf (P.ix, P.a, P.b) (cfs (P.es.take n))).2.2.length ≤ 17592186044000 := by
  obtain ⟨h1, h2⟩ := h.is.at n
  have := h.is.sm _ (atP_mem _ _ h1)
  rw [← h2]
  exact this
theorem LogP.smallL {base lb : Nat} {G : Lg} {P : PL} {w : World} (h : LogP base lb G P w) : (cfL P).2.1.length ≤ 17592186044000 ∧ (cfL P).2.2.length ≤ 17592186044000 := by
  have := h.small P.es.length
  rw [List.take_length] at this
  exact this
theorem ENew.erow {n0 : Nat} {v : Value} {X : List En} {w : World} (h : ENew n0 v X w) (hl : X.length ≤ 2932031007402) : ERow w v X := by
  obtain ⟨ob, e, _, o⟩ := h.o
  refine ⟨hl, ⟨some ⟨ob, 0, none⟩, X.length, e, Nat.le_refl _, by omega, fun j hj => ⟨ob, 0, rfl, ?_⟩⟩, fun x hx => (h.d x hx).1.row⟩
  rw [Nat.zero_add]
  obtain ⟨cur, h1, h2, h3⟩ := o
  obtain ⟨x0, x1, x2, x3⟩ := ecs_at (X.map En.e) j (by simpa using hj)
  rw [← h3, entA_map _ _ hj] at x0 x1 x2 x3
  have key : ∀ i u, (cur.toList.take (X.length * 4))[i]? = some u → w.cell? ⟨ob, i, none⟩ = some u := fun i u hu => by
    rw [Go.Joins.cell_of_block h1]
    have hl := (List.getElem?_eq_some_iff.1 hu).1
    rw [List.length_take] at hl
    rw [List.getElem?_take_of_lt (by omega)] at hu
    simpa using hu
  exact ⟨key _ _ x0, key _ _ x1, key _ _ x2, key _ _ x3⟩
theorem entL_len (P : PL) (a b : Int) : (entL P a b).length ≤ P.es.length := by unfold entL; rw [List.length_take, List.length_drop]; omega
theorem same_own {w : World} {u1 u2 v1 v2 : Value} {a b c d : List Int} (h1 : OwnI 0 w u1 a) (h2 : OwnI 0 w u2 b) (h3 : OwnI 0 w v1 c) (h4 : OwnI 0 w v2 d) (e1 : a = c) (e2 : b = d) (l1 : a.length ≤ 17592186044000) (l2 : b.length ≤ 17592186044000) : Calls Try.prog 19 #[.agg #[u1, u2], .agg #[v1, v2]] w fun e w' => e = .returned (.bool true) ∧ Old w w' := by
  subst e1 e2
  exact same_eq u1 u2 v1 v2 _ _ _ _ w (h1.rowH l1) (h2.rowH l2) (h3.rowH l1) (h4.rowH l2)
set_option maxHeartbeats 16000000 in
set_option maxRecDepth 20000 in
theorem dropsLaw (vs : Value) (X : List En) (tz at_ : Int) (w : World) (hX : ERow w vs X) :
    Calls Try.prog 4 #[vs, .int .i64 tz, .int .i64 at_] w fun e w' => e = .returned (.bool true) ∧ Old w w' := by
  have HE := hid hX
  obtain ⟨hm, ⟨p, c, rfl, hmc, hcm, -⟩, -⟩ := hX
  have hmm : (X.length : Int) ≤ 2932031007402 := by omega
  obtain ⟨m, hmX⟩ : ∃ m, X.length = m := ⟨_, rfl⟩
  have HM := hid hmX
  rw [hmX] at hm hmc hmm HE ⊢
  clear hmX
  have tok1 : True := trivial
  have tok2 : True := trivial
  have HNn := hid (fun (W : World) (b1 : Nat) (r : NRowL W (.slice (some ⟨b1, 0, none⟩) 2 2) 2 (fun i => (i : Int) + 1)) => new_any 0 0 _ (.slice none 0 0) 2 0 _ (fun _ => 0) W r ⟨by omega, none, 0, rfl, by omega, by omega, fun i hi => by omega⟩)
  go_enter Try.func4, Try.ntmps4
  go_upto_region 4 with (first | (go_at_call 16; have _t := tok1; clear tok1 _t; refine (first_any _).mono ?_; rintro e wa ⟨b1, rfl, r1, oa⟩; have RA := hid r1; have OA := hid oa; clear r1 oa) | (go_at_call 16; refine (first_any _).mono ?_; rintro e wb ⟨b2, rfl, r2, ob⟩; have RB := hid r2; have OB := hid ob; clear r2 ob) | (go_at_call 6; have _t := tok2; clear tok2 _t; refine (HNn.out wa b1 RA.out).mono ?_; rintro e w1 ⟨lb1, gc1, u1, u2, rfl, o1, m1, k1⟩; have O1 := hid o1; have L1 := hid (show LogP wa.heap.size lb1 _ ⟨clampI 0, clampI 0, [], lsI (fun i => (i : Int) + 1) 2, lsI (fun _ => 0) 0⟩ w1 from ⟨m1, ⟨rfl, rfl, rfl, rfl, k1.sm⟩, ⟨k1.i0, k1.i1, k1.t0, k1.t1, trivial⟩⟩); clear o1 m1 k1) | (go_at_call 6; refine (HNn.out wb b2 RB.out).mono ?_; rintro e w2 ⟨lb2, gc2, u3, u4, rfl, o2, m2, k2⟩; have T2' := hid (TwoL.new OA.out L1.out OB.out (OA.out.trans O1.out) (show LogP wb.heap.size lb2 _ ⟨clampI 0, clampI 0, [], lsI (fun i => (i : Int) + 1) 2, lsI (fun _ => 0) 0⟩ w2 from ⟨m2, ⟨rfl, rfl, rfl, rfl, k2.sm⟩, ⟨k2.i0, k2.i1, k2.t0, k2.t1, trivial⟩⟩) o2); clear o2 m2 k2) | (go_at_call 7; refine (alive_any _).mono ?_; rintro e w3 ⟨rfl, o3⟩; have T3 := hid (T2'.out.old o3); clear o3))
  clear RA OA RB OB O1 L1 T2' HNn
  go_wp2
  go_loopw [43] (fun i wx => ∃ (k : Nat) (G1 G2 : Lg) (P : PL), k ≤ m ∧ i = .int .i64 (k : Nat) ∧ Hid (TwoL w lb1 G1 P lb2 G2 P wx ∧ P.ix = 0)) (fun i _ => m - (intOf i).toNat)
  case atStart => exact ⟨0, _, _, _, Nat.zero_le _, rfl, hid ⟨T3.out, by decide⟩⟩
  case round =>
    obtain ⟨k, G1, G2, P, hk, rfl, HI⟩ := hrel
    clear T3
    by_cases hlt : k < m
    · have hkX : k < X.length := by rw [HM.out]; exact hlt
      obtain ⟨-, ⟨p', c', ep, -, -, hcell⟩, hdat⟩ := HE.out
      obtain ⟨g, off, e1, e4⟩ := hcell k hkX
      rw [HM.out] at ep
      simp only [Value.slice.injEq] at ep
      obtain ⟨rfl, -, rfl⟩ := ep
      subst e1
      have hmem := atE_mem X k hkX
      have HR := hid (hdat _ hmem)
      obtain ⟨x0, x1, x2, x3⟩ := e4.old HI.out.1.u
      have hsz := HI.out.1.u.size
      generalize atE X k = E at *
      obtain ⟨ei, et, ek, ep, ec, ed⟩ := E
      dsimp only [En.e] at x0 x1 x2 x3
      dsimp only [En.s] at HR
      have l1 : (0 : Int) ≤ (k : Int) := by omega
      have l2 : (k : Int) < (m : Int) := by omega
      have HLs := hid (fun (W : World) (u : Old wr W) => (HI.out.1.a.old u).last)
      have hfo := Fol.last _ _ _ HI.out.1.a.ok.fol HI.out.1.a.ok.i1 HI.out.1.a.ok.t0 HI.out.1.a.ok.t1
      have hfl := Fol.len _ _ _ HI.out.1.a.ok.fol
      have hb0 := HI.out.1.a.ok.i0
      have hb1 := HI.out.1.a.ok.t0
      have li1 : 0 ≤ lI P := by unfold lI; omega
      have li2 : lI P ≤ 1099511627776 := by unfold lI; omega
      have lt1 : 0 ≤ lT P := by unfold lT; omega
      have lt2 : lT P ≤ 1099511627776 := by unfold lT; omega
      obtain ⟨z1, z2⟩ := and3 et
      clear hfo hfl hb0 hb1 hcell hdat hmem e4
      obtain ⟨edl, hed⟩ : ∃ edl, ed.length = edl := ⟨_, rfl⟩
      have HED := hid hed
      rw [hed] at x3
      clear hed
      obtain ⟨z, hbz⟩ : ∃ z, bits .and .i64 et 3 = z := ⟨_, rfl⟩
      rw [hbz] at z1 z2
      obtain ⟨li, hli⟩ : ∃ li, lI P = li := ⟨_, rfl⟩
      obtain ⟨lt, hlT⟩ : ∃ lt, lT P = lt := ⟨_, rfl⟩
      have HLi := hid (And.intro hli hlT)
      rw [hli, hlT] at HLs
      rw [hli] at li1 li2
      rw [hlT] at lt1 lt2
      clear hli hlT
      go_upto_region 8 with (go_at_call 8; refine (HLs.out _ ((Old.refl wr).alloc _)).mono ?_; rintro e w4 ⟨rfl, o4⟩; have U4 := hid (((Old.refl wr).alloc _).trans o4); have B4 := hid (o4.block (alloc_at wr _)); clear o4)
      clear HLs x0 x1 x2 x3
      obtain ⟨y0, y1, y2, y3, yf0, yf1, -, -⟩ := box4 B4.out
      have B5 := hid (Go.Joins.block_setCell (Go.Joins.block_setCell B4.out (.int .i64 (li + 1)) (i := 0)) (.int .i64 (lt + z)) (i := 1))
      have U5 := hid ((U4.out.setCell (p := ⟨wr.heap.size, 0, none⟩) (Nat.le_refl _) (.int .i64 (li + 1))).setCell (p := ⟨wr.heap.size, 1, none⟩) (Nat.le_refl _) (.int .i64 (lt + z)))
      have HBX := hid (show ∀ k ∈ mbl lb1 G1, k ≠ wr.heap.size from fun k hk e => by have := (HI.out.1.a.m.lt k hk).2; omega)
      go_upto_region 10 with (fail)
      have T5 := hid (HI.out.1.old U5.out)
      have HR5 := hid (HR.out.old (HI.out.1.u.trans U5.out))
      have HBX2 := hid (show ∀ k ∈ mbl lb2 G2, k ≠ wr.heap.size from fun k hk e => by have := (HI.out.1.b.m.lt k hk).2; omega)
      have HIx := hid HI.out.2
      have HRl := hid (fun (h0 : 0 < ed.length) (g : Nat) (e : (Value.slice ep ed.length ec).ownBlock = some g) => HR.out.lt h0 g e)
      have B5s := hid (show ((w4.setCell ⟨wr.heap.size, 0, none⟩ (.int .i64 (li + 1))).setCell ⟨wr.heap.size, 1, none⟩ (.int .i64 (lt + z))).heap[wr.heap.size]? = some (.cells #[.int .i64 (li + 1), .int .i64 (lt + z), .int .i64 ek, .slice ep edl ec] 41 (0, 0)) from B5.out)
      clear B5 U4 B4 y0 y1 y2 y3 yf0 yf1 U5 HR HI hbz
      generalize (w4.setCell ⟨wr.heap.size, 0, none⟩ (.int .i64 (li + 1))).setCell ⟨wr.heap.size, 1, none⟩ (.int .i64 (lt + z)) = w5 at *
      generalize wr.heap.size = bx at *
      obtain ⟨s0, s1, s2, s3, -⟩ := box4 B5s.out
      have HFar := hid (fun (lb : Nat) (G : Lg) (W : World) (hW : LogP w.heap.size lb G P W) => show Far (.slice (some ⟨W.heap.size, 0, none⟩) 1 1) [(⟨li + 1, lt + z, ek, ep, ec, ed⟩ : En)] (mbl lb G) from ⟨fun _ g e q => by have e2 : W.heap.size = g := Option.some.inj e; subst e2; have := (hW.m.lt _ q).2; omega, fun y hy h0 g e q => by simp at hy; subst hy; have := HRl.out h0 g e; have := (hW.m.lt _ q).1; omega⟩)
      have HAp := hid (fun (lb : Nat) (G : Lg) (W : World) (hW : LogP w.heap.size lb G P W) (hd : Rw W (.slice ep ed.length ec) ed) => append_any w.heap.size lb G P (.slice (some ⟨W.heap.size, 0, none⟩) 1 1) [(⟨li + 1, lt + z, ek, ep, ec, ed⟩ : En)] (W.alloc (.cells #[.int .i64 (li + 1), .int .i64 (lt + z), .int .i64 ek, .slice ep ed.length ec] 41)) (hW.old ((Old.refl W).alloc _)) (erow_one (cell_oneE W (⟨li + 1, lt + z, ek, ep, ec, ed⟩ : En).e _ rfl) (hd.old ((Old.refl W).alloc _))) (HFar.out lb G W hW))
      have HCs := hid (appF_cases P ⟨li + 1, lt + z, ek, ep, ec, ed⟩)
      have HIx2 := hid (appF_ix P [⟨li + 1, lt + z, ek, ep, ec, ed⟩])
      have HA1 := hid (HAp.out lb1 G1 w5 T5.out.a HR5.out)
      have HRd := hid (fun (W : World) (h : Rw W (.slice ep ed.length ec) ed) => h)
      rw [HED.out] at HA1
      have HAp2 := hid (fun (W : World) (hW : LogP w.heap.size lb2 G2 P W) (hd : Rw W (.slice ep ed.length ec) ed) => HAp.out lb2 G2 W hW hd)
      have HKd := hid (fun (W : World) (cg : Chg (mbl lb1 G1) w5 W) => show Rw W (.slice ep ed.length ec) ed from HR5.out.chg cg (fun h0 g e q => by have := HRl.out h0 g e; have := (T5.out.a.m.lt _ q).1; omega))
      rw [HED.out] at HAp2
      change Hid (Calls _ _ _ _ (fun e w' => e = .returned (.int .i64 (flt (lI P) (lT P) [(⟨li + 1, lt + z, ek, ep, ec, ed⟩ : En)])) ∧ _)) at HA1
      change Hid (∀ (W : World), LogP w.heap.size lb2 G2 P W → Rw W (.slice ep edl ec) ed → Calls _ _ _ _ (fun e w' => e = .returned (.int .i64 (flt (lI P) (lT P) [(⟨li + 1, lt + z, ek, ep, ec, ed⟩ : En)])) ∧ _)) at HAp2
      rw [HED.out] at HKd
      generalize flt (lI P) (lT P) [(⟨li + 1, lt + z, ek, ep, ec, ed⟩ : En)] = F at *
      generalize appF P [(⟨li + 1, lt + z, ek, ep, ec, ed⟩ : En)] = P' at *
      clear HAp HFar HRd HRl HLi
      rcases HCs.out with ⟨hF, -⟩ | ⟨hF, hP⟩
      · subst hF
        clear HCs
        go_upto_region 11 with (go_at_call 10; refine HA1.out.mono ?_; rintro e w6 ⟨rfl, G1', l6, m6⟩; have T6 := hid ((T5.out.old ((Old.refl w5).alloc _)).mov m6 l6); have M6 := hid ((Mov.old ((Old.refl w5).alloc _)).trans m6); have B6 := hid (m6.1.heapAt (((Old.refl w5).alloc _).block B5s.out) (fun q => HBX.out _ q rfl)); clear l6 m6)
        have HA2 := hid (HAp2.out w6 T6.out.b (HKd.out w6 M6.out.1))
        clear s0 s1 s2 s3
        obtain ⟨s0, s1, s2, s3, -⟩ := box4 B6.out
        go_wp2_with (go_at_call 10; refine HA2.out.mono ?_; rintro e w7 ⟨rfl, G2', l7, m7⟩; have T7 := hid ((T6.out.swap.old ((Old.refl w6).alloc _)).mov m7 l7); clear l7 m7)
        exact ⟨⟨k + 1, G1', G2', P', hlt, by go_num, hid ⟨T7.out.swap, HIx2.out.trans HIx.out⟩⟩, by simp [intOf]; omega⟩
      · subst hP
        have d1 : (F == 0) = false := by simp [hF]
        clear HCs
        go_wp2_with (go_at_call 10; refine HA1.out.mono ?_; rintro e w6 ⟨rfl, G1', l6, m6⟩; have T6 := hid ((T5.out.old ((Old.refl w5).alloc _)).mov m6 l6); clear l6 m6)
        exact ⟨⟨k + 1, G1', G2, P', hlt, by go_num, hid ⟨T6.out, HIx.out⟩⟩, by simp [intOf]; omega⟩
    · obtain rfl : m = k := by omega
      have HLs := hid (HI.out.1.a.last)
      have hfo := Fol.last _ _ _ HI.out.1.a.ok.fol HI.out.1.a.ok.i1 HI.out.1.a.ok.t0 HI.out.1.a.ok.t1
      have hfl := Fol.len _ _ _ HI.out.1.a.ok.fol
      have hb0 := HI.out.1.a.ok.i0
      have hix := HI.out.2
      have li1 : 0 ≤ lI P := by unfold lI; omega
      have li2 : lI P ≤ 1099511627776 := by unfold lI; omega
      have li3 : lI P = P.ix + P.es.length := hfl
      obtain ⟨t1, t2⟩ := and1023 tz
      obtain ⟨a1, a2⟩ := and15 at_
      obtain ⟨ta, hta⟩ : ∃ ta, bits .and .i64 tz 1023 = ta := ⟨_, rfl⟩
      obtain ⟨aa, haa⟩ : ∃ aa, bits .and .i64 at_ 15 = aa := ⟨_, rfl⟩
      rw [hta] at t1 t2
      rw [haa] at a1 a2
      have HL3 := hid (And.intro li3 hix)
      clear hfo hfl hb0 li3 hix
      obtain ⟨li, hli⟩ : ∃ li, lI P = li := ⟨_, rfl⟩
      obtain ⟨lt, hlT⟩ : ∃ lt, lT P = lt := ⟨_, rfl⟩
      have HLi := hid (And.intro hli hlT)
      rw [hli, hlT] at HLs
      rw [hli] at li1 li2
      clear hli hlT
      obtain ⟨tt, htt⟩ : ∃ tt, ta % (li + 1) = tt := ⟨_, rfl⟩
      have tt1 : 0 ≤ tt := by rw [← htt]; exact Int.emod_nonneg _ (by omega)
      have tt2 : tt ≤ li := by rw [← htt]; have := Int.emod_lt_of_pos ta (show 0 < li + 1 by omega); omega
      go_upto_region 16 with (go_at_call 8; refine HLs.out.mono ?_; rintro e w4 ⟨rfl, o4⟩; have T4 := hid (HI.out.1.old o4); clear o4)
      try rw [htt]
      clear HLs HI hta haa htt t1 t2 HE
      have hli := HLi.out.1
      have h31 := HL3.out.1
      have h32 := HL3.out.2
      have HF := hid (drp_facts T4.out.a.ok tt (tt + aa) (by omega) (by omega) (by omega))
      have hdv : drpV P tt = 0 := by unfold drpV; rw [if_pos]; unfold drpB; simp; omega
      have HD := hid (drop_any w.heap.size lb1 G1 P tt w4 T4.out.a)
      rw [hdv] at HD
      clear hli h31 h32 hdv HL3
      go_upto_region 18 with (go_at_call 13; refine HD.out.mono ?_; rintro e w5 ⟨rfl, G1', l5, m5⟩; have T5 := hid (T4.out.mov m5 l5); clear l5 m5)
      obtain ⟨f1, f2, f3, f4, f5, f6, f7⟩ := HF.out
      clear HD T4 HF
      generalize hPd : drpP P tt = Pd at *
      clear hPd
      have HLs1 := hid (T5.out.a.last)
      have HLs2 := hid (fun (W : World) (u : Old w5 W) => (T5.out.b.old u).last)
      rw [f1, f2, HLi.out.1, HLi.out.2] at HLs1
      rw [HLi.out.1, HLi.out.2] at HLs2
      have HC1 := hid (fun (W : World) (u : Old w5 W) => (T5.out.a.old u).conf)
      have HC2 := hid (fun (W : World) (u : Old w5 W) => (T5.out.b.old u).conf)
      have HT1 := hid (fun (W : World) (u : Old w5 W) => (T5.out.a.old u).term (tt + aa))
      have HT2 := hid (fun (W : World) (u : Old w5 W) => (T5.out.b.old u).term (tt + aa))
      rw [f4, f5] at HT1
      have HK1 := hid (fun (W : World) (u : Old w5 W) => (T5.out.a.old u).confAt (tt + aa))
      have HK2 := hid (fun (W : World) (u : Old w5 W) => (T5.out.b.old u).confAt (tt + aa))
      have HE1 := hid (fun (W : World) (u : Old w5 W) => entries_any w.heap.size lb1 G1' Pd (tt + aa + 1) 100 W (T5.out.a.old u))
      have HE2 := hid (fun (W : World) (u : Old w5 W) => entries_any w.heap.size lb2 G2 P (tt + aa + 1) 100 W (T5.out.b.old u))
      rw [f7] at HE1
      have HN1 := hid (fun (W : World) (u : Old w5 W) => (T5.out.a.old u).newer (tt + aa) lt)
      have HN2 := hid (fun (W : World) (u : Old w5 W) => (T5.out.b.old u).newer (tt + aa) lt)
      rw [f1, f2] at HN1
      have HSm := hid T5.out.b.smallL
      have HSn := hid (T5.out.b.small (cN P (tt + aa)))
      have HEl := hid (show (entL P (tt + aa + 1) 100).length ≤ 2932031007402 from Nat.le_trans (entL_len _ _ _) (by have := T5.out.b.ok.bound; have := T5.out.b.ok.i0; omega))
      have HU := hid T5.out.u
      have HF3 := hid (show (cfL Pd).2.1 = (cfL P).2.1 ∧ (cfL Pd).2.2 = (cfL P).2.2 from ⟨by rw [f3], by rw [f3]⟩)
      have HF6 := hid (show (cfA Pd (tt + aa)).2.1 = (cfA P (tt + aa)).2.1 ∧ (cfA Pd (tt + aa)).2.2 = (cfA P (tt + aa)).2.2 from ⟨by rw [f6], by rw [f6]⟩)
      clear f1 f2 f3 f4 f5 f6 f7 HLi
      change Hid ((cfA P (tt + aa)).2.1.length ≤ 17592186044000 ∧ (cfA P (tt + aa)).2.2.length ≤ 17592186044000) at HSn
      generalize cfL Pd = C1 at *
      generalize cfL P = C2 at *
      generalize cfA Pd (tt + aa) = D1 at *
      generalize cfA P (tt + aa) = D2 at *
      generalize drpB P (tt + aa) = tb at *
      generalize tmP P (tt + aa) = tv at *
      generalize newB (lI P) (lT P) (tt + aa) lt = nb at *
      generalize entL P (tt + aa + 1) 100 = EL at *
      clear T5
      go_upto_region 20 with (first | (go_at_call_of 8 (Value.pointer (some ⟨lb1, 0, none⟩)); refine HLs1.out.mono ?_; rintro e w6 ⟨rfl, o6⟩; have O6 := hid o6; clear o6) | (go_at_call_of 8 (Value.pointer (some ⟨lb2, 0, none⟩)); refine (HLs2.out _ O6.out).mono ?_; rintro e w7 ⟨rfl, o7⟩; have O7 := hid (O6.out.trans o7); clear o7))
      clear HLs1 HLs2 O6
      go_upto_region 21 with (go_at_call 17; refine (HC1.out _ O7.out).mono ?_; rintro e w8 ⟨u1, u2, rfl, r1, r2, o8⟩; obtain ⟨q1, c1, e1⟩ := r1.len; subst e1; obtain ⟨q2, c2, e2⟩ := r2.len; subst e2; have R1 := hid r1; have R2 := hid r2; have O8 := hid (O7.out.trans o8); clear r1 r2 o8)
      have B8 := hid (alloc_at w8 (.cells #[.slice q1 C1.2.1.length c1, .slice q2 C1.2.2.length c2] 24))
      have O8b := hid (O8.out.alloc (.cells #[.slice q1 C1.2.1.length c1, .slice q2 C1.2.2.length c2] 24))
      have R1b := hid (R1.out.up ((Old.refl w8).alloc (.cells #[.slice q1 C1.2.1.length c1, .slice q2 C1.2.2.length c2] 24)))
      have R2b := hid (R2.out.up ((Old.refl w8).alloc (.cells #[.slice q1 C1.2.1.length c1, .slice q2 C1.2.2.length c2] 24)))
      generalize w8.alloc (.cells #[.slice q1 C1.2.1.length c1, .slice q2 C1.2.2.length c2] 24) = w8b at *
      generalize w8.heap.size = cb1 at *
      clear R1 R2 O8 HC1
      go_upto_region 22 with (go_at_call 17; refine (HC2.out _ O8b.out).mono ?_; rintro e w9 ⟨u3, u4, rfl, r1, r2, o9⟩; obtain ⟨q3, c3, e1⟩ := r1.len; subst e1; obtain ⟨q4, c4, e2⟩ := r2.len; subst e2; have R3 := hid r1; have R4 := hid r2; have O9 := hid (O8b.out.trans o9); have B9 := hid (o9.block B8.out); have R1c := hid (R1b.out.up o9); have R2c := hid (R2b.out.up o9); clear r1 r2 o9)
      have B9n := hid (alloc_at w9 (.cells #[.slice q3 C2.2.1.length c3, .slice q4 C2.2.2.length c4] 24))
      have A9 := hid ((Old.refl w9).alloc (.cells #[.slice q3 C2.2.1.length c3, .slice q4 C2.2.2.length c4] 24))
      generalize w9.alloc (.cells #[.slice q3 C2.2.1.length c3, .slice q4 C2.2.2.length c4] 24) = w9b at *
      generalize w9.heap.size = cb2 at *
      have O9b := hid (O9.out.trans A9.out)
      have B9b := hid (A9.out.block B9.out)
      have R1d := hid (R1c.out.up A9.out)
      have R2d := hid (R2c.out.up A9.out)
      have R3d := hid (R3.out.up A9.out)
      have R4d := hid (R4.out.up A9.out)
      clear R1b R2b R1c R2c R3 R4 O9 A9 B8 B9 O8b HC2
      go_upto_region 24 with (first | (go_at_call_of 18 (Value.pointer (some ⟨lb1, 0, none⟩)); refine (HT1.out _ O9b.out).mono ?_; rintro e w10 ⟨rfl, o10⟩; have O10 := hid (O9b.out.trans o10); have P10 := hid o10; clear o10) | (go_at_call_of 18 (Value.pointer (some ⟨lb2, 0, none⟩)); refine (HT2.out _ O10.out).mono ?_; rintro e w11 ⟨rfl, o11⟩; have O11 := hid (O10.out.trans o11); have P11 := hid (P10.out.trans o11); clear o11))
      have BA := hid (P11.out.block B9b.out)
      have BB := hid (P11.out.block B9n.out)
      have HS1 := hid (same_own (R1d.out.up P11.out) (R2d.out.up P11.out) (R3d.out.up P11.out) (R4d.out.up P11.out) HF3.out.1 HF3.out.2 (by rw [HF3.out.1]; exact HSm.out.1) (by rw [HF3.out.2]; exact HSm.out.2))
      obtain ⟨ba0, ba1⟩ := box2 BA.out
      obtain ⟨bb0, bb1⟩ := box2 BB.out
      have HF := hid (HF6.out)
      clear R1d R2d R3d R4d P10 P11 O9b O10 B9b B9n BA BB HT1 HT2
      have tok3 : True := trivial
      go_wp2_with (first
        | (go_at_call 19; have _t := tok3; clear tok3 _t; refine HS1.out.mono ?_; rintro e w12 ⟨rfl, o12⟩; have O12 := hid (O11.out.trans o12); clear o12)
        | (go_at_call_of 20 (Value.pointer (some ⟨lb1, 0, none⟩)); refine (HK1.out _ O12.out).mono ?_; rintro e w13 ⟨u5, u6, rfl, r1, r2, o13⟩; have R5 := hid r1; have R6 := hid r2; have O13 := hid (O12.out.trans o13); clear r1 r2 o13)
        | (go_at_call_of 20 (Value.pointer (some ⟨lb2, 0, none⟩)); refine (HK2.out _ O13.out).mono ?_; rintro e w14 ⟨u7, u8, rfl, r1, r2, o14⟩; have HS2 := hid (same_own (R5.out.up o14) (R6.out.up o14) r1 r2 HF6.out.1 HF6.out.2 (by rw [HF6.out.1]; exact HSn.out.1) (by rw [HF6.out.2]; exact HSn.out.2)); have O14 := hid (O13.out.trans o14); clear r1 r2 o14)
        | (go_at_call 19; refine HS2.out.mono ?_; rintro e w15 ⟨rfl, o15⟩; have O15 := hid (O14.out.trans o15); clear o15)
        | (go_at_call_of 14 (Value.pointer (some ⟨lb1, 0, none⟩)); refine (HE1.out _ O15.out).mono ?_; rintro e w16 ⟨v16, X1, rfl, n16, x16, o16⟩; have N16 := hid n16; have X16 := hid x16; have O16 := hid (O15.out.trans o16); clear n16 x16 o16)
        | (go_at_call_of 14 (Value.pointer (some ⟨lb2, 0, none⟩)); refine (HE2.out _ O16.out).mono ?_; rintro e w17 ⟨v17, X2, rfl, n17, x17, o17⟩; have HS3 := hid (sameE_eq v16 v17 X1 X2 w17 ((N16.out.erow (by rw [← pls_len, X16.out]; exact HEl.out)).old o17) (n17.erow (by rw [← pls_len, x17]; exact HEl.out)) (X16.out.trans x17.symm)); have O17 := hid (O16.out.trans o17); clear n17 x17 o17)
        | (go_at_call 21; refine HS3.out.mono ?_; rintro e w18 ⟨rfl, o18⟩; have O18 := hid (O17.out.trans o18); clear o18)
        | (go_at_call_of 22 (Value.pointer (some ⟨lb1, 0, none⟩)); refine (HN1.out _ O18.out).mono ?_; rintro e w19 ⟨rfl, o19⟩; have O19 := hid (O18.out.trans o19); clear o19)
        | (go_at_call_of 22 (Value.pointer (some ⟨lb2, 0, none⟩)); refine (HN2.out _ O19.out).mono ?_; rintro e w20 ⟨rfl, o20⟩; have O20 := hid (O19.out.trans o20); clear o20))
      go_ret
      exact ⟨ret_b (by simp), HU.out.trans O20.out⟩
end Go.Proofs.Ytgpfmohaogppiaa
