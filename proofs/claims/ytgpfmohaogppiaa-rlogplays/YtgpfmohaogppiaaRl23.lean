/- The document's New, From, CutFrom of layer 16 at every log; conditions: it lies in memory. -/
import Derived.Test.YtgpfmohaogppiaaRl22
namespace Go.Proofs.Ytgpfmohaogppiaa
open Go.RowKit Go.Lib
set_option linter.unusedVariables false
set_option linter.unusedSimpArgs false
set_option maxRecDepth 20000
theorem box5 {w : World} {b : Nat} {x y z u v : Value} {T : TypeId} (h : w.heap[b]? = some (.cells #[x, y, z, u, v] T (0, 0))) : (w.cell? ⟨b, 0, none⟩ = some x ∧ w.cell? ⟨b, 1, none⟩ = some y ∧ w.cell? ⟨b, 2, none⟩ = some z ∧ w.cell? ⟨b, 3, none⟩ = some u ∧ w.cell? ⟨b, 4, none⟩ = some v) ∧ w.frozen? ⟨b, 0, none⟩ = false ∧ w.frozen? ⟨b, 1, none⟩ = false ∧ w.frozen? ⟨b, 2, none⟩ = false ∧ w.frozen? ⟨b, 3, none⟩ = false ∧ w.frozen? ⟨b, 4, none⟩ = false :=
  ⟨⟨by rw [Go.Joins.cell_of_block h]; rfl, by rw [Go.Joins.cell_of_block h]; rfl, by rw [Go.Joins.cell_of_block h]; rfl, by rw [Go.Joins.cell_of_block h]; rfl, by rw [Go.Joins.cell_of_block h]; rfl⟩, Go.Joins.unfrozen_of_block h 0, Go.Joins.unfrozen_of_block h 1, Go.Joins.unfrozen_of_block h 2, Go.Joins.unfrozen_of_block h 3, Go.Joins.unfrozen_of_block h 4⟩
theorem box5_set {w : World} {b : Nat} {x y z u v p q r s t : Value} {T : TypeId} (h : w.heap[b]? = some (.cells #[x, y, z, u, v] T (0, 0))) : (((((w.setCell ⟨b, 0, none⟩ p).setCell ⟨b, 1, none⟩ q).setCell ⟨b, 2, none⟩ r).setCell ⟨b, 3, none⟩ s).setCell ⟨b, 4, none⟩ t).heap[b]? = some (.cells #[p, q, r, s, t] T (0, 0)) := by
  have h1 := Go.Joins.block_setCell h p (i := 0)
  have h2 := Go.Joins.block_setCell h1 q (i := 1)
  have h3 := Go.Joins.block_setCell h2 r (i := 2)
  have h4 := Go.Joins.block_setCell h3 s (i := 3)
  exact Go.Joins.block_setCell h4 t (i := 4)
theorem Old.set5 {a w : World} {b : Nat} {p q r s t : Value} (h : Old a w) (hb : a.heap.size ≤ b) : Old a (((((w.setCell ⟨b, 0, none⟩ p).setCell ⟨b, 1, none⟩ q).setCell ⟨b, 2, none⟩ r).setCell ⟨b, 3, none⟩ s).setCell ⟨b, 4, none⟩ t) :=
  ((((h.setCell (p := ⟨b, 0, none⟩) hb _).setCell (p := ⟨b, 1, none⟩) hb _).setCell (p := ⟨b, 2, none⟩) hb _).setCell (p := ⟨b, 3, none⟩) hb _).setCell (p := ⟨b, 4, none⟩) hb _
/-- What a step of the document's log answers. -/
def Fr (w : World) (a a0 : List Int) (t q : Option Addr) (z c : Nat) : Prop := (a = a0 ∧ t = q ∧ z = c) ∨ ∀ n g, (Value.slice t n z).ownBlock = some g → w.heap.size ≤ g
theorem Fr.mono {w w' : World} {a a0 : List Int} {t q : Option Addr} {z c : Nat} (h : Fr w' a a0 t q z c) (u : w.heap.size ≤ w'.heap.size) : Fr w a a0 t q z c := by
  rcases h with h | h
  · exact .inl h
  · exact .inr (fun n g e => Nat.le_trans u (h n g e))
/-- What a step makes of the document's log is as it was, or new. -/
structure Keeps (P P' : PL) (D D' : Dg) (E : List En) (w : World) : Prop where
  e : (D'.p = D.p ∧ D'.X = D.X) ∨ ∀ n g, (Value.slice D'.p n D'.c).ownBlock = some g → w.heap.size ≤ g
  x : ∀ x ∈ D'.X, x ∈ D.X ∨ x ∈ E
  a : Fr w P'.a P.a D'.p1 D.p1 D'.c1 D.c1
  b : Fr w P'.b P.b D'.p2 D.p2 D'.c2 D.c2
theorem Keeps.same (P : PL) (D : Dg) (E : List En) (w : World) : Keeps P P D D E w := ⟨.inl ⟨rfl, rfl⟩, fun _ h => .inl h, .inl ⟨rfl, rfl, rfl⟩, .inl ⟨rfl, rfl, rfl⟩⟩
def RPost (P' : PL) (code : Int) (P : PL) (D : Dg) (E : List En) (w : World) (e : Ending) (w' : World) : Prop := ∃ D' : Dg, e = .returned (.tuple #[DV P' D', .int .i64 code]) ∧ DocP P' D' w' ∧ Old w w' ∧ Keeps P P' D D' E w
theorem DocP.part {P : PL} {D : Dg} {w w' : World} (h : DocP P D w) (u : Old w w') {es' : List En} (k : PLok ⟨P.ix, P.tm, es', P.a, P.b⟩) {p : Option Addr} {c : Nat} {Y : List En} (r : ERow w' (.slice p Y.length c) Y) (e : pls Y = es') : DocP ⟨P.ix, P.tm, es', P.a, P.b⟩ ⟨D.p1, D.c1, D.p2, D.c2, p, c, Y⟩ w' := ⟨r, e, h.a.old u, h.b.old u, k⟩
theorem ERow.take {w : World} {p : Option Addr} {n c : Nat} {X : List En} (h : ERow w (.slice p n c) X) (k : Nat) (hk : k ≤ X.length) : ERow w (.slice p k c) (X.take k) := by
  obtain ⟨h1, ⟨p', c', e, h2, h3, h4⟩, h5⟩ := h
  simp only [Value.slice.injEq] at e
  obtain ⟨rfl, -, rfl⟩ := e
  have hl : (X.take k).length = k := by rw [List.length_take]; omega
  refine ⟨by rw [hl]; omega, ⟨p, c, by rw [hl], by rw [hl]; omega, h3, fun j hj => ?_⟩, fun x hx => h5 x (List.mem_of_mem_take hx)⟩
  rw [hl] at hj
  obtain ⟨g, off, e1, e2⟩ := h4 j (by omega)
  refine ⟨g, off, e1, ?_⟩
  have : atE (X.take k) j = atE X j := by unfold atE; rw [List.getD_eq_getElem?_getD, List.getD_eq_getElem?_getD, List.getElem?_take_of_lt hj]
  rw [this]
  exact e2
theorem Chg.set5 {S : List Nat} (w : World) (b : Nat) (hb : b ∈ S) (p q r s t : Value) : Chg S w (((((w.setCell ⟨b, 0, none⟩ p).setCell ⟨b, 1, none⟩ q).setCell ⟨b, 2, none⟩ r).setCell ⟨b, 3, none⟩ s).setCell ⟨b, 4, none⟩ t) :=
  ((((Chg.set (S := S) w ⟨b, 0, none⟩ p hb).trans (Chg.set (S := S) _ ⟨b, 1, none⟩ q hb)).trans (Chg.set (S := S) _ ⟨b, 2, none⟩ r hb)).trans (Chg.set (S := S) _ ⟨b, 3, none⟩ s hb)).trans (Chg.set (S := S) _ ⟨b, 4, none⟩ t hb)
/-- New rows of old entries lie apart from two blocks between. -/
theorem far_new {w : World} {X Y : List En} (hd : ∀ x ∈ X, Rw w x.s x.d) (hs : ∀ {x}, x ∈ Y → x ∈ X) {v : Value} (hv : ∀ g, v.ownBlock = some g → w.heap.size + 2 ≤ g) : Far v Y [w.heap.size] ∧ Far v Y [w.heap.size + 1] := by
  refine ⟨⟨fun _ g e q => ?_, fun x hx h0 g e q => ?_⟩, ⟨fun _ g e q => ?_, fun x hx h0 g e q => ?_⟩⟩
  · have := hv g e; simp at q; omega
  · have := (hd x (hs hx)).lt h0 g e; simp at q; omega
  · have := hv g e; simp at q; omega
  · have := (hd x (hs hx)).lt h0 g e; simp at q; omega
/-- What From tells, plainly. -/
theorem pt_from {P : PL} (k : PLok P) (f : Int) : ptL f (lI P) P.es = P.es.drop (entK P f) := by
  have hl : lI P = P.ix + P.es.length := Fol.len _ _ _ k.fol
  have ha : entK P f ≤ P.es.length := by unfold entK ahN; omega
  obtain ⟨q1, q2⟩ := fol_take k (entK P f) ha
  have e := ptL_fol k f (lI P) (entK P f) P.es.length ha (Nat.le_refl _) (fun x hx => ?_) (fun x hx => ?_) (fun x hx => ?_)
  · rw [e, List.take_of_length_le (by rw [List.length_drop]; exact Nat.le_refl _)]
  · have := q1 x hx
    have h0 : 0 < entK P f := by
      rcases Nat.eq_zero_or_pos (entK P f) with h | h
      · rw [h] at hx; cases hx
      · exact h
    unfold entK ahN at this h0
    omega
  · have := q2 x (List.mem_of_mem_take hx)
    unfold entK ahN at this
    omega
  · rw [List.drop_length] at hx; cases hx
theorem pt_cut {P : PL} (k : PLok P) (f : Int) (hf : P.ix < f) : ptL 0 (f - 1) P.es = P.es.take (cutN P f) := by
  have ha : cutN P f ≤ P.es.length := by unfold cutN; omega
  obtain ⟨q1, q2⟩ := fol_take k (cutN P f) ha
  have h0 := k.i0
  have e := ptL_fol k 0 (f - 1) 0 (cutN P f) (Nat.zero_le _) ha (fun x hx => by cases hx) (fun x hx => ?_) (fun x hx => ?_)
  · rw [e, List.drop_zero, Nat.sub_zero]
  · rw [List.drop_zero, Nat.sub_zero] at hx
    have := q1 x hx
    unfold cutN at this
    omega
  · have := q2 x hx
    unfold cutN at this
    omega
theorem pt_drop {P : PL} (k : PLok P) (f : Int) (hf : drpB P f = true) : ptL (f + 1) (lI P) P.es = P.es.drop (drpN P f) := by
  have hl : lI P = P.ix + P.es.length := Fol.len _ _ _ k.fol
  unfold drpB at hf
  simp at hf
  have ha : drpN P f ≤ P.es.length := by unfold drpN; omega
  obtain ⟨q1, q2⟩ := fol_take k (drpN P f) ha
  have e := ptL_fol k (f + 1) (lI P) (drpN P f) P.es.length ha (Nat.le_refl _) (fun x hx => ?_) (fun x hx => ?_) (fun x hx => ?_)
  · rw [e, List.take_of_length_le (by rw [List.length_drop]; exact Nat.le_refl _)]
  · have := q1 x hx
    unfold drpN at this
    omega
  · have := q2 x (List.mem_of_mem_take hx)
    unfold drpN at this
    omega
  · rw [List.drop_length] at hx; cases hx
set_option maxHeartbeats 4000000 in
set_option maxRecDepth 20000 in
theorem rFrom_any (P : PL) (D : Dg) (f most : Int) (w : World) (h : DocP P D w) :
    Calls Try.prog 42 #[DV P D, .int .i64 f, .int .i64 most] w fun e w' => ∃ v Y, e = .returned v ∧ ERow w' v Y ∧ pls Y = entL P f most ∧ Old w w' := by
  have HPl := hid (show pls (ptL f (lI P) D.X) = P.es.drop (entK P f) from by rw [ptL_pls, h.x, pt_from h.ok])
  have HLn := hid (show (ptL f (lI P) D.X).length = P.es.length - entK P f from by rw [← pls_len, ptL_pls, h.x, pt_from h.ok, List.length_drop])
  have HLb := hid (show (ptL f (lI P) D.X).length ≤ 1099511627776 from Nat.le_trans (ptL_len _ _ _) h.few.1)
  have HL := hid (fun (W : World) (u : Old w W) => rLast_any P D W (h.old u))
  have HPt := hid (fun (W : World) (u : Old w W) => rPart_any P D f (lI P) W (h.old u))
  unfold DV Dg.v1 Dg.v2 Dg.ve at HL HPt ⊢
  obtain ⟨q1, c1, q2, c2, q, c, X⟩ := D
  dsimp only at HL HPt HLn HLb HPl ⊢
  clear h
  generalize P.a.length = n1 at *
  generalize P.b.length = n2 at *
  generalize X.length = n at *
  generalize P.ix = pix at *
  generalize P.tm = ptm at *
  generalize lI P = li at *
  generalize lT P = lt at *
  obtain ⟨Y, hY⟩ : ∃ Y, ptL f li X = Y := ⟨_, rfl⟩
  rw [hY] at HPl HLn HLb HPt
  clear hY
  obtain ⟨yn, hyn⟩ : ∃ yn, Y.length = yn := ⟨_, rfl⟩
  have HYN := hid hyn
  have hyb : (yn : Int) ≤ 1099511627776 := by have := HLb.out; omega
  rw [hyn] at HPt HLn
  clear hyn
  go_enter Try.func42, Try.ntmps42
  go_upto_region 3 with (first | (go_at_call 24; refine (HL.out _ ((Old.refl w).alloc _)).mono ?_; rintro e w1 ⟨rfl, o1⟩; have O1 := hid (((Old.refl w).alloc _).trans o1); have B1 := hid (o1.block (alloc_at w (.cells #[.int .i64 pix, .int .i64 ptm, .slice q1 n1 c1, .slice q2 n2 c2, .slice q n c] 54))); obtain ⟨⟨b0, b1, b2, b3, b4⟩, -⟩ := box5 B1.out; clear o1) | (go_at_call 39; refine (HPt.out _ O1.out).mono ?_; rintro e w2 ⟨p, cc, rfl, r2, o2⟩; have O2 := hid (O1.out.trans o2); have R2 := hid r2.e; clear o2 r2))
  clear HL HPt
  obtain ⟨-, ⟨p', c', ep, hc1, hc2, -⟩, -⟩ := R2.out
  rw [HYN.out] at ep hc1
  simp only [Value.slice.injEq] at ep
  obtain ⟨rfl, -, rfl⟩ := ep
  have HC1 := hid hc1
  have hcb : (yn : Int) ≤ (cc : Int) := by omega
  by_cases hm : most < 0
  · have d1 : decide (most < 0) = true := decide_eq_true hm
    by_cases hz : 0 < yn
    · have d2 : (0 : Int) < (yn : Int) := by omega
      have l9 : (0 : Int) ≤ (cc : Int) := by omega
      go_wp2
      go_ret
      first | refine ⟨_, Y.take 0, rfl, R2.out.take 0 (Nat.zero_le _), ?_, O2.out⟩ | refine ⟨_, rfl, Y.take 0, R2.out.take 0 (Nat.zero_le _), ?_, O2.out⟩
      rw [pls_take, HPl.out]; unfold entL entM; rw [show (max 0 (min most ((P.es.length - entK P f : Nat) : Int))).toNat = 0 from by omega]
    · obtain rfl : yn = 0 := by omega
      go_wp2
      go_ret
      first | refine ⟨_, Y, rfl, R2.out, ?_, O2.out⟩ | refine ⟨_, rfl, Y, R2.out, ?_, O2.out⟩
      rw [HPl.out]; unfold entL; rw [List.take_of_length_le (by rw [List.length_drop, ← HLn.out]; exact Nat.zero_le _)]
  · have d1 : decide (most < 0) = false := decide_eq_false hm
    by_cases hz : most < (yn : Int)
    · obtain ⟨M, rfl⟩ : ∃ M : Nat, most = (M : Int) := ⟨most.toNat, by omega⟩
      have d2 : decide ((M : Int) < (yn : Int)) = true := decide_eq_true hz
      have l9 : (M : Int) ≤ (cc : Int) := by omega
      have l8 : (0 : Int) ≤ (M : Int) := by omega
      go_wp2
      go_ret
      first | refine ⟨_, Y.take M, rfl, R2.out.take M (by rw [HYN.out]; omega), ?_, O2.out⟩ | refine ⟨_, rfl, Y.take M, R2.out.take M (by rw [HYN.out]; omega), ?_, O2.out⟩
      rw [pls_take, HPl.out]; unfold entL entM; rw [show (max 0 (min (M : Int) ((P.es.length - entK P f : Nat) : Int))).toNat = M from by have := HLn.out; omega]
    · have d2 : decide (most < (yn : Int)) = false := decide_eq_false hz
      go_wp2
      go_ret
      first | refine ⟨_, Y, rfl, R2.out, ?_, O2.out⟩ | refine ⟨_, rfl, Y, R2.out, ?_, O2.out⟩
      rw [HPl.out]; unfold entL entM; rw [List.take_of_length_le (by rw [List.length_drop]; have := HLn.out; omega)]
set_option maxHeartbeats 4000000 in
set_option maxRecDepth 20000 in
theorem rCut_any (P : PL) (D : Dg) (f : Int) (hf63 : f ≤ 9223372036854775807) (w : World) (h : DocP P D w) :
    Calls Try.prog 26 #[DV P D, .int .i64 f] w fun e w' => RPost (cutP P f) (cutV P f) P D [] w e w' := by
  have HD := hid h
  have HPt := hid (fun (W : World) (u : Old w W) => rPart_any P D 0 (f - 1) W (h.old u))
  have h0 := h.ok.i0
  unfold RPost
  by_cases hle : f ≤ P.ix
  · have e1 : cutP P f = P := if_pos hle
    have e2 : cutV P f = 1 := if_pos hle
    rw [e1, e2]
    clear e1 e2 HPt
    unfold DV Dg.v1 Dg.v2 Dg.ve
    obtain ⟨q1, c1, q2, c2, q, c, X⟩ := D
    dsimp only at ⊢
    have d1 : decide (f ≤ P.ix) = true := decide_eq_true hle
    obtain ⟨n1, hn1⟩ : ∃ n1, P.a.length = n1 := ⟨_, rfl⟩
    obtain ⟨n2, hn2⟩ : ∃ n2, P.b.length = n2 := ⟨_, rfl⟩
    obtain ⟨n, hn⟩ : ∃ n, X.length = n := ⟨_, rfl⟩
    have HN := hid (And.intro hn1 (And.intro hn2 hn))
    rw [hn1, hn2, hn]
    clear hn1 hn2 hn h h0
    obtain ⟨pix, hpx⟩ : ∃ pix, P.ix = pix := ⟨_, rfl⟩
    obtain ⟨ptm, hpt⟩ : ∃ ptm, P.tm = ptm := ⟨_, rfl⟩
    have HP := hid (And.intro hpx hpt)
    rw [hpx] at hle d1
    rw [hpx, hpt]
    clear hpx hpt
    go_enter Try.func26, Try.ntmps26
    go_upto_region 1 with (fail)
    have U0 := hid (((Old.refl w).alloc (.cells #[.int .i64 pix, .int .i64 ptm, .slice q1 n1 c1, .slice q2 n2 c2, .slice q n c] 54)).alloc (.cells #[.int .i64 0, .int .i64 0, .slice none 0 0, .slice none 0 0, .slice none 0 0] 54))
    have B2 := hid (((Old.refl _).alloc (.cells #[.int .i64 0, .int .i64 0, .slice none 0 0, .slice none 0 0, .slice none 0 0] 54)).block (alloc_at w (.cells #[.int .i64 pix, .int .i64 ptm, .slice q1 n1 c1, .slice q2 n2 c2, .slice q n c] 54)))
    have B4 := hid (show ((w.alloc (.cells #[.int .i64 pix, .int .i64 ptm, .slice q1 n1 c1, .slice q2 n2 c2, .slice q n c] 54)).alloc (.cells #[.int .i64 0, .int .i64 0, .slice none 0 0, .slice none 0 0, .slice none 0 0] 54)).heap[w.heap.size + 1]? = some (.cells #[.int .i64 0, .int .i64 0, .slice none 0 0, .slice none 0 0, .slice none 0 0] 54) from by have := alloc_at (w.alloc (.cells #[.int .i64 pix, .int .i64 ptm, .slice q1 n1 c1, .slice q2 n2 c2, .slice q n c] 54)) (.cells #[.int .i64 0, .int .i64 0, .slice none 0 0, .slice none 0 0, .slice none 0 0] 54); simpa using this)
    generalize (w.alloc (.cells #[.int .i64 pix, .int .i64 ptm, .slice q1 n1 c1, .slice q2 n2 c2, .slice q n c] 54)).alloc (.cells #[.int .i64 0, .int .i64 0, .slice none 0 0, .slice none 0 0, .slice none 0 0] 54) = w0 at *
    obtain ⟨⟨a0, a1, a2, a3, a4⟩, -⟩ := box5 B2.out
    obtain ⟨⟨z0, z1, z2, z3, z4⟩, f0, f1, f2, f3, f4⟩ := box5 B4.out
    have B5 := hid (box5_set (p := .int .i64 pix) (q := .int .i64 ptm) (r := .slice q1 n1 c1) (s := .slice q2 n2 c2) (t := .slice q n c) B4.out)
    go_wp2
    obtain ⟨⟨g0, g1, g2, g3, g4⟩, -⟩ := box5 B5.out
    refine bodyPost_ret (v := .tuple #[.agg #[.int .i64 pix, .int .i64 ptm, .slice q1 n1 c1, .slice q2 n2 c2, .slice q n c], .int .i64 1]) (by simp [results, Try.results26, go_sem, g0, g1, g2, g3, g4]) rfl ?_
    have U9 := U0.out.set5 (b := w.heap.size + 1) (p := .int .i64 pix) (q := .int .i64 ptm) (r := .slice q1 n1 c1) (s := .slice q2 n2 c2) (t := .slice q n c) (Nat.le_succ _)
    exact ⟨⟨q1, c1, q2, c2, q, c, X⟩, by dsimp only; (try rw [HN.out.1]); (try rw [HN.out.2.1]); (try rw [HN.out.2.2]); (try rw [HP.out.1]); (try rw [HP.out.2]), HD.out.old U9, U9, Keeps.same _ _ _ _⟩
  · have e1 : cutP P f = ⟨P.ix, P.tm, P.es.take (cutN P f), P.a, P.b⟩ := if_neg hle
    have e2 : cutV P f = 0 := if_neg hle
    have HOk := hid (show PLok ⟨P.ix, P.tm, P.es.take (cutN P f), P.a, P.b⟩ from by rw [← e1]; exact cutP_ok h.ok f)
    have HPl := hid (show pls (ptL 0 (f - 1) D.X) = P.es.take (cutN P f) from by rw [ptL_pls, h.x, pt_cut h.ok f (by omega)])
    have HMem := hid (show ∀ x ∈ ptL 0 (f - 1) D.X, x ∈ D.X from fun x hx => ptL_mem hx)
    have HPa := hid (fun (w' : World) (u : Old w w') (p : Option Addr) (cc : Nat) (r : ERow w' (.slice p (ptL 0 (f - 1) D.X).length cc) (ptL 0 (f - 1) D.X)) => DocP.part h u HOk.out r HPl.out)
    have HFr := hid (fun (v : Value) (hv : ∀ g, v.ownBlock = some g → w.heap.size + 2 ≤ g) => far_new (h.e.2.2) (ptL_mem (f := 0) (t := f - 1) (A := D.X)) hv)
    rw [e1, e2]
    clear e1 e2 HOk HPl HD
    unfold DV Dg.v1 Dg.v2 Dg.ve at HPt ⊢
    obtain ⟨q1, c1, q2, c2, q, c, X⟩ := D
    dsimp only at HPt HPa HFr HMem ⊢
    have d1 : decide (f ≤ P.ix) = false := decide_eq_false hle
    have l9 : (0 : Int) ≤ f - 1 := by omega
    have l8 : f - 1 ≤ 9223372036854775807 := by omega
    obtain ⟨n1, hn1⟩ : ∃ n1, P.a.length = n1 := ⟨_, rfl⟩
    obtain ⟨n2, hn2⟩ : ∃ n2, P.b.length = n2 := ⟨_, rfl⟩
    obtain ⟨n, hn⟩ : ∃ n, X.length = n := ⟨_, rfl⟩
    obtain ⟨Y, hY⟩ : ∃ Y, ptL 0 (f - 1) X = Y := ⟨_, rfl⟩
    obtain ⟨yn, hyn⟩ : ∃ yn, Y.length = yn := ⟨_, rfl⟩
    rw [hn1, hn2, hn, hY, hyn] at HPt
    rw [hY, hyn] at HPa
    rw [hY] at HFr HMem
    have HN := hid (And.intro hn1 (And.intro hn2 hyn))
    rw [hn1, hn2, hn]
    clear hn1 hn2 hn hY hyn h
    obtain ⟨pix, hpx⟩ : ∃ pix, P.ix = pix := ⟨_, rfl⟩
    obtain ⟨ptm, hpt⟩ : ∃ ptm, P.tm = ptm := ⟨_, rfl⟩
    rw [hpx] at hle d1 h0
    rw [hpx, hpt] at HPt HPa
    rw [hpx, hpt]
    clear hpx hpt
    go_enter Try.func26, Try.ntmps26
    go_upto_region 1 with (fail)
    have U0 := hid (((Old.refl w).alloc (.cells #[.int .i64 pix, .int .i64 ptm, .slice q1 n1 c1, .slice q2 n2 c2, .slice q n c] 54)).alloc (.cells #[.int .i64 0, .int .i64 0, .slice none 0 0, .slice none 0 0, .slice none 0 0] 54))
    have B2 := hid (((Old.refl _).alloc (.cells #[.int .i64 0, .int .i64 0, .slice none 0 0, .slice none 0 0, .slice none 0 0] 54)).block (alloc_at w (.cells #[.int .i64 pix, .int .i64 ptm, .slice q1 n1 c1, .slice q2 n2 c2, .slice q n c] 54)))
    have B4 := hid (show ((w.alloc (.cells #[.int .i64 pix, .int .i64 ptm, .slice q1 n1 c1, .slice q2 n2 c2, .slice q n c] 54)).alloc (.cells #[.int .i64 0, .int .i64 0, .slice none 0 0, .slice none 0 0, .slice none 0 0] 54)).heap[w.heap.size + 1]? = some (.cells #[.int .i64 0, .int .i64 0, .slice none 0 0, .slice none 0 0, .slice none 0 0] 54) from by have := alloc_at (w.alloc (.cells #[.int .i64 pix, .int .i64 ptm, .slice q1 n1 c1, .slice q2 n2 c2, .slice q n c] 54)) (.cells #[.int .i64 0, .int .i64 0, .slice none 0 0, .slice none 0 0, .slice none 0 0] 54); simpa using this)
    have HSz := hid (show ((w.alloc (.cells #[.int .i64 pix, .int .i64 ptm, .slice q1 n1 c1, .slice q2 n2 c2, .slice q n c] 54)).alloc (.cells #[.int .i64 0, .int .i64 0, .slice none 0 0, .slice none 0 0, .slice none 0 0] 54)).heap.size = w.heap.size + 2 from by simp)
    generalize (w.alloc (.cells #[.int .i64 pix, .int .i64 ptm, .slice q1 n1 c1, .slice q2 n2 c2, .slice q n c] 54)).alloc (.cells #[.int .i64 0, .int .i64 0, .slice none 0 0, .slice none 0 0, .slice none 0 0] 54) = w0 at *
    obtain ⟨⟨a0, a1, a2, a3, a4⟩, -⟩ := box5 B2.out
    have HS0 := hid (show w0.heap.size = w.heap.size + 2 from HSz.out)
    go_upto_region 4 with (go_at_call 39; refine (HPt.out _ U0.out).mono ?_; rintro e w2 ⟨p, cc, rfl, r2, o2⟩; have O2 := hid o2; have R2 := hid r2; have C2 := hid (o2.block B2.out); have C4 := hid (o2.block B4.out); obtain ⟨⟨-, -, -, -, e4⟩, -, -, -, -, e5⟩ := box5 C2.out; clear o2 r2)
    clear a0 a1 a2 a3 a4 HPt e4 e5 B2 B4
    have C2' := hid (show (w2.setCell ⟨w.heap.size, 4, none⟩ (.slice p yn cc)).heap[w.heap.size]? = some (.cells #[.int .i64 pix, .int .i64 ptm, .slice q1 n1 c1, .slice q2 n2 c2, .slice p yn cc] 54 (0, 0)) from Go.Joins.block_setCell C2.out (.slice p yn cc) (i := 4))
    have C4' := hid (set_other (b := w.heap.size) (i := 4) (v := .slice p yn cc) C4.out (by omega))
    have U4 := hid ((U0.out.trans O2.out).setCell (p := ⟨w.heap.size, 4, none⟩) (Nat.le_refl _) (.slice p yn cc))
    have R4 := hid (ERow.chg R2.out.e (Chg.set (S := [w.heap.size]) w2 ⟨w.heap.size, 4, none⟩ (.slice p yn cc) (by simp)) ((HFr.out _ (fun g e => by have := R2.out.n g e; have := HS0.out; omega)).1))
    have HNew := hid (show ∀ m g, (Value.slice p m cc).ownBlock = some g → w.heap.size ≤ g from fun m g e => by have := R2.out.n g (by cases p <;> exact e); have := HS0.out; omega)
    have HFn := hid (HFr.out _ (fun g e => by have := R2.out.n g e; have := HS0.out; omega))
    clear C2 C4 R2 O2 HFr U0
    generalize w2.setCell ⟨w.heap.size, 4, none⟩ (.slice p yn cc) = w4 at *
    obtain ⟨⟨a0, a1, a2, a3, a4⟩, -⟩ := box5 C2'.out
    obtain ⟨⟨z0, z1, z2, z3, z4⟩, f0, f1, f2, f3, f4⟩ := box5 C4'.out
    have B5 := hid (box5_set (p := .int .i64 pix) (q := .int .i64 ptm) (r := .slice q1 n1 c1) (s := .slice q2 n2 c2) (t := .slice p yn cc) C4'.out)
    go_wp2
    obtain ⟨⟨g0, g1, g2, g3, g4⟩, -⟩ := box5 B5.out
    refine bodyPost_ret (v := .tuple #[.agg #[.int .i64 pix, .int .i64 ptm, .slice q1 n1 c1, .slice q2 n2 c2, .slice p yn cc], .int .i64 0]) (by simp [results, Try.results26, go_sem, g0, g1, g2, g3, g4]) rfl ?_
    have U9 := U4.out.set5 (b := w.heap.size + 1) (p := .int .i64 pix) (q := .int .i64 ptm) (r := .slice q1 n1 c1) (s := .slice q2 n2 c2) (t := .slice p yn cc) (Nat.le_succ _)
    have R9 := ERow.chg R4.out (Chg.set5 (S := [w.heap.size + 1]) w4 (w.heap.size + 1) (by simp) (.int .i64 pix) (.int .i64 ptm) (.slice q1 n1 c1) (.slice q2 n2 c2) (.slice p yn cc)) HFn.out.2
    exact ⟨⟨q1, c1, q2, c2, p, cc, Y⟩, by dsimp only; (try rw [HN.out.1]); (try rw [HN.out.2.1]); (try rw [HN.out.2.2]), HPa.out _ U9 p cc R9, U9, ⟨.inr (fun n g e => HNew.out n g e), fun x hx => .inl (HMem.out x hx), .inl ⟨rfl, rfl, rfl⟩, .inl ⟨rfl, rfl, rfl⟩⟩⟩
end Go.Proofs.Ytgpfmohaogppiaa
