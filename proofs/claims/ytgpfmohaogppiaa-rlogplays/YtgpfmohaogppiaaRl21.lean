/- The document's log of layer 16: New, Last, Newer, Term, Has at every log; conditions: it lies in memory. -/
import Derived.Test.YtgpfmohaogppiaaRl20
namespace Go.Proofs.Ytgpfmohaogppiaa
open Go.RowKit Go.Lib
set_option linter.unusedVariables false
set_option linter.unusedSimpArgs false
set_option maxRecDepth 20000
/-- Where the document's log lies. -/
structure Dg where
  p1 : Option Addr
  c1 : Nat
  p2 : Option Addr
  c2 : Nat
  p : Option Addr
  c : Nat
  X : List En
def Dg.v1 (D : Dg) (P : PL) : Value := .slice D.p1 P.a.length D.c1
def Dg.v2 (D : Dg) (P : PL) : Value := .slice D.p2 P.b.length D.c2
def Dg.ve (D : Dg) : Value := .slice D.p D.X.length D.c
def DV (P : PL) (D : Dg) : Value := .agg #[.int .i64 P.ix, .int .i64 P.tm, D.v1 P, D.v2 P, D.ve]
structure DocP (P : PL) (D : Dg) (w : World) : Prop where
  e : ERow w D.ve D.X
  x : pls D.X = P.es
  a : NRowL w (D.v1 P) P.a.length (gI P.a)
  b : NRowL w (D.v2 P) P.b.length (gI P.b)
  ok : PLok P
theorem DocP.old {P : PL} {D : Dg} {w w' : World} (h : DocP P D w) (u : Old w w') : DocP P D w' := ⟨h.e.old u, h.x, h.a.old u, h.b.old u, h.ok⟩
theorem DocP.len {P : PL} {D : Dg} {w : World} (h : DocP P D w) : D.X.length = P.es.length := by rw [← h.x, pls_len]
theorem DocP.at {P : PL} {D : Dg} {w : World} (h : DocP P D w) (j : Nat) (hj : j < D.X.length) : ∃ g off, D.p = some ⟨g, off, none⟩ ∧ EntIn w g (off + j * 4) (atE D.X j).e := by
  obtain ⟨-, ⟨p, c, e, -, -, q⟩, -⟩ := h.e
  obtain ⟨g, off, e2, e3⟩ := q j hj
  simp only [Dg.ve, Value.slice.injEq] at e
  exact ⟨g, off, by rw [e.1]; exact e2, e3⟩
theorem DocP.few {P : PL} {D : Dg} {w : World} (h : DocP P D w) : D.X.length ≤ 1099511627776 ∧ D.X.length ≤ D.c ∧ D.c ≤ 9223372036854775807 := by
  have h1 := h.ok.bound
  have h2 := h.ok.i0
  have h3 := h.len
  obtain ⟨-, ⟨p, c, e, q1, q2, -⟩, -⟩ := h.e
  simp only [Dg.ve, Value.slice.injEq] at e
  obtain ⟨-, -, rfl⟩ := e
  exact ⟨by omega, q1, q2⟩
theorem lI_at {P : PL} {X : List En} (x : pls X = P.es) (n : Nat) (h : X.length = n + 1) : lI P = (atE X n).i ∧ lT P = (atE X n).t := by
  unfold lI lT
  rw [← x, lstI_pls, lstT_pls]
  have e : X = X.take n ++ [atE X n] := by rw [← take_at (by omega), List.take_of_length_le (by omega)]
  constructor
  · conv => lhs; rw [e]
    rw [lstI_app]; rfl
  · conv => lhs; rw [e]
    rw [lstT_app]; rfl
theorem lI_none {P : PL} {X : List En} (x : pls X = P.es) (h : X.length = 0) : lI P = P.ix ∧ lT P = P.tm := by
  have : P.es = [] := by rw [← x, List.length_eq_zero_iff.1 h]; rfl
  unfold lI lT
  rw [this]
  exact ⟨rfl, rfl⟩
set_option maxHeartbeats 4000000 in
set_option maxRecDepth 20000 in
theorem rLast_any (P : PL) (D : Dg) (w : World) (h : DocP P D w) :
    Calls Try.prog 24 #[DV P D] w fun e w' => e = .returned (.tuple #[.int .i64 (lI P), .int .i64 (lT P)]) ∧ Old w w' := by
  have hf := h.few
  have HA := hid (fun j hj => (h.at j hj))
  have HX := hid h.x
  unfold DV Dg.v1 Dg.v2 Dg.ve
  obtain ⟨q1, c1, q2, c2, q, c, X⟩ := D
  dsimp only at hf HA HX ⊢
  generalize P.a.length = n1 at *
  generalize P.b.length = n2 at *
  obtain ⟨n, hn⟩ : ∃ n, X.length = n := ⟨_, rfl⟩
  have HN := hid hn
  rw [hn] at hf HA ⊢
  obtain ⟨hf1, hf2, hf3⟩ := hf
  have hmm : (n : Int) ≤ 1099511627776 := by omega
  clear hn h
  cases n with
  | zero =>
    obtain ⟨e1, e2⟩ := lI_none HX.out HN.out
    rw [e1, e2]
    clear e1 e2 HA HX
    go_enter Try.func24, Try.ntmps24
    go_wp2
    go_quiet (fail)
    go_wp2
    go_ret2
    exact ⟨rfl, ((Old.refl w).alloc _).drewN _⟩
  | succ k =>
    obtain ⟨e1, e2⟩ := lI_at HX.out k HN.out
    rw [e1, e2]
    obtain ⟨g, off, rfl, x4⟩ := HA.out k (by omega)
    obtain ⟨N, hN⟩ : ∃ N, k + 1 = N := ⟨_, rfl⟩
    rw [hN]
    have z1 : ((N : Int) == 0) = false := by simp; omega
    have q0 : (N : Int) - 1 = (k : Int) := by omega
    have l1 : (0 : Int) ≤ (k : Int) := by omega
    have l2 : (k : Int) < (N : Int) := by omega
    have l3 : (N : Int) ≤ 1099511627777 := by omega
    generalize atE X k = E at *
    obtain ⟨ei, et, ek, ep, ec, ed⟩ := E
    dsimp only [En.e] at x4 ⊢
    obtain ⟨x0, x1, x2, x3⟩ := x4.old ((Old.refl w).alloc (.cells #[.int .i64 P.ix, .int .i64 P.tm, .slice q1 n1 c1, .slice q2 n2 c2, .slice (some ⟨g, off, none⟩) N c] 54))
    dsimp only at x0 x1 x2 x3
    generalize ed.length = edl at *
    clear e1 e2 HA HX x4 hN hf2 hf1
    go_enter Try.func24, Try.ntmps24
    go_wp2
    go_quiet (fail)
    go_wp2
    go_ret2
    exact ⟨rfl, (((Old.refl w).alloc _).alloc _).drewN _⟩
set_option maxHeartbeats 2000000 in
set_option maxRecDepth 20000 in
theorem rNewer_any (P : PL) (D : Dg) (a b : Int) (w : World) (h : DocP P D w) :
    Calls Try.prog 44 #[DV P D, .int .i64 a, .int .i64 b] w fun e w' => e = .returned (.bool (newB (lI P) (lT P) a b)) ∧ Old w w' := by
  have HL := hid (rLast_any P D (w.alloc (.cells #[.int .i64 P.ix, .int .i64 P.tm, D.v1 P, D.v2 P, D.ve] 54)) (h.old ((Old.refl w).alloc _)))
  unfold DV Dg.v1 Dg.v2 Dg.ve at HL ⊢
  obtain ⟨q1, c1, q2, c2, q, c, X⟩ := D
  dsimp only at HL ⊢
  generalize P.a.length = n1 at *
  generalize P.b.length = n2 at *
  generalize X.length = n at *
  generalize lI P = li at *
  generalize lT P = lt at *
  go_enter Try.func44, Try.ntmps44
  go_upto_region 2 with (go_at_call 24; refine HL.out.mono ?_; rintro e w1 ⟨rfl, o1⟩; have O1 := hid (((Old.refl w).alloc _).trans o1); clear o1)
  by_cases h2 : b = lt
  · subst h2
    have d2 : (b != b) = false := by simp
    go_wp2
    go_ret
    exact ⟨ret_b (by unfold newB; simp), O1.out⟩
  · have d2 : (b != lt) = true := by simp [h2]
    go_wp2
    go_ret
    exact ⟨ret_b (by unfold newB; simp [h2]), O1.out⟩
/-- The term at an index, told by entries one by one. -/
theorem tm_of {P : PL} (k : PLok P) (a : Int) (j : Nat) (hj : j < P.es.length) (h : (atE P.es j).i = a) : drpB P a = true ∧ tmP P a = (atE P.es j).t := by
  have hi := Fol.nth _ _ _ k.fol j hj
  have hb : drpB P a = true := by unfold drpB; simp; omega
  refine ⟨hb, ?_⟩
  unfold tmP
  rw [if_pos hb, show (a - P.ix).toNat = j + 1 from by omega, take_at hj, lstT_app]
  rfl
theorem tm_no {P : PL} (k : PLok P) (a : Int) (h0 : a ≠ P.ix) (h : ∀ j, j < P.es.length → (atE P.es j).i ≠ a) : drpB P a = false ∧ tmP P a = 0 := by
  have hb : drpB P a = false := by
    cases e : drpB P a with
    | false => rfl
    | true =>
      unfold drpB at e
      simp at e
      have hj : (a - P.ix - 1).toNat < P.es.length := by omega
      have := Fol.nth _ _ _ k.fol _ hj
      exact absurd (this.trans (by omega)) (h _ hj)
  exact ⟨hb, by unfold tmP; rw [if_neg (by rw [hb]; decide)]⟩
theorem tm_ix {P : PL} : drpB P P.ix = true ∧ tmP P P.ix = P.tm := by
  have hb : drpB P P.ix = true := by unfold drpB; simp; omega
  refine ⟨hb, ?_⟩
  unfold tmP
  rw [if_pos hb, Int.sub_self]
  rfl
set_option maxHeartbeats 4000000 in
set_option maxRecDepth 20000 in
theorem rTerm_any (P : PL) (D : Dg) (a : Int) (w : World) (h : DocP P D w) :
    Calls Try.prog 40 #[DV P D, .int .i64 a] w fun e w' => e = .returned (.tuple #[.int .i64 (tmP P a), .bool (drpB P a)]) ∧ Old w w' := by
  have hf := h.few
  have HA := hid (fun j hj => (h.at j hj))
  have HLn := hid h.len
  have HX := hid (fun j (hj : j < D.X.length) => show (atE P.es j).i = (atE D.X j).i ∧ (atE P.es j).t = (atE D.X j).t from by rw [← h.x, atE_pls _ _ hj]; exact ⟨rfl, rfl⟩)
  have HK := hid h.ok
  unfold DV Dg.v1 Dg.v2 Dg.ve
  obtain ⟨q1, c1, q2, c2, q, c, X⟩ := D
  dsimp only at hf HA HX HLn ⊢
  generalize P.a.length = n1 at *
  generalize P.b.length = n2 at *
  obtain ⟨n, hn⟩ : ∃ n, X.length = n := ⟨_, rfl⟩
  rw [hn] at hf HA HX HLn ⊢
  obtain ⟨hf1, hf2, hf3⟩ := hf
  have hmm : (n : Int) ≤ 1099511627776 := by omega
  clear hn h
  by_cases ha : a = P.ix
  · subst ha
    rw [(tm_ix (P := P)).1, (tm_ix (P := P)).2]
    have d0 : (P.ix == P.ix) = true := by simp
    clear HA HX HLn HK
    go_enter Try.func40, Try.ntmps40
    go_wp2
    go_ret2
    exact ⟨rfl, (Old.refl w).alloc _⟩
  · have d0 : (a == P.ix) = false := by simp [ha]
    have HNo := hid (tm_no HK.out a ha)
    have HYs := hid (tm_of HK.out a)
    generalize tmP P a = tv at *
    generalize drpB P a = tb at *
    generalize P.ix = pix at *
    generalize P.tm = ptm at *
    go_enter Try.func40, Try.ntmps40
    go_upto_region 3 with (fail)
    have U0 := hid ((Old.refl w).alloc (.cells #[.int .i64 pix, .int .i64 ptm, .slice q1 n1 c1, .slice q2 n2 c2, .slice q n c] 54))
    have B0 := hid (alloc_at w (.cells #[.int .i64 pix, .int .i64 ptm, .slice q1 n1 c1, .slice q2 n2 c2, .slice q n c] 54))
    generalize w.alloc (.cells #[.int .i64 pix, .int .i64 ptm, .slice q1 n1 c1, .slice q2 n2 c2, .slice q n c] 54) = w0 at *
    generalize w.heap.size = bx at *
    go_wp2
    go_loopw [6] (fun i wx => ∃ k : Nat, k ≤ n ∧ i = .int .i64 (k : Nat) ∧ Hid (Old w0 wx ∧ ∀ j, j < k → (atE X j).i ≠ a)) (fun i _ => n - (intOf i).toNat)
    case atStart => exact ⟨0, Nat.zero_le _, rfl, hid ⟨Old.refl _, fun j hj => by omega⟩⟩
    case round =>
      obtain ⟨k, hk, rfl, HI⟩ := hrel
      have y4 : wr.cell? ⟨bx, 4, none⟩ = some (.slice q n c) := by rw [Go.Joins.cell_of_block (HI.out.1.block B0.out)]; rfl
      by_cases hlt : k < n
      · obtain ⟨g, off, rfl, x4⟩ := HA.out k hlt
        obtain ⟨x0, x1, x2, x3⟩ := x4.old (U0.out.trans HI.out.1)
        have HXk := hid (HX.out k hlt)
        have HYk := hid (HYs.out k (by rw [← HLn.out]; exact hlt))
        have HSt := hid (show (atE X k).i ≠ a → ∀ j, j < k + 1 → (atE X j).i ≠ a from fun h j hj => if e : j = k then (by rw [e]; exact h) else HI.out.2 j (by omega))
        generalize atE X k = E at *
        obtain ⟨ei, et, ek, ep, ec, ed⟩ := E
        dsimp only [En.e] at x0 x1 x2 x3
        dsimp only at HXk HSt
        have l1 : (0 : Int) ≤ (k : Int) := by omega
        have l2 : (k : Int) < (n : Int) := by omega
        clear x4
        by_cases he : ei = a
        · subst he
          have d1 : (ei == ei) = true := by simp
          obtain ⟨e1, e2⟩ := HYk.out HXk.out.1
          rw [HXk.out.2] at e2
          subst e1 e2
          go_wp2
          go_ret2
          exact ⟨rfl, U0.out.trans HI.out.1⟩
        · have d1 : (ei == a) = false := by simp [he]
          have HS2 := hid (HSt.out he)
          clear HSt HYk HXk
          go_wp2
          exact ⟨⟨k + 1, hlt, by go_num, hid ⟨HI.out.1, HS2.out⟩⟩, by simp [intOf]; omega⟩
      · obtain rfl : n = k := by omega
        obtain ⟨e1, e2⟩ := HNo.out (fun j hj => by rw [(HX.out j (by rw [HLn.out]; exact hj)).1]; exact HI.out.2 j (by rw [HLn.out]; exact hj))
        subst e1 e2
        go_wp2
        go_ret2
        exact ⟨rfl, U0.out.trans HI.out.1⟩
set_option maxHeartbeats 2000000 in
set_option maxRecDepth 20000 in
theorem rHas_log (P : PL) (D : Dg) (a b : Int) (w : World) (h : DocP P D w) :
    Calls Try.prog 43 #[DV P D, .int .i64 a, .int .i64 b] w fun e w' => e = .returned (.bool (drpB P a && (tmP P a == b))) ∧ Old w w' := by
  have HL := hid (rTerm_any P D a (w.alloc (.cells #[.int .i64 P.ix, .int .i64 P.tm, D.v1 P, D.v2 P, D.ve] 54)) (h.old ((Old.refl w).alloc _)))
  unfold DV Dg.v1 Dg.v2 Dg.ve at HL ⊢
  obtain ⟨q1, c1, q2, c2, q, c, X⟩ := D
  dsimp only at HL ⊢
  generalize P.a.length = n1 at *
  generalize P.b.length = n2 at *
  generalize X.length = n at *
  generalize tmP P a = tv at *
  generalize drpB P a = tb at *
  go_enter Try.func43, Try.ntmps43
  go_upto_region 2 with (go_at_call 40; refine HL.out.mono ?_; rintro e w1 ⟨rfl, o1⟩; have O1 := hid (((Old.refl w).alloc _).trans o1); clear o1)
  cases tb with
  | false =>
    go_wp2
    go_ret
    exact ⟨rfl, O1.out⟩
  | true =>
    go_wp2
    go_ret
    exact ⟨by simp, O1.out⟩
end Go.Proofs.Ytgpfmohaogppiaa
