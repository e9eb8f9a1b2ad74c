/- What a log answers, told by what it tells; what is dropped changes nothing of it; conditions: it lies in memory. -/
import Derived.Test.YtgpfmohaogppiaaRl14
import Derived.Test.YtgpfmohaogppiaaRl17
import Derived.Test.YtgpfmohaogppiaaRl18
namespace Go.Proofs.Ytgpfmohaogppiaa
open Go.RowKit Go.Lib
set_option linter.unusedVariables false
set_option linter.unusedSimpArgs false
set_option maxRecDepth 20000
def lI (P : PL) : Int := lstI P.ix P.es
def lT (P : PL) : Int := lstT P.tm P.es
theorem LogP.lasts {base lb : Nat} {G : Lg} {P : PL} {w : World} (h : LogP base lb G P w) : lstI G.ix G.es = lI P ∧ lstT G.tm G.es = lT P := by
  unfold lI lT
  rw [h.is.ix, h.is.tm, ← lstI_pls _ G.es, ← lstT_pls _ G.es, h.is.es]
  exact ⟨rfl, rfl⟩
theorem LogP.last {base lb : Nat} {G : Lg} {P : PL} {w : World} (h : LogP base lb G P w) : Calls Try.prog 8 #[.pointer (some ⟨lb, 0, none⟩)] w fun e w' => e = .returned (.tuple #[.int .i64 (lI P), .int .i64 (lT P)]) ∧ Old w w' := by
  have := h.m.last h.lg
  rw [h.lasts.1, h.lasts.2] at this
  exact this
theorem LogP.newer {base lb : Nat} {G : Lg} {P : PL} {w : World} (h : LogP base lb G P w) (a b : Int) : Calls Try.prog 22 #[.pointer (some ⟨lb, 0, none⟩), .int .i64 a, .int .i64 b] w fun e w' => e = .returned (.bool (newB (lI P) (lT P) a b)) ∧ Old w w' := by
  have hf := h.lg.few
  refine newer_any lb _ _ _ _ a b _ _ w (h.m.r (by omega)) ?_ ?_
  · rw [lastI_map]; exact h.lasts.1
  · rw [lastT_map]; exact h.lasts.2
/-- The term at an index. -/
def tmP (P : PL) (a : Int) : Int := if drpB P a = true then lstT P.tm (P.es.take (a - P.ix).toNat) else 0
theorem LogP.term {base lb : Nat} {G : Lg} {P : PL} {w : World} (h : LogP base lb G P w) (a : Int) : Calls Try.prog 18 #[.pointer (some ⟨lb, 0, none⟩), .int .i64 a] w fun e w' => e = .returned (.tuple #[.int .i64 (tmP P a), .bool (drpB P a)]) ∧ Old w w' := by
  have q := term_any lb G.ix G.tm G.es.length (entA (G.es.map En.e)) a w (h.m.s h.lg)
  have hB : tmB G.ix G.es.length a = drpB P a := by unfold tmB drpB; rw [h.is.ix, h.is.len.1]
  have hV : tmV G.ix G.tm G.es.length (entA (G.es.map En.e)) a = tmP P a := by
    unfold tmP
    by_cases hb : drpB P a = true
    · rw [if_pos hb, tm_take _ _ _ _ (hB.trans hb), h.is.ix, h.is.tm, ← lstT_pls, pls_take, h.is.es]
    · unfold tmV
      rw [if_neg (by rw [hB]; exact hb), if_neg hb]
  rw [hB, hV] at q
  exact q
theorem lastCf_app : ∀ (c : Cf) (A B : List Cf), lastCf c (A ++ B) = lastCf (lastCf c A) B
  | c, [], B => rfl
  | c, x :: r, B => lastCf_app x r B
theorem lastCf_snd : ∀ (c d : Cf) (A : List Cf), c.2 = d.2 → (lastCf c A).2 = (lastCf d A).2
  | c, d, [], h => h
  | c, d, x :: r, h => rfl
/-- The last configuration. -/
def cfL (P : PL) : Cf := lastCf (P.ix, P.a, P.b) (cfs P.es)
theorem lastCf_at : ∀ (c : Cf) (L M : List Cf), (c :: L ++ M)[L.length]? = some (lastCf c L)
  | c, [], M => rfl
  | c, x :: r, M => by show (x :: r ++ M)[r.length]? = some (lastCf x r); exact lastCf_at x r M
theorem Is.at {G : Lg} {P : PL} (h : Is G P) (n : Nat) : (cfs (P.es.take n)).length < G.cs.length ∧ (atP G.cs (cfs (P.es.take n)).length).pl = lastCf (P.ix, P.a, P.b) (cfs (P.es.take n)) := by
  have e : cfs P.es = cfs (P.es.take n) ++ cfs (P.es.drop n) := by rw [← cfs_app, List.take_append_drop]
  have hl : (cfs (P.es.take n)).length < G.cs.length := by rw [h.len.2, e, List.length_append]; omega
  refine ⟨hl, ?_⟩
  have q := lastCf_at (P.ix, P.a, P.b) (cfs (P.es.take n)) (cfs (P.es.drop n))
  rw [List.cons_append, ← e, ← h.cs, List.getElem?_map, List.getElem?_eq_getElem hl, ← atP_get _ _ hl] at q
  exact Option.some.inj q
theorem LogP.conf {base lb : Nat} {G : Lg} {P : PL} {w : World} (h : LogP base lb G P w) : Calls Try.prog 17 #[.pointer (some ⟨lb, 0, none⟩)] w fun e w' => ∃ u1 u2, e = .returned (.tuple #[.agg #[u1, u2], .int .i64 (cfL P).1]) ∧ OwnI 0 w' u1 (cfL P).2.1 ∧ OwnI 0 w' u2 (cfL P).2.2 ∧ Old w w' := by
  have q := h.is.at P.es.length
  rw [List.take_length] at q
  have hx : (atP G.cs (cfs P.es).length).pl = cfL P := q.2
  have hj : (cfs P.es).length + 1 = G.cs.length := by rw [h.is.len.2]
  have c := conf_any base lb G _ w h.m h.lg hj
  rw [← hx]
  exact c
/-- How many entries are up tz an index. -/
def cN (P : PL) (a : Int) : Nat := (min (a - P.ix) (P.es.length : Int)).toNat
def cfA (P : PL) (a : Int) : Cf := lastCf (P.ix, P.a, P.b) (cfs (P.es.take (cN P a)))
theorem LogP.confAt {base lb : Nat} {G : Lg} {P : PL} {w : World} (h : LogP base lb G P w) (a : Int) : Calls Try.prog 20 #[.pointer (some ⟨lb, 0, none⟩), .int .i64 a] w fun e w' => ∃ u1 u2, e = .returned (.agg #[u1, u2]) ∧ OwnI 0 w' u1 (cfA P a).2.1 ∧ OwnI 0 w' u2 (cfA P a).2.2 ∧ Old w w' := by
  have q := h.is.at (cN P a)
  have hx : (atP G.cs (cfs (P.es.take (cN P a))).length).pl = cfA P a := q.2
  rw [← hx]
  have hm := h.is.cs
  have hn : cN P a ≤ P.es.length := by unfold cN; omega
  have hsp := h.ok.split (cN P a) hn
  by_cases ha : P.ix ≤ a
  · rw [← List.take_append_drop (cN P a) P.es, cfs_app, ← List.cons_append] at hm
    have h1 : ∀ y ∈ (P.ix, P.a, P.b) :: cfs (P.es.take (cN P a)), y.1 ≤ a := fun y hy => by have := hsp.1 y hy; unfold cN at this; omega
    have h2 : ∀ y ∈ cfs (P.es.drop (cN P a)), a < y.1 := fun y hy => by
      have q := hsp.2 y hy
      have hne : cN P a < P.es.length := by
        have h0 : P.es.drop (cN P a) ≠ [] := fun e => by rw [e] at hy; cases hy
        have := List.length_pos_iff.2 h0
        rw [List.length_drop] at this
        omega
      unfold cN at q hne
      omega
    obtain ⟨g1, g2, g3⟩ := cnt_split hm h1 h2
    exact confAt_any base lb G a _ _ w h.m h.lg g1 g2 g3 (by rw [List.length_cons]; omega)
  · have hz : cN P a = 0 := by unfold cN; omega
    have e : cfs (P.es.take (cN P a)) = [] := by rw [hz]; rfl
    rw [e]
    refine confAt_any base lb G a 0 _ w h.m h.lg (Nat.zero_le _) (fun i hi => by omega) ?_ (by simp)
    obtain ⟨-, -, g3⟩ := cnt_split (U := []) (idx := a) hm (fun y hy => by cases hy) (fun y hy => by
      have hs := h.ok.split 0 (Nat.zero_le _)
      rcases List.mem_cons.1 hy with rfl | q
      · show a < P.ix; omega
      · have := hs.2 y (by rw [List.drop_zero]; exact q); omega)
    exact g3
/-- What is dropped changes nothing of what is left. -/
theorem drp_facts {P : PL} (k : PLok P) (tz at_ : Int) (h1 : P.ix ≤ tz) (h2 : tz ≤ P.ix + P.es.length) (h3 : tz ≤ at_) :
    lI (drpP P tz) = lI P ∧ lT (drpP P tz) = lT P ∧ (cfL (drpP P tz)).2 = (cfL P).2 ∧ drpB (drpP P tz) at_ = drpB P at_ ∧ tmP (drpP P tz) at_ = tmP P at_ ∧ (cfA (drpP P tz) at_).2 = (cfA P at_).2 ∧ entL (drpP P tz) (at_ + 1) 100 = entL P (at_ + 1) 100 := by
  have hB : drpB P tz = true := by unfold drpB; simp; omega
  have hP : drpP P tz = ⟨tz, lstT P.tm (P.es.take (drpN P tz)), P.es.drop (drpN P tz), (lastCf (P.ix, P.a, P.b) (cfs (P.es.take (drpN P tz)))).2.1, (lastCf (P.ix, P.a, P.b) (cfs (P.es.take (drpN P tz)))).2.2⟩ := by unfold drpP; rw [if_pos hB]
  obtain ⟨g, hg⟩ : ∃ g, drpN P tz = g := ⟨_, rfl⟩
  have hgn : g ≤ P.es.length := by rw [← hg]; unfold drpN; omega
  have hgi : P.ix + g = tz := by rw [← hg]; unfold drpN; omega
  rw [hP, hg]
  have hf := k.fol
  rw [← List.take_append_drop g P.es, Fol.app] at hf
  have hl := Fol.len _ _ _ hf.1
  rw [List.length_take, Nat.min_eq_left hgn, hgi] at hl
  have e1 : drpB ⟨tz, lstT P.tm (P.es.take g), P.es.drop g, (lastCf (P.ix, P.a, P.b) (cfs (P.es.take g))).2.1, (lastCf (P.ix, P.a, P.b) (cfs (P.es.take g))).2.2⟩ at_ = drpB P at_ := by
    unfold drpB
    dsimp only
    rw [List.length_drop]
    rw [Bool.eq_iff_iff]
    simp only [Bool.and_eq_true, decide_eq_true_eq]
    constructor <;> intro h <;> omega
  have tk : ∀ m : Nat, P.es.take (g + m) = P.es.take g ++ (P.es.drop g).take m := fun m => by rw [List.take_add]
  refine ⟨?_, ?_, ?_, e1, ?_, ?_, ?_⟩
  · show lstI tz (P.es.drop g) = lstI P.ix P.es
    rw [← hl, ← lstI_app, List.take_append_drop]
  · show lstT (lstT P.tm (P.es.take g)) (P.es.drop g) = lstT P.tm P.es
    rw [← lstT_app, List.take_append_drop]
  · show (lastCf (tz, _, _) (cfs (P.es.drop g))).2 = (lastCf (P.ix, P.a, P.b) (cfs P.es)).2
    have e : cfs P.es = cfs (P.es.take g) ++ cfs (P.es.drop g) := by rw [← cfs_app, List.take_append_drop]
    rw [e, lastCf_app]
    exact lastCf_snd _ _ _ rfl
  · unfold tmP
    rw [e1]
    split
    · show lstT (lstT P.tm (P.es.take g)) ((P.es.drop g).take (at_ - tz).toNat) = _
      rw [← lstT_app, ← tk, show g + (at_ - tz).toNat = (at_ - P.ix).toNat from by omega]
    · rfl
  · show (lastCf (tz, _, _) (cfs ((P.es.drop g).take (cN ⟨tz, _, P.es.drop g, _, _⟩ at_)))).2 = (lastCf (P.ix, P.a, P.b) (cfs (P.es.take (cN P at_)))).2
    have e2 : cN P at_ = g + cN ⟨tz, lstT P.tm (P.es.take g), P.es.drop g, (lastCf (P.ix, P.a, P.b) (cfs (P.es.take g))).2.1, (lastCf (P.ix, P.a, P.b) (cfs (P.es.take g))).2.2⟩ at_ := by
      unfold cN
      dsimp only
      rw [List.length_drop]
      omega
    rw [e2, tk, cfs_app, lastCf_app]
    exact lastCf_snd _ _ _ rfl
  · have e3 : entK P (at_ + 1) = g + entK ⟨tz, lstT P.tm (P.es.take g), P.es.drop g, (lastCf (P.ix, P.a, P.b) (cfs (P.es.take g))).2.1, (lastCf (P.ix, P.a, P.b) (cfs (P.es.take g))).2.2⟩ (at_ + 1) := by
      unfold entK ahN
      dsimp only
      rw [List.length_drop]
      omega
    have e4 : entM P (at_ + 1) 100 = entM ⟨tz, lstT P.tm (P.es.take g), P.es.drop g, (lastCf (P.ix, P.a, P.b) (cfs (P.es.take g))).2.1, (lastCf (P.ix, P.a, P.b) (cfs (P.es.take g))).2.2⟩ (at_ + 1) 100 := by
      unfold entM
      rw [e3]
      dsimp only
      rw [List.length_drop]
      congr 3
      omega
    show ((P.es.drop g).drop _).take _ = (P.es.drop (entK P (at_ + 1))).take (entM P (at_ + 1) 100)
    rw [e3, e4, List.drop_drop]
/-- Two logs beside each other. -/
structure TwoL (W0 : World) (lb1 : Nat) (G1 : Lg) (P1 : PL) (lb2 : Nat) (G2 : Lg) (P2 : PL) (w : World) : Prop where
  a : LogP W0.heap.size lb1 G1 P1 w
  b : LogP W0.heap.size lb2 G2 P2 w
  n : ∀ k ∈ mbl lb1 G1, k ∉ mbl lb2 G2
  u : Old W0 w
theorem TwoL.swap {W0 : World} {lb1 : Nat} {G1 : Lg} {P1 : PL} {lb2 : Nat} {G2 : Lg} {P2 : PL} {w : World} (h : TwoL W0 lb1 G1 P1 lb2 G2 P2 w) : TwoL W0 lb2 G2 P2 lb1 G1 P1 w := ⟨h.b, h.a, fun k h1 h2 => h.n k h2 h1, h.u⟩
theorem TwoL.old {W0 : World} {lb1 : Nat} {G1 : Lg} {P1 : PL} {lb2 : Nat} {G2 : Lg} {P2 : PL} {w w' : World} (h : TwoL W0 lb1 G1 P1 lb2 G2 P2 w) (u : Old w w') : TwoL W0 lb1 G1 P1 lb2 G2 P2 w' := ⟨h.a.old u, h.b.old u, h.n, h.u.trans u⟩
theorem TwoL.mov {W0 : World} {lb1 : Nat} {G1 : Lg} {P1 : PL} {lb2 : Nat} {G2 : Lg} {P2 : PL} {w w' : World} (h : TwoL W0 lb1 G1 P1 lb2 G2 P2 w) {G1' : Lg} {P1' : PL} (m : Mov lb1 w G1 w' G1') (l : LogP W0.heap.size lb1 G1' P1' w') : TwoL W0 lb1 G1' P1' lb2 G2 P2 w' := by
  refine ⟨l, ⟨h.b.m.chg m.1 (fun k hk _ => h.a.m.ty k hk) (fun k h1 h2 => h.n k h2 h1), h.b.is, h.b.ok⟩, fun k h1 h2 => ?_, Mov.keep h.u h.a m⟩
  rcases m.2 k h1 with q | q
  · exact h.n k q h2
  · have := (h.b.m.lt k h2).2; omega
end Go.Proofs.Ytgpfmohaogppiaa
