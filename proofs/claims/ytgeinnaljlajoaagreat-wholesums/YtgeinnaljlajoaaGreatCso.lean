/- A row of submissions that came in, opened, with its bounds; no condition but the row's own reach. -/
import Derived.Test.YtgeinnaljlajoaaGreatCxM
import Derived.Test.YtgeinnaljlajoaaGreatCxL
namespace Go.Proofs.YtgeinnaljlajoaaGreat
open Go.ChangeShapes Go.WideShapes Go.RowKit Go.Joins Go.Lib
set_option linter.unusedVariables false
set_option linter.unusedSimpArgs false
set_option maxRecDepth 20000
def SubIn (w : World) (g o : Nat) (s : Sb) : Prop := w.cell? ⟨g, o, none⟩ = some (.int .i64 s.s1) ∧ w.cell? ⟨g, o + 1, none⟩ = some (.int .i64 s.s2) ∧ w.cell? ⟨g, o + 2, none⟩ = some (.int .i64 s.s3) ∧ w.cell? ⟨g, o + 3, none⟩ = some (.slice s.a1 s.n1 s.c1) ∧ w.cell? ⟨g, o + 4, none⟩ = some (.slice s.a2 s.n2 s.c2) ∧ w.cell? ⟨g, o + 5, none⟩ = some (.slice s.a3 s.n3 s.c3)
theorem SubIn.old {w w' : World} {g o : Nat} {s : Sb} (h : SubIn w g o s) (u : Old w w') : SubIn w' g o s := ⟨u.keep h.1, u.keep h.2.1, u.keep h.2.2.1, u.keep h.2.2.2.1, u.keep h.2.2.2.2.1, u.keep h.2.2.2.2.2⟩
def SubRow (w : World) (v : Value) (n : Nat) (f : Nat → Sb) : Prop := n ≤ 1466015503701 ∧ ∃ (p : Option Addr) (c : Nat), v = .slice p n c ∧ n ≤ c ∧ c ≤ 9223372036854775807 ∧ ∀ i, i < n → ∃ g off, p = some ⟨g, off, none⟩ ∧ SubIn w g (off + i * 6) (f i) ∧ (f i).Ok w
theorem SubRow.old {w w' : World} {v : Value} {n : Nat} {f : Nat → Sb} (h : SubRow w v n f) (u : Old w w') : SubRow w' v n f := by
 obtain ⟨hm, p, c, rfl, h2, h3, hc⟩ := h
 refine ⟨hm, p, c, rfl, h2, h3, fun i hi => ?_⟩
 obtain ⟨g, off, e, q, o⟩ := hc i hi
 exact ⟨g, off, e, q.old u, o.old u⟩
theorem bytesSub : Tryz.prog.bytesOf 25 = 96 := by kernel_rfl
theorem weightsAll_mem {H : Type} {P : Program} {e : TypeId} : ∀ {l : List (DataW H)} {d : DataW H}, d ∈ l → ∀ k ∈ d.weights P e, k ∈ DataW.weightsAll P e l
 | [], _, h, _, _ => by cases h
 | x :: r, d, h, k, hk => by
  unfold DataW.weightsAll
  rcases List.mem_cons.1 h with rfl | h
  ·exact List.mem_append_left _ hk
  ·exact List.mem_append_right _ (weightsAll_mem h k hk)
theorem trod_sub {H : Type} {enc : TypeId × Value → H} {w : World} {fuel : Nat} {cs : List Value} {y : DataW H × List MemPlace} (h : DataW.trod enc Tryz.prog w 0 (fun _ => true) true fuel 25 cs = some y) (hz : ∀ k ∈ y.1.weights Tryz.prog 25, k ≤ reachBytes) :
    ∃ s : Sb, cs = [.int .i64 s.s1, .int .i64 s.s2, .int .i64 s.s3, .slice s.a1 s.n1 s.c1, .slice s.a2 s.n2 s.c2, .slice s.a3 s.n3 s.c3] ∧ s.Ok w := by
 obtain ⟨xs, n, _, hd, hl, hlen, hf⟩ := DataW.trod_struct Tryz.underlying25 h
 rw [cellsSub] at hl
 match cs, hl with
 | [c0, c1, c2, c3, c4, c5], _ =>
  match xs, hlen, hd with
  | [y0, y1, y2, y3, y4, y5], _, hd =>
   have h0 := hf 0 _ rfl
   have h1 := hf 1 _ rfl
   have h2 := hf 2 _ rfl
   have h3 := hf 3 _ rfl
   have h4 := hf 4 _ rfl
   have h5 := hf 5 _ rfl
   simp [cellsI] at h0 h1 h2 h3 h4 h5
   obtain ⟨a0, e0, _, q0⟩ := DataW.trod_int Tryz.underlying2 h0
   obtain ⟨a1, e1, _, q1⟩ := DataW.trod_int Tryz.underlying2 h1
   obtain ⟨a2, e2, _, q2⟩ := DataW.trod_int Tryz.underlying2 h2
   obtain ⟨p1, n1, k1, x1, rfl, r1⟩ := trod_frow h3
   obtain ⟨p2, n2, k2, f2, rfl, r2⟩ := trod_srow h4
   obtain ⟨p3, n3, k3, x3, rfl, r3⟩ := trod_frow h5
   simp at e0 e1 e2
   subst e0 e1 e2
   have hdd : y.1 = .agg [y0.1, y1.1, y2.1, y3.1, y4.1, y5.1] := congrArg Prod.fst hd
   have hw : ∀ (j : Nat) (t : TypeId) (z : DataW H), ([2, 2, 2, 22, 23, 22] : List TypeId)[j]? = some t → [y0.1, y1.1, y2.1, y3.1, y4.1, y5.1][j]? = some z → ∀ x ∈ z.weights Tryz.prog t, x ≤ reachBytes := by
    intro j t z ht hz' x hx
    refine hz x ?_
    rw [hdd]
    simp only [DataW.weights, Tryz.underlying25]
    exact DataW.weights_mem_each ht hz' x hx
   have g1 := row_fits Tryz.underlying22 bytesF (len_row Tryz.underlying22 h3) (hw 3 _ _ rfl rfl)
   have g2 := row_fits Tryz.underlying23 bytesSpan (len_row Tryz.underlying23 h4) (hw 4 _ _ rfl rfl)
   have g3 := row_fits Tryz.underlying22 bytesF (len_row Tryz.underlying22 h5) (hw 5 _ _ rfl rfl)
   simp only [reachBytes] at g1 g2 g3
   exact ⟨⟨a0, a1, a2, p1, p2, p3, n1, n2, n3, k1, k2, k3, x1, x3, f2⟩, rfl, r1, r2, r3, (show n1 ≤ 17592186044000 by omega), (show n2 ≤ 5864062014805 by omega), (show n3 ≤ 17592186044000 by omega)⟩
theorem open_subs {H : Type} {enc : TypeId × Value → H} {w : World} {base : Nat} {v : Value} {d : DataW H} {ps : List MemPlace} (hv : Value.okWide Tryz.prog w .any base 40 v) (h : DataW.Trod enc Tryz.prog w 0 (fun _ => true) true 40 v d ps) (hz : ∀ k ∈ d.weights Tryz.prog 40, k ≤ reachBytes) : ∃ (n : Nat) (f : Nat → Sb), SubRow w v n f ∧ ((d = .nil ∧ n = 0) ∨ ∃ elems spare, d = .slice elems spare ∧ elems.length = n) := by
 obtain ⟨a0, len0, cap0, rfl⟩ := okWide_slice Tryz.underlying40 hv
 obtain ⟨fuel, hf⟩ := h
 have hlr := len_row Tryz.underlying40 hf
 have hfit := row_fits Tryz.underlying40 bytesSub hlr hz
 simp only [reachBytes] at hfit
 rcases DataW.trod_slice Tryz.underlying40 hf with ⟨hcs, hd0⟩ | ⟨a, len, cap, elems, rest, m, _, hcs, hx, hb, hl, hm, hlen, hel, _, _⟩
 ·simp [Value.cells] at hcs
  obtain ⟨rfl, rfl, rfl⟩ := hcs
  exact ⟨0, fun _ => ⟨0, 0, 0, none, none, none, 0, 0, 0, 0, 0, 0, fun _ => 0, fun _ => 0, fun _ => ⟨0, 0, false, false⟩⟩, ⟨by omega, none, 0, rfl, by omega, by omega, fun i hi => by omega⟩, .inl ⟨congrArg Prod.fst hd0, rfl⟩⟩
 ·simp [Value.cells] at hcs
  obtain ⟨rfl, rfl, rfl⟩ := hcs
  have hcm : cap0 ≤ 9223372036854775807 := by unfold maxLen at hm; omega
  have hdd : d = .slice (elems.map (·.1)) (rest.map (·.1)) := congrArg Prod.fst hx
  by_cases hzz : len0 = 0
  ·subst hzz
   exact ⟨0, fun _ => ⟨0, 0, 0, none, none, none, 0, 0, 0, 0, 0, 0, fun _ => 0, fun _ => 0, fun _ => ⟨0, 0, false, false⟩⟩, ⟨by omega, _, cap0, rfl, by omega, hcm, fun i hi => by omega⟩, .inr ⟨_, _, hdd, by simpa using hlen⟩⟩
  ·have each : ∀ i, i < len0 → ∃ s : Sb, (∀ j, j < 6 → w.cell? ((a.add (i * 6)).add j) = ([.int .i64 s.s1, .int .i64 s.s2, .int .i64 s.s3, .slice s.a1 s.n1 s.c1, .slice s.a2 s.n2 s.c2, .slice s.a3 s.n3 s.c3] : List Value)[j]?) ∧ s.Ok w := by
     intro i hi
     have h1 := hel i hi
     have h2 : elems[i]? = some (elems[i]'(by omega)) := List.getElem?_eq_getElem (by omega)
     rw [h2, cellsSub, Option.bind_eq_some_iff] at h1
     obtain ⟨cs', hcs, hy'⟩ := h1
     obtain ⟨s, rfl, hs⟩ := trod_sub hy' (fun k hk => hz k (by
      rw [hdd]
      simp only [DataW.weights, Tryz.underlying40]
      exact List.mem_cons_of_mem _ (List.mem_append_left _ (weightsAll_mem (List.mem_map.2 ⟨_, List.getElem_mem (by omega), rfl⟩) k hk))))
     exact ⟨s, fun j hj => cellsEach hcs j hj, hs⟩
   obtain ⟨b, off, spot⟩ := a
   obtain ⟨s0, h0, _⟩ := each 0 (by omega)
   have hspot : spot = none := by simpa [Addr.add] using World.cell?_spot (h0 0 (by omega))
   subst hspot
   have each2 : ∀ i, ∃ s : Sb, i < len0 → SubIn w b (off + i * 6) s ∧ s.Ok w := by
    intro i
    by_cases hi : i < len0
    ·obtain ⟨s, q1, q2⟩ := each i hi
     simp only [Go.WideShapes.add_plain] at q1
     exact ⟨s, fun _ => ⟨⟨q1 0 (by omega), q1 1 (by omega), q1 2 (by omega), q1 3 (by omega), q1 4 (by omega), q1 5 (by omega)⟩, q2⟩⟩
    ·exact ⟨s0, fun h => absurd h hi⟩
   exact ⟨len0, fun i => Classical.choose (each2 i), ⟨by omega, _, cap0, rfl, hl, hcm, fun i hi => ⟨b, off, rfl, Classical.choose_spec (each2 i) hi⟩⟩, .inr ⟨_, _, hdd, by simpa using hlen⟩⟩
end Go.Proofs.YtgeinnaljlajoaaGreat
