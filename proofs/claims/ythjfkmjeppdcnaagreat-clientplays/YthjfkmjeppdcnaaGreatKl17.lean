/- A row of law 21's steps that came in, opened; no condition but the row's own reach. -/
import Derived.Test.YthjfkmjeppdcnaaGreatClJ
import Derived.Test.YthjfkmjeppdcnaaGreatClV
namespace Go.Proofs.YthjfkmjeppdcnaaGreat
open Go.ChangeShapes Go.WideShapes Go.RowKit Go.Joins Go.Lib
set_option linter.unusedVariables false
set_option linter.unusedSimpArgs false
set_option maxRecDepth 20000
theorem bytesSub : Tryz.prog.bytesOf 33 = 96 := by kernel_rfl
theorem weightsAll_mem {H : Type} {P : Program} {e : TypeId} : ∀ {l : List (DataW H)} {d : DataW H}, d ∈ l → ∀ k ∈ d.weights P e, k ∈ DataW.weightsAll P e l
 | [], _, h, _, _ => by cases h
 | x :: r, d, h, k, hk => by
  unfold DataW.weightsAll
  rcases List.mem_cons.1 h with rfl | h
  ·exact List.mem_append_left _ hk
  ·exact List.mem_append_right _ (weightsAll_mem h k hk)
theorem trod_sub {H : Type} {enc : TypeId × Value → H} {w : World} {fuel : Nat} {cs : List Value} {y : DataW H × List MemPlace} (h : DataW.trod enc Tryz.prog w 0 (fun _ => true) true fuel 33 cs = some y) (hz : ∀ k ∈ y.1.weights Tryz.prog 33, k ≤ reachBytes) :
    ∃ s : Sb, cs = [.int .i64 s.s1, .int .i64 s.s2, .int .i64 s.s3, .slice s.a1 s.n1 s.c1, .slice s.a2 s.n2 s.c2, .slice s.a3 s.n3 s.c3] ∧ s.Ok w := by
 obtain ⟨xs, n, _, hd, hl, hlen, hf⟩ := DataW.trod_struct Tryz.underlying33 h
 rw [cellsSub] at hl
 match cs, hl with
 | [c0, c1, c2, c3, c4, c5], _ =>
  match xs, hlen, hd with
  | [y0, y1, y2, y3, y4, y5], _, hd =>
   have h0 := hf 0 _ rfl
   have h1 := hf 1 _ rfl
   have h2 := hf 2 _ rfl
   have h3 := hf 3 _ rfl
   have h4 := hf 4 _ rfl
   have h5 := hf 5 _ rfl
   simp [cellsI] at h0 h1 h2 h3 h4 h5
   obtain ⟨a0, e0, _, q0⟩ := DataW.trod_int Tryz.underlying2 h0
   obtain ⟨a1, e1, _, q1⟩ := DataW.trod_int Tryz.underlying2 h1
   obtain ⟨a2, e2, _, q2⟩ := DataW.trod_int Tryz.underlying2 h2
   obtain ⟨p1, n1, k1, x1, rfl, r1⟩ := trod_frow h3
   obtain ⟨p2, n2, k2, f2, rfl, r2⟩ := trod_srow h4
   obtain ⟨p3, n3, k3, x3, rfl, r3⟩ := trod_frow h5
   simp at e0 e1 e2
   subst e0 e1 e2
   have hdd : y.1 = .agg [y0.1, y1.1, y2.1, y3.1, y4.1, y5.1] := congrArg Prod.fst hd
   have hw : ∀ (j : Nat) (t : TypeId) (z : DataW H), ([2, 2, 2, 30, 31, 30] : List TypeId)[j]? = some t → [y0.1, y1.1, y2.1, y3.1, y4.1, y5.1][j]? = some z → ∀ x ∈ z.weights Tryz.prog t, x ≤ reachBytes := by
    intro j t z ht hz' x hx
    refine hz x ?_
    rw [hdd]
    simp only [DataW.weights, Tryz.underlying33]
    exact DataW.weights_mem_each ht hz' x hx
   have g1 := row_fits Tryz.underlying30 bytesF (len_row Tryz.underlying30 h3) (hw 3 _ _ rfl rfl)
   have g2 := row_fits Tryz.underlying31 bytesSpan (len_row Tryz.underlying31 h4) (hw 4 _ _ rfl rfl)
   have g3 := row_fits Tryz.underlying30 bytesF (len_row Tryz.underlying30 h5) (hw 5 _ _ rfl rfl)
   simp only [reachBytes] at g1 g2 g3
   exact ⟨⟨a0, a1, a2, p1, p2, p3, n1, n2, n3, k1, k2, k3, x1, x3, f2⟩, rfl, r1, r2, r3, (show n1 ≤ 17592186044000 by omega), (show n2 ≤ 5864062014805 by omega), (show n3 ≤ 17592186044000 by omega)⟩
structure Opc where
 k : Int
 x : Sb
 q : Int
 c : Int
 n : Int
 e : Int
 l : Int
theorem wfN {a : Int} (h : (Lit.int .i64 a).wf = true) : N64 a := by
 have e1 : IntKind.i64.min = -9223372036854775808 := by decide
 have e2 : IntKind.i64.max = 9223372036854775807 := by decide
 simp [Lit.wf, e1, e2] at h
 exact h
def opcc (o : Opc) : List Value := [.int .i64 o.k, .int .i64 o.x.s1, .int .i64 o.x.s2, .int .i64 o.x.s3, .slice o.x.a1 o.x.n1 o.x.c1, .slice o.x.a2 o.x.n2 o.x.c2, .slice o.x.a3 o.x.n3 o.x.c3, .int .i64 o.q, .int .i64 o.c, .int .i64 o.n, .int .i64 o.e, .int .i64 o.l]
theorem cellsOpc : Tryz.prog.cellsOf 47 = 12 ∧ Tryz.prog.cellsOf 40 = 2 ∧ Tryz.prog.cellsOf 26 = 1 ∧ Tryz.prog.cellsOf 3 = 1 := by refine ⟨?_, ?_, ?_, ?_⟩ <;> kernel_rfl
theorem bytesOpc : Tryz.prog.bytesOf 47 = 144 := by kernel_rfl
theorem trod_opc {H : Type} {enc : TypeId × Value → H} {w : World} {fuel : Nat} {cs : List Value} {y : DataW H × List MemPlace} (h : DataW.trod enc Tryz.prog w 0 (fun _ => true) true fuel 47 cs = some y) (hz : ∀ k ∈ y.1.weights Tryz.prog 47, k ≤ reachBytes) :
    ∃ o : Opc, cs = opcc o ∧ o.x.Ok w ∧ N64 o.q := by
 obtain ⟨xs, n, _, hd, hl, hlen, hf⟩ := DataW.trod_struct Tryz.underlying47 h
 rw [cellsOpc.1] at hl
 match cs, hl with
 | [c0, c1, c2, c3, c4, c5, c6, c7, c8, c9, c10, c11], _ =>
  match xs, hlen, hd with
  | [y0, y1, y2, y3, y4, y5], _, hd =>
   have h0 := hf 0 _ rfl
   have h1 := hf 1 _ rfl
   have h2 := hf 2 _ rfl
   have h3 := hf 3 _ rfl
   have h4 := hf 4 _ rfl
   have h5 := hf 5 _ rfl
   simp [cellsI, cellsSub, cellsOpc] at h0 h1 h2 h3 h4 h5
   have hdd : y.1 = .agg [y0.1, y1.1, y2.1, y3.1, y4.1, y5.1] := congrArg Prod.fst hd
   have hw : ∀ (j : Nat) (t : TypeId) (z : DataW H), ([3, 33, 2, 40, 26, 3] : List TypeId)[j]? = some t → [y0.1, y1.1, y2.1, y3.1, y4.1, y5.1][j]? = some z → ∀ x ∈ z.weights Tryz.prog t, x ≤ reachBytes := by
    intro j t z ht hz' x hx
    refine hz x ?_
    rw [hdd]
    simp only [DataW.weights, Tryz.underlying47]
    exact DataW.weights_mem_each ht hz' x hx
   obtain ⟨a0, e0, _, q0⟩ := DataW.trod_int Tryz.underlying3 h0
   obtain ⟨s, e1, hs⟩ := trod_sub h1 (hw 1 _ _ rfl rfl)
   obtain ⟨a2, e2, _, q2⟩ := DataW.trod_int Tryz.underlying2 h2
   obtain ⟨vs, vn, _, vd, vl, vlen, vf⟩ := DataW.trod_struct Tryz.underlying40 h3
   match vs, vlen with
   | [z0, z1], _ =>
    have g0 := vf 0 _ rfl
    have g1 := vf 1 _ rfl
    simp [cellsI, cellsOpc] at g0 g1
    obtain ⟨b0, f0, _, _⟩ := DataW.trod_int Tryz.underlying26 g0
    obtain ⟨b1, f1, _, _⟩ := DataW.trod_int Tryz.underlying2 g1
    obtain ⟨a4, e4, _, _⟩ := DataW.trod_int Tryz.underlying26 h4
    obtain ⟨a5, e5, _, _⟩ := DataW.trod_int Tryz.underlying3 h5
    simp at e0 e1 e2 e4 e5 f0 f1
    obtain ⟨rfl, rfl, rfl, rfl, rfl, rfl⟩ := e1
    subst e0 e2 e4 e5 f0 f1
    exact ⟨⟨a0, s, a2, b0, b1, a4, a5⟩, rfl, hs, wfN q2⟩
def OpcIn (w : World) (g o : Nat) (p : Opc) : Prop := w.cell? ⟨g, o, none⟩ = some (.int .i64 p.k) ∧ w.cell? ⟨g, o + 1, none⟩ = some (.int .i64 p.x.s1) ∧ w.cell? ⟨g, o + 2, none⟩ = some (.int .i64 p.x.s2) ∧ w.cell? ⟨g, o + 3, none⟩ = some (.int .i64 p.x.s3) ∧ w.cell? ⟨g, o + 4, none⟩ = some (.slice p.x.a1 p.x.n1 p.x.c1) ∧ w.cell? ⟨g, o + 5, none⟩ = some (.slice p.x.a2 p.x.n2 p.x.c2) ∧ w.cell? ⟨g, o + 6, none⟩ = some (.slice p.x.a3 p.x.n3 p.x.c3) ∧ w.cell? ⟨g, o + 7, none⟩ = some (.int .i64 p.q) ∧ w.cell? ⟨g, o + 8, none⟩ = some (.int .i64 p.c) ∧ w.cell? ⟨g, o + 9, none⟩ = some (.int .i64 p.n) ∧ w.cell? ⟨g, o + 10, none⟩ = some (.int .i64 p.e) ∧ w.cell? ⟨g, o + 11, none⟩ = some (.int .i64 p.l)
theorem OpcIn.old {w w' : World} {g o : Nat} {s : Opc} (h : OpcIn w g o s) (u : Old w w') : OpcIn w' g o s := ⟨u.keep h.1, u.keep h.2.1, u.keep h.2.2.1, u.keep h.2.2.2.1, u.keep h.2.2.2.2.1, u.keep h.2.2.2.2.2.1, u.keep h.2.2.2.2.2.2.1, u.keep h.2.2.2.2.2.2.2.1, u.keep h.2.2.2.2.2.2.2.2.1, u.keep h.2.2.2.2.2.2.2.2.2.1, u.keep h.2.2.2.2.2.2.2.2.2.2.1, u.keep h.2.2.2.2.2.2.2.2.2.2.2⟩
def OpcRow (w : World) (v : Value) (n : Nat) (f : Nat → Opc) : Prop := n ≤ 977343669134 ∧ ∃ (p : Option Addr) (c : Nat), v = .slice p n c ∧ n ≤ c ∧ c ≤ 9223372036854775807 ∧ ∀ i, i < n → ∃ g off, p = some ⟨g, off, none⟩ ∧ OpcIn w g (off + i * 12) (f i) ∧ (f i).x.Ok w ∧ N64 (f i).q
theorem open_opcs {H : Type} {enc : TypeId × Value → H} {w : World} {base : Nat} {v : Value} {d : DataW H} {ps : List MemPlace} (hv : Value.okWide Tryz.prog w .any base 45 v) (h : DataW.Trod enc Tryz.prog w 0 (fun _ => true) true 45 v d ps) (hz : ∀ k ∈ d.weights Tryz.prog 45, k ≤ reachBytes) : ∃ (n : Nat) (f : Nat → Opc), OpcRow w v n f := by
 obtain ⟨a0, len0, cap0, rfl⟩ := okWide_slice Tryz.underlying45 hv
 obtain ⟨fuel, hf⟩ := h
 have hlr := len_row Tryz.underlying45 hf
 have hfit := row_fits Tryz.underlying45 bytesOpc hlr hz
 simp only [reachBytes] at hfit
 have z0 : Opc := ⟨0, ⟨0, 0, 0, none, none, none, 0, 0, 0, 0, 0, 0, fun _ => 0, fun _ => 0, fun _ => ⟨0, 0, false, false⟩⟩, 0, 0, 0, 0, 0⟩
 rcases DataW.trod_slice Tryz.underlying45 hf with ⟨hcs, hd0⟩ | ⟨a, len, cap, elems, rest, m, _, hcs, hx, hb, hl, hm, hlen, hel, _, _⟩
 ·simp [Value.cells] at hcs
  obtain ⟨rfl, rfl, rfl⟩ := hcs
  exact ⟨0, fun _ => z0, by omega, none, 0, rfl, by omega, by omega, fun i hi => by omega⟩
 ·simp [Value.cells] at hcs
  obtain ⟨rfl, rfl, rfl⟩ := hcs
  have hcm : cap0 ≤ 9223372036854775807 := by unfold maxLen at hm; omega
  have hdd : d = .slice (elems.map (·.1)) (rest.map (·.1)) := congrArg Prod.fst hx
  by_cases hzz : len0 = 0
  ·subst hzz
   exact ⟨0, fun _ => z0, by omega, _, cap0, rfl, by omega, hcm, fun i hi => by omega⟩
  ·have each : ∀ i, i < len0 → ∃ s : Opc, (∀ j, j < 12 → w.cell? ((a.add (i * 12)).add j) = (opcc s)[j]?) ∧ s.x.Ok w ∧ N64 s.q := by
     intro i hi
     have h1 := hel i hi
     have h2 : elems[i]? = some (elems[i]'(by omega)) := List.getElem?_eq_getElem (by omega)
     rw [h2, cellsOpc.1, Option.bind_eq_some_iff] at h1
     obtain ⟨cs', hcs, hy'⟩ := h1
     obtain ⟨s, rfl, hs⟩ := trod_opc hy' (fun k hk => hz k (by
      rw [hdd]
      simp only [DataW.weights, Tryz.underlying45]
      exact List.mem_cons_of_mem _ (List.mem_append_left _ (weightsAll_mem (List.mem_map.2 ⟨_, List.getElem_mem (by omega), rfl⟩) k hk))))
     exact ⟨s, fun j hj => cellsEach hcs j hj, hs⟩
   obtain ⟨b, off, spot⟩ := a
   obtain ⟨s0, h0, _⟩ := each 0 (by omega)
   have hspot : spot = none := by simpa [Addr.add] using World.cell?_spot (h0 0 (by omega))
   subst hspot
   have each2 : ∀ i, ∃ s : Opc, i < len0 → OpcIn w b (off + i * 12) s ∧ s.x.Ok w ∧ N64 s.q := by
    intro i
    by_cases hi : i < len0
    ·obtain ⟨s, q1, q2⟩ := each i hi
     simp only [Go.WideShapes.add_plain] at q1
     exact ⟨s, fun _ => ⟨⟨q1 0 (by omega), q1 1 (by omega), q1 2 (by omega), q1 3 (by omega), q1 4 (by omega), q1 5 (by omega), q1 6 (by omega), q1 7 (by omega), q1 8 (by omega), q1 9 (by omega), q1 10 (by omega), q1 11 (by omega)⟩, q2⟩⟩
    ·exact ⟨s0, fun h => absurd h hi⟩
   exact ⟨len0, fun i => Classical.choose (each2 i), by omega, _, cap0, rfl, hl, hcm, fun i hi => ⟨b, off, rfl, Classical.choose_spec (each2 i) hi⟩⟩
end Go.Proofs.YthjfkmjeppdcnaaGreat
