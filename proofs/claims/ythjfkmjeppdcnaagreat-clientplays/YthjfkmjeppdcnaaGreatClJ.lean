/- A submission read as an argument, with the bounds that its reading gives; no condition. -/
import Derived.Test.YthjfkmjeppdcnaaGreatClI
import Derived.SizedLaws
import Derived.ProofKit
import Derived.OpenShut
import Derived.Lib.SmallJoins
namespace Go.Proofs.YthjfkmjeppdcnaaGreat
set_option linter.unusedSimpArgs false
open Go.ChangeShapes Go.WideShapes Go.ChangeAt Go.RowKit Go.Joins
set_option linter.unusedVariables false
theorem wbF {a : Nat} (h : (Lit.float .f64 a).wf = true) : Fl.W a := by simp [Lit.wf] at h; exact h
theorem trodF {H : Type} {enc : TypeId × Value → H} {P : Program} {w : World} {base : Nat} {spare : Nat → Bool} {held : Bool} {fuel : Nat} {t : TypeId} {cs : List Value} {x : DataW H × List MemPlace} (ht : P.underlying t = some (.float .f64)) (h : DataW.trod enc P w base spare held fuel t cs = some x) : ∃ n, cs = [.float .f64 n] ∧ x = (.lit (.float .f64 n), []) ∧ (Lit.float .f64 n).wf = true := by
 cases fuel with
 | zero => simp [DataW.trod] at h
 | succ n =>
  unfold DataW.trod at h
  rw [ht] at h
  split at h <;> simp_all
set_option maxRecDepth 20000
theorem cellsF : Tryz.prog.cellsOf 29 = 1 := by kernel_rfl
theorem cellsB : Tryz.prog.cellsOf 4 = 1 := by kernel_rfl
theorem cellsSp : Tryz.prog.cellsOf 93 = 4 := by kernel_rfl
theorem cellsEach {w : World} {base : Nat} {a : Addr} {n : Nat} {cs : List Value} (h : w.cells? base a n = some cs) (i : Nat) (hi : i < n) : w.cell? (a.add i) = cs[i]? := by
 unfold World.cells? at h
 split at h
 ·exact mapM_some_get h i i (by simp [hi])
 ·cases h
theorem trod_sp {H : Type} {enc : TypeId × Value → H} {w : World} {fuel : Nat} {cs : List Value} {y : DataW H × List MemPlace} (h : DataW.trod enc Tryz.prog w 0 (fun _ => true) true fuel 93 cs = some y) :
    ∃ s : Sp, cs = [.float .f64 s.a, .float .f64 s.b, .bool s.p, .bool s.q] ∧ Fl.W s.a ∧ Fl.W s.b := by
 obtain ⟨xs, n, _, _, hl, hlen, hf⟩ := DataW.trod_struct Tryz.underlying93 h
 rw [cellsSp] at hl
 match cs, hl with
 | [c0, c1, c2, c3], _ =>
  match xs, hlen with
  | [y0, y1, y2, y3], _ =>
   have h0 := hf 0 _ rfl
   have h1 := hf 1 _ rfl
   have h2 := hf 2 _ rfl
   have h3 := hf 3 _ rfl
   simp [cellsF, cellsB] at h0 h1 h2 h3
   obtain ⟨a0, e0, _, q0⟩ := trodF Tryz.underlying29 h0
   obtain ⟨a1, e1, _, q1⟩ := trodF Tryz.underlying29 h1
   obtain ⟨a2, e2, _⟩ := DataW.trod_bool Tryz.underlying4 h2
   obtain ⟨a3, e3, _⟩ := DataW.trod_bool Tryz.underlying4 h3
   simp at e0 e1 e2 e3
   subst e0 e1 e2 e3
   exact ⟨⟨a0, a1, a2, a3⟩, rfl, wbF q0, wbF q1⟩
theorem trod_srow {H : Type} {enc : TypeId × Value → H} {w : World} {fuel : Nat} {v : Value} {y : DataW H × List MemPlace} (h : DataW.trod enc Tryz.prog w 0 (fun _ => true) true fuel 31 [v] = some y) : ∃ a n c f, v = .slice a n c ∧ SRow w v n f := by
 rcases DataW.trod_slice Tryz.underlying31 h with ⟨hcs, _⟩ | ⟨a, len, cap, elems, rest, m, _, hcs, _, hb, hl, hm, hlen, hel, _, _⟩
 ·simp at hcs; subst hcs
  exact ⟨none, 0, 0, fun _ => ⟨0, 0, false, false⟩, rfl, by omega, none, 0, rfl, fun i hi => by omega⟩
 ·simp at hcs; subst hcs
  have hml : len ≤ 9223372036854775807 := by unfold maxLen at hm; omega
  by_cases hz : len = 0
  ·subst hz; exact ⟨_, _, _, fun _ => ⟨0, 0, false, false⟩, rfl, hml, _, _, rfl, fun i hi => by omega⟩
  ·have each : ∀ i, i < len → ∃ s : Sp, (∀ j, j < 4 → w.cell? ((a.add (i * 4)).add j) = ([.float .f64 s.a, .float .f64 s.b, .bool s.p, .bool s.q] : List Value)[j]?) ∧ Fl.W s.a ∧ Fl.W s.b := by
     intro i hi
     have h1 := hel i hi
     have h2 : elems[i]? = some (elems[i]'(by omega)) := List.getElem?_eq_getElem (by omega)
     rw [h2, cellsSp, Option.bind_eq_some_iff] at h1
     obtain ⟨cs', hcs, hy'⟩ := h1
     obtain ⟨s, rfl, hs⟩ := trod_sp hy'
     exact ⟨s, fun j hj => cellsEach hcs j hj, hs⟩
   obtain ⟨b, off, spot⟩ := a
   obtain ⟨s0, h0, _⟩ := each 0 (by omega)
   have hspot : spot = none := by simpa [Addr.add] using World.cell?_spot (h0 0 (by omega))
   subst hspot
   have each2 : ∀ i, ∃ s : Sp, i < len → Fl.W s.a ∧ Fl.W s.b ∧ w.cell? ⟨b, off + i * 4, none⟩ = some (.float .f64 s.a) ∧ w.cell? ⟨b, off + i * 4 + 1, none⟩ = some (.float .f64 s.b) ∧ w.cell? ⟨b, off + i * 4 + 2, none⟩ = some (.bool s.p) ∧ w.cell? ⟨b, off + i * 4 + 3, none⟩ = some (.bool s.q) := by
    intro i
    by_cases hi : i < len
    ·obtain ⟨s, q1, q2, q3⟩ := each i hi
     simp only [Go.WideShapes.add_plain] at q1
     exact ⟨s, fun _ => ⟨q2, q3, q1 0 (by omega), q1 1 (by omega), q1 2 (by omega), q1 3 (by omega)⟩⟩
    ·exact ⟨s0, fun h => absurd h hi⟩
   exact ⟨_, len, cap, fun i => Classical.choose (each2 i), rfl, hml, _, _, rfl, fun i hi => ⟨b, off, rfl, Classical.choose_spec (each2 i) hi⟩⟩
theorem trod_frow {H : Type} {enc : TypeId × Value → H} {w : World} {fuel : Nat} {v : Value} {y : DataW H × List MemPlace} (h : DataW.trod enc Tryz.prog w 0 (fun _ => true) true fuel 30 [v] = some y) : ∃ a n c x, v = .slice a n c ∧ FRow w v n x := by
 rcases DataW.trod_slice Tryz.underlying30 h with ⟨hcs, _⟩ | ⟨a, len, cap, elems, rest, m, _, hcs, _, hb, hl, hm, hlen, hel, _, _⟩
 ·simp at hcs; subst hcs
  exact ⟨none, 0, 0, fun _ => 0, rfl, by omega, none, 0, rfl, fun i hi => by omega⟩
 ·simp at hcs; subst hcs
  have hml : len ≤ 9223372036854775807 := by unfold maxLen at hm; omega
  by_cases hz : len = 0
  ·subst hz; exact ⟨_, _, _, fun _ => 0, rfl, hml, _, _, rfl, fun i hi => by omega⟩
  ·have each : ∀ i, i < len → ∃ n, w.cell? (a.add i) = some (.float .f64 n) ∧ Fl.W n := by
     intro i hi
     have h1 := hel i hi
     have h2 : elems[i]? = some (elems[i]'(by omega)) := List.getElem?_eq_getElem (by omega)
     rw [h2, cellsF, Nat.mul_one, Option.bind_eq_some_iff] at h1
     obtain ⟨cs', hcs, hy'⟩ := h1
     obtain ⟨n, rfl, _, hw⟩ := trodF Tryz.underlying29 hy'
     exact ⟨n, cell_of_cells?_one hcs, wbF hw⟩
   obtain ⟨b, off, spot⟩ := a
   obtain ⟨n0, h0, _⟩ := each 0 (by omega)
   have hspot : spot = none := by simpa [Addr.add] using World.cell?_spot h0
   subst hspot
   refine ⟨_, len, cap, fun i => match w.cell? ⟨b, off + i, none⟩ with | some (.float _ n) => n | _ => 0, rfl, hml, _, _, rfl, fun i hi => ⟨b, off, rfl, ?_⟩⟩
   obtain ⟨n, hn, hw⟩ := each i hi
   rw [Go.WideShapes.add_plain] at hn
   simp only [hn]
   exact ⟨hw, trivial⟩
theorem cellsSub : Tryz.prog.cellsOf 33 = 6 := by kernel_rfl
theorem cellsI : Tryz.prog.cellsOf 2 = 1 ∧ Tryz.prog.cellsOf 30 = 1 ∧ Tryz.prog.cellsOf 31 = 1 := by refine ⟨?_, ?_, ?_⟩ <;> kernel_rfl
theorem bytesSpan : Tryz.prog.bytesOf 93 = 24 := by kernel_rfl
theorem bytesF : Tryz.prog.bytesOf 29 = 8 := by kernel_rfl
theorem len_row {H : Type} {enc : TypeId × Value → H} {P : Program} {w : World} {base : Nat} {spare : Nat → Bool} {held : Bool} {fuel : Nat} {t e : TypeId} {a : Option Addr} {n c : Nat} {y : DataW H × List MemPlace} (ht : P.underlying t = some (.slice e)) (h : DataW.trod enc P w base spare held fuel t [.slice a n c] = some y) : n = 0 ∨ ∃ els sp, y.1 = .slice els sp ∧ els.length = n := by
 rcases DataW.trod_slice ht h with ⟨hcs, _⟩ | ⟨a', len, cap, elems, rest, m, _, hcs, hx, hb, hl, hm, hlen, hel, _, _⟩
 ·simp at hcs; exact .inl hcs.2.1
 ·simp at hcs
  obtain ⟨_, hln, _⟩ := hcs
  subst hx
  exact .inr ⟨_, _, rfl, by simp [hlen, hln]⟩
theorem row_fits {H : Type} {P : Program} {t e : TypeId} {d : DataW H} {n k : Nat} (ht : P.underlying t = some (.slice e)) (hk : P.bytesOf e = k) (h : n = 0 ∨ ∃ els sp, d = .slice els sp ∧ els.length = n) (hz : ∀ x ∈ d.weights P t, x ≤ reachBytes) : n * k ≤ reachBytes := by
 rcases h with rfl | ⟨els, sp, rfl, rfl⟩
 ·simp
 ·have := hz ((els.length + sp.length) * P.bytesOf e) (by simp [DataW.weights, ht])
  rw [hk, Nat.add_mul] at this
  omega
def SubB (w : World) (v : Value) : Prop := ∃ (s1 s2 s3 : Int) (a1 a2 a3 : Option Addr) (n1 n2 n3 c1 c2 c3 : Nat) (x1 x3 : Nat → Nat) (f2 : Nat → Sp), v = .agg #[.int .i64 s1, .int .i64 s2, .int .i64 s3, .slice a1 n1 c1, .slice a2 n2 c2, .slice a3 n3 c3] ∧ (FRow w (.slice a1 n1 c1) n1 x1 ∧ SRow w (.slice a2 n2 c2) n2 f2 ∧ FRow w (.slice a3 n3 c3) n3 x3) ∧ n1 ≤ 17592186044000 ∧ n2 ≤ 5864062014805 ∧ n3 ≤ 17592186044000
theorem open_subB {H : Type} {enc : TypeId × Value → H} {w : World} {base : Nat} {v : Value} {d : DataW H} {ps : List MemPlace} (hv : Value.okWide Tryz.prog w .any base 33 v) (h : DataW.Trod enc Tryz.prog w 0 (fun _ => true) true 33 v d ps) (hz : ∀ k ∈ d.weights Tryz.prog 33, k ≤ reachBytes) : SubB w v := by
 obtain ⟨cs, rfl, hsz⟩ := okWide_struct Tryz.underlying33 hv
 rw [cellsSub] at hsz
 obtain ⟨l⟩ := cs
 match l, hsz with
 | [c0, c1, c2, c3, c4, c5], _ =>
  obtain ⟨fuel, hf0⟩ := h
  obtain ⟨xs, n, _, hd, hl, hlen, hf⟩ := DataW.trod_struct Tryz.underlying33 hf0
  match xs, hlen, hd with
  | [y0, y1, y2, y3, y4, y5], _, hd =>
   have h0 := hf 0 _ rfl
   have h1 := hf 1 _ rfl
   have h2 := hf 2 _ rfl
   have h3 := hf 3 _ rfl
   have h4 := hf 4 _ rfl
   have h5 := hf 5 _ rfl
   simp [cellsI, Value.cells] at h0 h1 h2 h3 h4 h5
   obtain ⟨a0, e0, _, q0⟩ := DataW.trod_int Tryz.underlying2 h0
   obtain ⟨a1, e1, _, q1⟩ := DataW.trod_int Tryz.underlying2 h1
   obtain ⟨a2, e2, _, q2⟩ := DataW.trod_int Tryz.underlying2 h2
   obtain ⟨p1, n1, k1, x1, rfl, r1⟩ := trod_frow h3
   obtain ⟨p2, n2, k2, f2, rfl, r2⟩ := trod_srow h4
   obtain ⟨p3, n3, k3, x3, rfl, r3⟩ := trod_frow h5
   simp at e0 e1 e2
   subst e0 e1 e2
   have hdd : d = .agg [y0.1, y1.1, y2.1, y3.1, y4.1, y5.1] := congrArg Prod.fst hd
   have hw : ∀ (j : Nat) (t : TypeId) (z : DataW H), ([2, 2, 2, 30, 31, 30] : List TypeId)[j]? = some t → [y0.1, y1.1, y2.1, y3.1, y4.1, y5.1][j]? = some z → ∀ x ∈ z.weights Tryz.prog t, x ≤ reachBytes := by
    intro j t z ht hz' x hx
    refine hz x ?_
    rw [hdd]
    simp only [DataW.weights, Tryz.underlying33]
    exact DataW.weights_mem_each ht hz' x hx
   have g1 := row_fits Tryz.underlying30 bytesF (len_row Tryz.underlying30 h3) (hw 3 _ _ rfl rfl)
   have g2 := row_fits Tryz.underlying31 bytesSpan (len_row Tryz.underlying31 h4) (hw 4 _ _ rfl rfl)
   have g3 := row_fits Tryz.underlying30 bytesF (len_row Tryz.underlying30 h5) (hw 5 _ _ rfl rfl)
   simp only [reachBytes] at g1 g2 g3
   exact ⟨a0, a1, a2, p1, p2, p3, n1, n2, n3, k1, k2, k3, x1, x3, f2, rfl, ⟨r1, r2, r3⟩, by omega, by omega, by omega⟩
end Go.Proofs.YthjfkmjeppdcnaaGreat
