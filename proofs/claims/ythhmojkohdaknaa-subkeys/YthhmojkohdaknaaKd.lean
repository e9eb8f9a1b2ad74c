/- A submission read as an argument; no condition. -/
import Derived.Test.YthhmojkohdaknaaKc
import Derived.ProofKit
import Derived.OpenShut
import Derived.Lib.SmallJoins
namespace Go.Proofs.Ythhmojkohdaknaa
open Go.ChangeShapes Go.WideShapes Go.ChangeAt Go.RowKit Go.Joins
set_option linter.unusedVariables false
theorem wbF {a : Nat} (h : (Lit.float .f64 a).wf = true) : Fl.W a := by simp [Lit.wf] at h; exact h
theorem trodF {H : Type} {enc : TypeId × Value → H} {P : Program} {w : World} {base : Nat} {spare : Nat → Bool} {held : Bool} {fuel : Nat} {t : TypeId} {cs : List Value} {x : DataW H × List MemPlace} (ht : P.underlying t = some (.float .f64)) (h : DataW.trod enc P w base spare held fuel t cs = some x) : ∃ n, cs = [.float .f64 n] ∧ x = (.lit (.float .f64 n), []) ∧ (Lit.float .f64 n).wf = true := by
  cases fuel with
  | zero => simp [DataW.trod] at h
  | succ n =>
    unfold DataW.trod at h
    rw [ht] at h
    split at h <;> simp_all
theorem cellsF : Try.prog.cellsOf 26 = 1 := by kernel_rfl
theorem cellsB : Try.prog.cellsOf 4 = 1 := by kernel_rfl
theorem cellsSp : Try.prog.cellsOf 34 = 4 := by kernel_rfl
theorem cellsSub : Try.prog.cellsOf 25 = 6 := by kernel_rfl
theorem cellsI : Try.prog.cellsOf 2 = 1 ∧ Try.prog.cellsOf 22 = 1 ∧ Try.prog.cellsOf 23 = 1 := by refine ⟨?_, ?_, ?_⟩ <;> kernel_rfl
theorem cellsEach {w : World} {base : Nat} {a : Addr} {n : Nat} {cs : List Value} (h : w.cells? base a n = some cs) (i : Nat) (hi : i < n) : w.cell? (a.add i) = cs[i]? := by
  unfold World.cells? at h
  split at h
  · exact mapM_some_get h i i (by simp [hi])
  · cases h
theorem trod_frow {H : Type} {enc : TypeId × Value → H} {w : World} {fuel : Nat} {v : Value} {y : DataW H × List MemPlace} (h : DataW.trod enc Try.prog w 0 (fun _ => true) true fuel 22 [v] = some y) : ∃ a n c x, v = .slice a n c ∧ FRow w v n x := by
  rcases DataW.trod_slice Try.underlying22 h with ⟨hcs, _⟩ | ⟨a, len, cap, elems, rest, m, _, hcs, _, hb, hl, hm, hlen, hel, _, _⟩
  · simp at hcs; subst hcs
    exact ⟨none, 0, 0, fun _ => 0, rfl, by omega, none, 0, rfl, fun i hi => by omega⟩
  · simp at hcs; subst hcs
    have hml : len ≤ 9223372036854775807 := by unfold maxLen at hm; omega
    by_cases hz : len = 0
    · subst hz; exact ⟨_, _, _, fun _ => 0, rfl, hml, _, _, rfl, fun i hi => by omega⟩
    · have each : ∀ i, i < len → ∃ n, w.cell? (a.add i) = some (.float .f64 n) ∧ Fl.W n := by
        intro i hi
        have h1 := hel i hi
        have h2 : elems[i]? = some (elems[i]'(by omega)) := List.getElem?_eq_getElem (by omega)
        rw [h2, cellsF, Nat.mul_one, Option.bind_eq_some_iff] at h1
        obtain ⟨cs', hcs, hy'⟩ := h1
        obtain ⟨n, rfl, _, hw⟩ := trodF Try.underlying26 hy'
        exact ⟨n, cell_of_cells?_one hcs, wbF hw⟩
      obtain ⟨b, off, spot⟩ := a
      obtain ⟨n0, h0, _⟩ := each 0 (by omega)
      have hspot : spot = none := by simpa [Addr.add] using World.cell?_spot h0
      subst hspot
      refine ⟨_, len, cap, fun i => match w.cell? ⟨b, off + i, none⟩ with | some (.float _ n) => n | _ => 0, rfl, hml, _, _, rfl, fun i hi => ⟨b, off, rfl, ?_⟩⟩
      obtain ⟨n, hn, hw⟩ := each i hi
      rw [Go.WideShapes.add_plain] at hn
      simp only [hn]
      exact ⟨hw, trivial⟩
theorem trod_sp {H : Type} {enc : TypeId × Value → H} {w : World} {fuel : Nat} {cs : List Value} {y : DataW H × List MemPlace} (h : DataW.trod enc Try.prog w 0 (fun _ => true) true fuel 34 cs = some y) :
    ∃ s : Sp, cs = [.float .f64 s.a, .float .f64 s.b, .bool s.p, .bool s.q] ∧ Fl.W s.a ∧ Fl.W s.b := by
  obtain ⟨xs, n, _, _, hl, hlen, hf⟩ := DataW.trod_struct Try.underlying34 h
  rw [cellsSp] at hl
  match cs, hl with
  | [c0, c1, c2, c3], _ =>
    match xs, hlen with
    | [y0, y1, y2, y3], _ =>
      have h0 := hf 0 _ rfl
      have h1 := hf 1 _ rfl
      have h2 := hf 2 _ rfl
      have h3 := hf 3 _ rfl
      simp [cellsF, cellsB] at h0 h1 h2 h3
      obtain ⟨a0, e0, _, q0⟩ := trodF Try.underlying26 h0
      obtain ⟨a1, e1, _, q1⟩ := trodF Try.underlying26 h1
      obtain ⟨a2, e2, _⟩ := DataW.trod_bool Try.underlying4 h2
      obtain ⟨a3, e3, _⟩ := DataW.trod_bool Try.underlying4 h3
      simp at e0 e1 e2 e3
      subst e0 e1 e2 e3
      exact ⟨⟨a0, a1, a2, a3⟩, rfl, wbF q0, wbF q1⟩
theorem trod_srow {H : Type} {enc : TypeId × Value → H} {w : World} {fuel : Nat} {v : Value} {y : DataW H × List MemPlace} (h : DataW.trod enc Try.prog w 0 (fun _ => true) true fuel 23 [v] = some y) : ∃ a n c f, v = .slice a n c ∧ SRow w v n f := by
  rcases DataW.trod_slice Try.underlying23 h with ⟨hcs, _⟩ | ⟨a, len, cap, elems, rest, m, _, hcs, _, hb, hl, hm, hlen, hel, _, _⟩
  · simp at hcs; subst hcs
    exact ⟨none, 0, 0, fun _ => ⟨0, 0, false, false⟩, rfl, by omega, none, 0, rfl, fun i hi => by omega⟩
  · simp at hcs; subst hcs
    have hml : len ≤ 9223372036854775807 := by unfold maxLen at hm; omega
    by_cases hz : len = 0
    · subst hz; exact ⟨_, _, _, fun _ => ⟨0, 0, false, false⟩, rfl, hml, _, _, rfl, fun i hi => by omega⟩
    · have each : ∀ i, i < len → ∃ s : Sp, (∀ j, j < 4 → w.cell? ((a.add (i * 4)).add j) = ([.float .f64 s.a, .float .f64 s.b, .bool s.p, .bool s.q] : List Value)[j]?) ∧ Fl.W s.a ∧ Fl.W s.b := by
        intro i hi
        have h1 := hel i hi
        have h2 : elems[i]? = some (elems[i]'(by omega)) := List.getElem?_eq_getElem (by omega)
        rw [h2, cellsSp, Option.bind_eq_some_iff] at h1
        obtain ⟨cs', hcs, hy'⟩ := h1
        obtain ⟨s, rfl, hs⟩ := trod_sp hy'
        exact ⟨s, fun j hj => cellsEach hcs j hj, hs⟩
      obtain ⟨b, off, spot⟩ := a
      obtain ⟨s0, h0, _⟩ := each 0 (by omega)
      have hspot : spot = none := by simpa [Addr.add] using World.cell?_spot (h0 0 (by omega))
      subst hspot
      have each2 : ∀ i, ∃ s : Sp, i < len → Fl.W s.a ∧ Fl.W s.b ∧ w.cell? ⟨b, off + i * 4, none⟩ = some (.float .f64 s.a) ∧ w.cell? ⟨b, off + i * 4 + 1, none⟩ = some (.float .f64 s.b) ∧ w.cell? ⟨b, off + i * 4 + 2, none⟩ = some (.bool s.p) ∧ w.cell? ⟨b, off + i * 4 + 3, none⟩ = some (.bool s.q) := by
        intro i
        by_cases hi : i < len
        · obtain ⟨s, q1, q2, q3⟩ := each i hi
          simp only [Go.WideShapes.add_plain] at q1
          exact ⟨s, fun _ => ⟨q2, q3, q1 0 (by omega), q1 1 (by omega), q1 2 (by omega), q1 3 (by omega)⟩⟩
        · exact ⟨s0, fun h => absurd h hi⟩
      exact ⟨_, len, cap, fun i => Classical.choose (each2 i), rfl, hml, _, _, rfl, fun i hi => ⟨b, off, rfl, Classical.choose_spec (each2 i) hi⟩⟩
theorem open_sub {H : Type} {enc : TypeId × Value → H} {w : World} {base : Nat} {v : Value} {d : DataW H} {ps : List MemPlace} (hv : Value.okWide Try.prog w .any base 25 v) (h : DataW.Trod enc Try.prog w 0 (fun _ => true) true 25 v d ps) : SubV w v := by
  obtain ⟨cs, rfl, hsz⟩ := okWide_struct Try.underlying25 hv
  rw [cellsSub] at hsz
  obtain ⟨l⟩ := cs
  match l, hsz with
  | [c0, c1, c2, c3, c4, c5], _ =>
    obtain ⟨fuel, hf0⟩ := h
    obtain ⟨xs, n, _, _, hl, hlen, hf⟩ := DataW.trod_struct Try.underlying25 hf0
    match xs, hlen with
    | [y0, y1, y2, y3, y4, y5], _ =>
      have h0 := hf 0 _ rfl
      have h1 := hf 1 _ rfl
      have h2 := hf 2 _ rfl
      have h3 := hf 3 _ rfl
      have h4 := hf 4 _ rfl
      have h5 := hf 5 _ rfl
      simp [cellsI, Value.cells] at h0 h1 h2 h3 h4 h5
      obtain ⟨a0, e0, _, q0⟩ := DataW.trod_int Try.underlying2 h0
      obtain ⟨a1, e1, _, q1⟩ := DataW.trod_int Try.underlying2 h1
      obtain ⟨a2, e2, _, q2⟩ := DataW.trod_int Try.underlying2 h2
      obtain ⟨p1, n1, k1, x1, rfl, r1⟩ := trod_frow h3
      obtain ⟨p2, n2, k2, f2, rfl, r2⟩ := trod_srow h4
      obtain ⟨p3, n3, k3, x3, rfl, r3⟩ := trod_frow h5
      simp at e0 e1 e2
      subst e0 e1 e2
      exact ⟨a0, a1, a2, p1, p2, p3, n1, k1, n2, k2, n3, k3, x1, x3, f2, rfl, r1, r2, r3⟩
end Go.Proofs.Ythhmojkohdaknaa
