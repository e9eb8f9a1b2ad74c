/- A row of spans read as an argument; no condition. -/
import Derived.Test.YtcafknecomgmaaaLw
import Derived.SizedLaws
import Derived.ProofKit
import Derived.OpenShut
import Derived.Lib.SmallJoins
namespace Go.Proofs.Ytcafknecomgmaaa
open Go.ChangeShapes Go.WideShapes Go.ChangeAt Go.RowKit Go.Joins
set_option linter.unusedVariables false
theorem wbF {a : Nat} (h : (Lit.float .f64 a).wf = true) : Fl.W a := by simp [Lit.wf] at h; exact h
theorem trodF {H : Type} {enc : TypeId × Value → H} {P : Program} {w : World} {base : Nat} {spare : Nat → Bool} {held : Bool} {fuel : Nat} {t : TypeId} {cs : List Value} {x : DataW H × List MemPlace} (ht : P.underlying t = some (.float .f64)) (h : DataW.trod enc P w base spare held fuel t cs = some x) : ∃ n, cs = [.float .f64 n] ∧ x = (.lit (.float .f64 n), []) ∧ (Lit.float .f64 n).wf = true := by
  cases fuel with
  | zero => simp [DataW.trod] at h
  | succ n =>
    unfold DataW.trod at h
    rw [ht] at h
    split at h <;> simp_all
theorem cellsF : Try.prog.cellsOf 24 = 1 := by kernel_rfl
theorem cellsB : Try.prog.cellsOf 4 = 1 := by kernel_rfl
theorem cellsSp : Try.prog.cellsOf 26 = 4 := by kernel_rfl
theorem cellsEach {w : World} {base : Nat} {a : Addr} {n : Nat} {cs : List Value} (h : w.cells? base a n = some cs) (i : Nat) (hi : i < n) : w.cell? (a.add i) = cs[i]? := by
  unfold World.cells? at h
  split at h
  · exact mapM_some_get h i i (by simp [hi])
  · cases h
theorem trod_sp {H : Type} {enc : TypeId × Value → H} {w : World} {fuel : Nat} {cs : List Value} {y : DataW H × List MemPlace} (h : DataW.trod enc Try.prog w 0 (fun _ => true) true fuel 26 cs = some y) :
    ∃ s : Sp, cs = [.float .f64 s.a, .float .f64 s.b, .bool s.p, .bool s.q] ∧ Fl.W s.a ∧ Fl.W s.b := by
  obtain ⟨xs, n, _, _, hl, hlen, hf⟩ := DataW.trod_struct Try.underlying26 h
  rw [cellsSp] at hl
  match cs, hl with
  | [c0, c1, c2, c3], _ =>
    match xs, hlen with
    | [y0, y1, y2, y3], _ =>
      have h0 := hf 0 _ rfl
      have h1 := hf 1 _ rfl
      have h2 := hf 2 _ rfl
      have h3 := hf 3 _ rfl
      simp [cellsF, cellsB] at h0 h1 h2 h3
      obtain ⟨a0, e0, _, q0⟩ := trodF Try.underlying24 h0
      obtain ⟨a1, e1, _, q1⟩ := trodF Try.underlying24 h1
      obtain ⟨a2, e2, _⟩ := DataW.trod_bool Try.underlying4 h2
      obtain ⟨a3, e3, _⟩ := DataW.trod_bool Try.underlying4 h3
      simp at e0 e1 e2 e3
      subst e0 e1 e2 e3
      exact ⟨⟨a0, a1, a2, a3⟩, rfl, wbF q0, wbF q1⟩
theorem trod_srow {H : Type} {enc : TypeId × Value → H} {w : World} {fuel : Nat} {v : Value} {y : DataW H × List MemPlace} (h : DataW.trod enc Try.prog w 0 (fun _ => true) true fuel 22 [v] = some y) : ∃ a n c f, v = .slice a n c ∧ SRow w v n f := by
  rcases DataW.trod_slice Try.underlying22 h with ⟨hcs, _⟩ | ⟨a, len, cap, elems, rest, m, _, hcs, _, hb, hl, hm, hlen, hel, _, _⟩
  · simp at hcs; subst hcs
    exact ⟨none, 0, 0, fun _ => ⟨0, 0, false, false⟩, rfl, by omega, none, 0, rfl, fun i hi => by omega⟩
  · simp at hcs; subst hcs
    have hml : len ≤ 9223372036854775807 := by unfold maxLen at hm; omega
    by_cases hz : len = 0
    · subst hz; exact ⟨_, _, _, fun _ => ⟨0, 0, false, false⟩, rfl, hml, _, _, rfl, fun i hi => by omega⟩
    · have each : ∀ i, i < len → ∃ s : Sp, (∀ j, j < 4 → w.cell? ((a.add (i * 4)).add j) = ([.float .f64 s.a, .float .f64 s.b, .bool s.p, .bool s.q] : List Value)[j]?) ∧ Fl.W s.a ∧ Fl.W s.b := by
        intro i hi
        have h1 := hel i hi
        have h2 : elems[i]? = some (elems[i]'(by omega)) := List.getElem?_eq_getElem (by omega)
        rw [h2, cellsSp, Option.bind_eq_some_iff] at h1
        obtain ⟨cs', hcs, hy'⟩ := h1
        obtain ⟨s, rfl, hs⟩ := trod_sp hy'
        exact ⟨s, fun j hj => cellsEach hcs j hj, hs⟩
      obtain ⟨b, off, spot⟩ := a
      obtain ⟨s0, h0, _⟩ := each 0 (by omega)
      have hspot : spot = none := by simpa [Addr.add] using World.cell?_spot (h0 0 (by omega))
      subst hspot
      have each2 : ∀ i, ∃ s : Sp, i < len → Fl.W s.a ∧ Fl.W s.b ∧ w.cell? ⟨b, off + i * 4, none⟩ = some (.float .f64 s.a) ∧ w.cell? ⟨b, off + i * 4 + 1, none⟩ = some (.float .f64 s.b) ∧ w.cell? ⟨b, off + i * 4 + 2, none⟩ = some (.bool s.p) ∧ w.cell? ⟨b, off + i * 4 + 3, none⟩ = some (.bool s.q) := by
        intro i
        by_cases hi : i < len
        · obtain ⟨s, q1, q2, q3⟩ := each i hi
          simp only [Go.WideShapes.add_plain] at q1
          exact ⟨s, fun _ => ⟨q2, q3, q1 0 (by omega), q1 1 (by omega), q1 2 (by omega), q1 3 (by omega)⟩⟩
        · exact ⟨s0, fun h => absurd h hi⟩
      exact ⟨_, len, cap, fun i => Classical.choose (each2 i), rfl, hml, _, _, rfl, fun i hi => ⟨b, off, rfl, Classical.choose_spec (each2 i) hi⟩⟩
theorem bytesSpan : Try.prog.bytesOf 26 = 24 := by kernel_rfl
/-- A row of spans, opened; how many it has is told by its reading. -/
theorem open_spans {H : Type} {enc : TypeId × Value → H} {w : World} {base : Nat} {v : Value} {d : DataW H} {ps : List MemPlace} (hv : Value.okWide Try.prog w .any base 22 v) (h : DataW.Trod enc Try.prog w 0 (fun _ => true) true 22 v d ps) :
    ∃ (n : Nat) (f : Nat → Sp), SRow w v n f ∧ (n = 0 ∨ ∃ els sp, d = .slice els sp ∧ els.length = n) := by
  obtain ⟨a0, len0, cap0, rfl⟩ := okWide_slice Try.underlying22 hv
  obtain ⟨fuel, hf⟩ := h
  obtain ⟨a, n, c, f, hv', hr⟩ := trod_srow hf
  refine ⟨n, f, hr, ?_⟩
  cases hv'
  rcases DataW.trod_slice Try.underlying22 hf with ⟨hcs, _⟩ | ⟨a', len, cap, elems, rest, m, _, hcs, hx, hb, hl, hm, hlen, hel, _, _⟩
  · simp [Value.cells] at hcs; exact .inl hcs.2.1
  · simp [Value.cells] at hcs
    obtain ⟨_, hln, _⟩ := hcs
    cases hx
    exact .inr ⟨_, _, rfl, by simp [hlen, hln]⟩
end Go.Proofs.Ytcafknecomgmaaa
