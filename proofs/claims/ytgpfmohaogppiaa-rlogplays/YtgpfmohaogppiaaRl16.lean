/- A configuration that came in, opened; conditions: none. -/
import Derived.Test.YtgpfmohaogppiaaRl12
namespace Go.Proofs.Ytgpfmohaogppiaa
open Go.ChangeShapes Go.WideShapes Go.ChangeAt Go.RowKit Go.Joins Go.Lib
set_option linter.unusedVariables false
set_option linter.unusedSimpArgs false
set_option maxRecDepth 20000
def CfB (w : World) (v : Value) : Prop := ∃ (v1 v2 : Value) (n m : Nat) (f g : Nat → Int), v = .agg #[v1, v2] ∧ NRowL w v1 n f ∧ NRowL w v2 m g
theorem cellsCf : Try.prog.cellsOf 24 = 2 ∧ Try.prog.cellsOf 22 = 1 := by refine ⟨?_, ?_⟩ <;> kernel_rfl
theorem trod_ints {H : Type} {enc : TypeId × Value → H} {w : World} {fuel : Nat} {v : Value} {y : DataW H × List MemPlace} (hf : DataW.trod enc Try.prog w 0 (fun _ => true) true fuel 22 [v] = some y) (hz : ∀ k ∈ y.1.weights Try.prog 22, k ≤ reachBytes) : ∃ (n : Nat) (f : Nat → Int), NRowL w v n f := by
  rcases DataW.trod_slice Try.underlying22 hf with ⟨hcs, _⟩ | ⟨a, len0, cap0, elems, rest, m, _, hcs, hx, hb, hl, hm, hlen, hel, _, _⟩
  · simp at hcs
    subst hcs
    exact ⟨0, fun _ => 0, by omega, none, 0, rfl, by omega, by omega, fun i hi => by omega⟩
  · simp at hcs
    subst hcs
    have hlr := len_row Try.underlying22 hf
    have hfit := row_fits Try.underlying22 bytesInt hlr hz
    simp only [reachBytes] at hfit
    have hcm : cap0 ≤ 9223372036854775807 := by unfold maxLen at hm; omega
    by_cases hzz : len0 = 0
    · subst hzz
      exact ⟨0, fun _ => 0, by omega, _, cap0, rfl, by omega, hcm, fun i hi => by omega⟩
    · have each : ∀ i, i < len0 → ∃ x : Int, w.cell? ((a.add (i * 1)).add 0) = some (.int .i64 x) := by
        intro i hi
        have h1 := hel i hi
        have h2 : elems[i]? = some (elems[i]'(by omega)) := List.getElem?_eq_getElem (by omega)
        rw [h2, cellsInt, Option.bind_eq_some_iff] at h1
        obtain ⟨cs', hcs, hy'⟩ := h1
        obtain ⟨x, e0, _, _⟩ := DataW.trod_int Try.underlying3 hy'
        have q := cellsEach hcs 0 (by omega)
        rw [e0] at q
        exact ⟨x, q⟩
      obtain ⟨b, off, spot⟩ := a
      obtain ⟨x0, h0⟩ := each 0 (by omega)
      have hspot : spot = none := by simpa [Addr.add] using World.cell?_spot h0
      subst hspot
      have each2 : ∀ i, ∃ x : Int, i < len0 → w.cell? ⟨b, off + i, none⟩ = some (.int .i64 x) := by
        intro i
        by_cases hi : i < len0
        · obtain ⟨x, q⟩ := each i hi
          simp only [Go.WideShapes.add_plain, Nat.mul_one, Nat.add_zero] at q
          exact ⟨x, fun _ => q⟩
        · exact ⟨0, fun h => absurd h hi⟩
      exact ⟨len0, fun i => Classical.choose (each2 i), by omega, _, cap0, rfl, hl, hcm, fun i hi => ⟨b, off, rfl, Classical.choose_spec (each2 i) hi⟩⟩
theorem open_conf {H : Type} {enc : TypeId × Value → H} {w : World} {base : Nat} {v : Value} {d : DataW H} {ps : List MemPlace} (hv : Value.okWide Try.prog w .any base 24 v) (h : DataW.Trod enc Try.prog w 0 (fun _ => true) true 24 v d ps) (hz : ∀ k ∈ d.weights Try.prog 24, k ≤ reachBytes) : CfB w v := by
  obtain ⟨v0, v1, y0, y1, n, rfl, hdd, _, h0, h1⟩ := open_agg2 Try.underlying24 (by kernel_rfl) cellsCf.1 hv h
  have hw : ∀ (j : Nat) (t : TypeId) (z : DataW H), ([22, 22] : List TypeId)[j]? = some t → [y0.1, y1.1][j]? = some z → ∀ x ∈ z.weights Try.prog t, x ≤ reachBytes := by
    intro j t z ht hz' x hx
    refine hz x ?_
    rw [hdd]
    simp only [DataW.weights, Try.underlying24]
    exact DataW.weights_mem_each ht hz' x hx
  obtain ⟨a, f, r1⟩ := trod_ints h0 (hw 0 _ _ rfl rfl)
  obtain ⟨b, g, r2⟩ := trod_ints h1 (hw 1 _ _ rfl rfl)
  exact ⟨v0, v1, a, b, f, g, rfl, r1, r2⟩
end Go.Proofs.Ytgpfmohaogppiaa
