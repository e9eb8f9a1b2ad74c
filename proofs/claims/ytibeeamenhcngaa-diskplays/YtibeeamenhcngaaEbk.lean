/- The law DiskSectors' walk; no condition. -/
import Derived.Test.YtibeeamenhcngaaEa
namespace Go.Proofs.Ytibeeamenhcngaa
open Go.RowKit Go.Lib Go.ChangeShapes Go.WideShapes
set_option linter.unusedVariables false
set_option linter.unusedSimpArgs false
set_option maxRecDepth 20000
/-- A row of truths as a law is given it. -/
def BArg (w : World) (v : Value) (kp : List Bool) : Prop := BRow w v kp ∧ (v = .slice none 0 0 ∨ (∃ b off n c, v = .slice (some ⟨b, off, none⟩) n c) ∨ ∃ a, v = .slice (some a) 0 0) ∧ (0 < kp.length → ∀ g, v.ownBlock = some g → g < w.heap.size)
theorem cellsBool : Try.prog.cellsOf 4 = 1 := by kernel_rfl
theorem open_bools {H : Type} {enc : TypeId × Value → H} {w : World} {base : Nat} {v : Value} {d : DataW H} {ps : List MemPlace} (hv : Value.okWide Try.prog w .any base 27 v) (h : DataW.Trod enc Try.prog w 0 (fun _ => true) true 27 v d ps) :
    ∃ kp, BArg w v kp := by
  obtain ⟨a0, len0, cap0, rfl⟩ := okWide_slice Try.underlying27 hv
  obtain ⟨fuel, hf⟩ := h
  rcases DataW.trod_slice Try.underlying27 hf with ⟨hcs, _⟩ | ⟨a, len, cap, elems, rest, m, _, hcs, _, hb, hl, hm, hlen, hel, hsp, _⟩
  · simp [Value.cells] at hcs
    obtain ⟨rfl, rfl, rfl⟩ := hcs
    exact ⟨[], BRow.none w, .inl rfl, fun h => by simp at h⟩
  · simp [Value.cells] at hcs
    obtain ⟨ha, hln, hcp⟩ := hcs
    rw [ha, hln, hcp]
    clear ha hln hcp hf hv a0 len0 cap0
    unfold maxLen at hm
    by_cases hz : len = 0
    · subst hz
      refine ⟨[], ⟨by simp, _, cap, rfl, by simp, by omega, fun i hi => by simp at hi⟩, ?_, fun h => by simp at h⟩
      by_cases hc : cap = 0
      · subst hc; exact .inr (.inr ⟨a, rfl⟩)
      · obtain ⟨hr, hcell⟩ := hsp rfl
        have h1 := hcell 0 (by omega)
        have h2 : rest[0]? = some (rest[0]'(by omega)) := List.getElem?_eq_getElem (by omega)
        rw [h2, cellsBool, Nat.mul_one, Option.bind_eq_some_iff] at h1
        obtain ⟨cs', hcs, hy'⟩ := h1
        obtain ⟨b, rfl, _⟩ := DataW.trod_bool Try.underlying4 hy'
        have h3 := cell_of_cells?_one hcs
        obtain ⟨b', off, spot⟩ := a
        have hspot : spot = none := by simpa [Addr.add] using World.cell?_spot h3
        subst hspot
        exact .inr (.inl ⟨_, _, _, _, rfl⟩)
    · have each : ∀ i, i < len → ∃ n : Bool, w.cell? (a.add i) = some (.bool n) := by
        intro i hi
        have h1 := hel i hi
        have h2 : elems[i]? = some (elems[i]'(by omega)) := List.getElem?_eq_getElem (by omega)
        rw [h2, cellsBool, Nat.mul_one, Option.bind_eq_some_iff] at h1
        obtain ⟨cs', hcs, hy'⟩ := h1
        obtain ⟨n, rfl, _⟩ := DataW.trod_bool Try.underlying4 hy'
        exact ⟨n, cell_of_cells?_one hcs⟩
      obtain ⟨b, off, spot⟩ := a
      obtain ⟨n0, h0⟩ := each 0 (by omega)
      have hspot : spot = none := by simpa [Addr.add] using World.cell?_spot h0
      subst hspot
      have hlen' : ((List.range len).map fun i => match w.cell? ⟨b, off + i, none⟩ with | some (.bool n) => n | _ => false).length = len := by simp
      refine ⟨(List.range len).map fun i => match w.cell? ⟨b, off + i, none⟩ with | some (.bool n) => n | _ => false, ⟨by rw [hlen']; omega, some ⟨b, off, none⟩, cap, by rw [hlen'], by rw [hlen']; omega, by omega, fun i hi => ⟨b, off, rfl, ?_⟩⟩, .inr (.inl ⟨_, _, _, _, rfl⟩), fun _ g e => ?_⟩
      · rw [hlen'] at hi
        obtain ⟨n, hn⟩ := each i hi
        rw [Go.WideShapes.add_plain] at hn
        rw [List.getD_eq_getElem?_getD, List.getElem?_map, List.getElem?_range hi]
        simp [hn]
      · cases e
        rw [Go.WideShapes.add_plain] at h0
        exact World.block_lt_of_cell? w _ h0
theorem read_sL (R : List Nat) : readC ⟨[(sA, ⟨R, R⟩)], false, 0⟩ sA = 0 ∧ readL ⟨[(sA, ⟨R, R⟩)], false, 0⟩ sA = R := by
  have c : readC ⟨[(sA, ⟨R, R⟩)], false, 0⟩ sA = 0 := by
    unfold readC faultC
    rw [misA]
    simp [getP]
  refine ⟨c, ?_⟩
  unfold readL
  rw [if_pos c]
  simp [fileAt, getP]

end Go.Proofs.Ytibeeamenhcngaa
