/- A row of law 5's steps, as it lies in memory and as an argument; its step, at every disk; no condition. -/
import Derived.Test.YtibeeamenhcngaaEc
import Derived.SizedLaws
import Derived.ProofKit
import Derived.OpenShut
import Derived.Lib.SmallJoins
namespace Go.Proofs.Ytibeeamenhcngaa
open Go.ChangeShapes Go.WideShapes Go.ChangeAt Go.RowKit Go.Joins Go.Lib
set_option linter.unusedVariables false
set_option linter.unusedSimpArgs false
set_option maxRecDepth 20000
structure Opd where
  k : Int
  a : ByteArray
  z : ByteArray
  n : Int
  vb : Value
  B : List Nat
  vk : Value
  kp : List Bool
def Opd.cs (p : Opd) : List Value := [.int .i64 p.k, .string p.a, .string p.z, .int .i64 p.n, p.vb, p.vk]
def Opd.Ok (w : World) (p : Opd) : Prop := (-9223372036854775808 ≤ p.k ∧ p.k ≤ 9223372036854775807) ∧ (-9223372036854775808 ≤ p.n ∧ p.n ≤ 9223372036854775807) ∧ Rw w p.vb p.B ∧ BArg w p.vk p.kp
theorem wfN {a : Int} (h : (Lit.int .i64 a).wf = true) : -9223372036854775808 ≤ a ∧ a ≤ 9223372036854775807 := by
  have e1 : IntKind.i64.min = -9223372036854775808 := by decide
  have e2 : IntKind.i64.max = 9223372036854775807 := by decide
  simp [Lit.wf, e1, e2] at h
  exact h
theorem trod_bools {H : Type} {enc : TypeId × Value → H} {w : World} {fuel : Nat} {cs : List Value} {y : DataW H × List MemPlace} (h : DataW.trod enc Try.prog w 0 (fun _ => true) true fuel 27 cs = some y) : ∃ v kp, cs = [v] ∧ BArg w v kp := by
  rcases DataW.trod_slice Try.underlying27 h with ⟨rfl, _⟩ | ⟨a, len, cap, elems, rest, m, _, rfl, _, hb, hl, hm, hlen, hel, hsp, _⟩
  · exact ⟨_, [], rfl, BRow.none w, .inl rfl, fun h => by simp at h⟩
  · unfold maxLen at hm
    by_cases hz : len = 0
    · subst hz
      refine ⟨_, [], rfl, ⟨by simp, _, cap, rfl, by simp, by omega, fun i hi => by simp at hi⟩, ?_, fun h => by simp at h⟩
      by_cases hc : cap = 0
      · subst hc; exact .inr (.inr ⟨a, rfl⟩)
      · obtain ⟨hr, hcell⟩ := hsp rfl
        have h1 := hcell 0 (by omega)
        have h2 : rest[0]? = some (rest[0]'(by omega)) := List.getElem?_eq_getElem (by omega)
        rw [h2, cellsBool, Nat.mul_one, Option.bind_eq_some_iff] at h1
        obtain ⟨cs', hcs, hy'⟩ := h1
        obtain ⟨b, rfl, _⟩ := DataW.trod_bool Try.underlying4 hy'
        have h3 := cell_of_cells?_one hcs
        obtain ⟨b', off, spot⟩ := a
        have hspot : spot = none := by simpa [Addr.add] using World.cell?_spot h3
        subst hspot
        exact .inr (.inl ⟨_, _, _, _, rfl⟩)
    · have each : ∀ i, i < len → ∃ n : Bool, w.cell? (a.add i) = some (.bool n) := by
        intro i hi
        have h1 := hel i hi
        have h2 : elems[i]? = some (elems[i]'(by omega)) := List.getElem?_eq_getElem (by omega)
        rw [h2, cellsBool, Nat.mul_one, Option.bind_eq_some_iff] at h1
        obtain ⟨cs', hcs, hy'⟩ := h1
        obtain ⟨n, rfl, _⟩ := DataW.trod_bool Try.underlying4 hy'
        exact ⟨n, cell_of_cells?_one hcs⟩
      obtain ⟨b, off, spot⟩ := a
      obtain ⟨n0, h0⟩ := each 0 (by omega)
      have hspot : spot = none := by simpa [Addr.add] using World.cell?_spot h0
      subst hspot
      have hlen' : ((List.range len).map fun i => match w.cell? ⟨b, off + i, none⟩ with | some (.bool n) => n | _ => false).length = len := by simp
      refine ⟨_, (List.range len).map fun i => match w.cell? ⟨b, off + i, none⟩ with | some (.bool n) => n | _ => false, rfl, ⟨by rw [hlen']; omega, some ⟨b, off, none⟩, cap, by rw [hlen'], by rw [hlen']; omega, by omega, fun i hi => ⟨b, off, rfl, ?_⟩⟩, .inr (.inl ⟨_, _, _, _, rfl⟩), fun _ g e => ?_⟩
      · rw [hlen'] at hi
        obtain ⟨n, hn⟩ := each i hi
        rw [Go.WideShapes.add_plain] at hn
        rw [List.getD_eq_getElem?_getD, List.getElem?_map, List.getElem?_range hi]
        simp [hn]
      · cases e
        rw [Go.WideShapes.add_plain] at h0
        exact World.block_lt_of_cell? w _ h0
theorem trod_bytes {H : Type} {enc : TypeId × Value → H} {w : World} {fuel : Nat} {cs : List Value} {y : DataW H × List MemPlace} (h : DataW.trod enc Try.prog w 0 (fun _ => true) true fuel 23 cs = some y) : ∃ v L, cs = [v] ∧ Rw w v L := by
  suffices hs : ∃ v n x, cs = [v] ∧ Pk.ByRow w v n x by
    obtain ⟨v, n, x, e, hb⟩ := hs
    obtain ⟨L, _, hr⟩ := ByRow.rw hb
    exact ⟨v, L, e, hr⟩
  rcases DataW.trod_slice Try.underlying23 h with ⟨rfl, _⟩ | ⟨a, len, cap, elems, rest, m, _, rfl, _, hb, hl, hm, hlen, hel, _, _⟩
  · exact ⟨_, 0, fun _ => 0, rfl, .inl ⟨rfl, none, 0, rfl, fun _ => rfl⟩⟩
  · by_cases hz : len = 0
    · subst hz; exact ⟨_, 0, fun _ => 0, rfl, .inl ⟨rfl, _, _, rfl, fun h => by cases h⟩⟩
    · have each : ∀ i, i < len → ∃ n : Int, w.cell? (a.add i) = some (.int .u8 n) ∧ 0 ≤ n ∧ n < 256 := by
        intro i hi
        have h1 := hel i hi
        have h2 : elems[i]? = some (elems[i]'(by omega)) := List.getElem?_eq_getElem (by omega)
        rw [h2, Pk.cellsByte, Nat.mul_one, Option.bind_eq_some_iff] at h1
        obtain ⟨cs', hcs, hy'⟩ := h1
        obtain ⟨n, rfl, _, hw⟩ := DataW.trod_int Try.underlying5 hy'
        exact ⟨n, cell_of_cells?_one hcs, by simp [Lit.wf, IntKind.min, IntKind.max, IntKind.bits, IntKind.signed] at hw; omega⟩
      obtain ⟨b, off, spot⟩ := a
      obtain ⟨n0, h0, _⟩ := each 0 (by omega)
      have hspot : spot = none := by simpa [Addr.add] using World.cell?_spot h0
      subst hspot
      refine ⟨_, len, fun i => match w.cell? ⟨b, off + i, none⟩ with | some (.int _ n) => n.toNat | _ => 0, rfl, .inr ⟨by omega, by omega, b, off, cap, rfl, fun i hi => ?_, hl, hm⟩⟩
      obtain ⟨n, hn, hw⟩ := each i hi
      rw [Go.WideShapes.add_plain] at hn
      simp only [hn]
      exact ⟨by omega, by rw [Int.toNat_of_nonneg hw.1]⟩
theorem cellsD : Try.prog.cellsOf 3 = 1 ∧ Try.prog.cellsOf 9 = 1 ∧ Try.prog.cellsOf 23 = 1 ∧ Try.prog.cellsOf 27 = 1 := by refine ⟨?_, ?_, ?_, ?_⟩ <;> kernel_rfl
theorem cellsOpd : Try.prog.cellsOf 29 = 6 := by kernel_rfl
theorem trod_opd {H : Type} {enc : TypeId × Value → H} {w : World} {fuel : Nat} {cs : List Value} {y : DataW H × List MemPlace} (h : DataW.trod enc Try.prog w 0 (fun _ => true) true fuel 29 cs = some y) : ∃ p : Opd, cs = p.cs ∧ p.Ok w := by
  obtain ⟨xs, n, _, _, hl, hlen, hf⟩ := DataW.trod_struct Try.underlying29 h
  rw [cellsOpd] at hl
  match cs, hl with
  | [c0, c1, c2, c3, c4, c5], _ =>
    match xs, hlen with
    | [y0, y1, y2, y3, y4, y5], _ =>
      have h0 := hf 0 _ rfl
      have h1 := hf 1 _ rfl
      have h2 := hf 2 _ rfl
      have h3 := hf 3 _ rfl
      have h4 := hf 4 _ rfl
      have h5 := hf 5 _ rfl
      simp [cellsD] at h0 h1 h2 h3 h4 h5
      obtain ⟨a0, e0, _, q0⟩ := DataW.trod_int Try.underlying3 h0
      obtain ⟨a1, e1, _⟩ := DataW.trod_string Try.underlying9 h1
      obtain ⟨a2, e2, _⟩ := DataW.trod_string Try.underlying9 h2
      obtain ⟨a3, e3, _, q3⟩ := DataW.trod_int Try.underlying3 h3
      obtain ⟨v4, B, e4, r4⟩ := trod_bytes h4
      obtain ⟨v5, kp, e5, r5⟩ := trod_bools h5
      simp at e0 e1 e2 e3 e4 e5
      subst e0 e1 e2 e3 e4 e5
      exact ⟨⟨a0, a1, a2, a3, _, B, _, kp⟩, rfl, wfN q0, wfN q3, r4, r5⟩
def ODRow (w : World) (v : Value) (n : Nat) (f : Nat → Opd) : Prop := n ≤ 9223372036854775807 ∧ ∃ a c, v = .slice a n c ∧ n ≤ c ∧ ∀ i, i < n → ∃ b off, a = some ⟨b, off, none⟩ ∧ (f i).Ok w ∧ ∀ j, j < 6 → w.cell? ⟨b, off + i * 6 + j, none⟩ = (f i).cs[j]?
def OpRow (w : World) (v : Value) : Prop := ∃ n f, ODRow w v n f
theorem trod_odrow {H : Type} {enc : TypeId × Value → H} {w : World} {fuel : Nat} {v : Value} {y : DataW H × List MemPlace} (h : DataW.trod enc Try.prog w 0 (fun _ => true) true fuel 22 [v] = some y) : OpRow w v := by
  have p0 : Opd := ⟨0, ByteArray.empty, ByteArray.empty, 0, .slice none 0 0, [], .slice none 0 0, []⟩
  rcases DataW.trod_slice Try.underlying22 h with ⟨hcs, _⟩ | ⟨a, len, cap, elems, rest, m, _, hcs, _, hb, hl, hm, hlen, hel, _, _⟩
  · simp at hcs; subst hcs
    exact ⟨0, fun _ => p0, by omega, none, 0, rfl, Nat.le_refl _, fun i hi => by omega⟩
  · simp at hcs; subst hcs
    have hml : len ≤ 9223372036854775807 := by unfold maxLen at hm; omega
    by_cases hz : len = 0
    · subst hz; exact ⟨_, fun _ => p0, hml, _, _, rfl, by omega, fun i hi => by omega⟩
    · have each : ∀ i, i < len → ∃ p : Opd, (∀ j, j < 6 → w.cell? ((a.add (i * 6)).add j) = p.cs[j]?) ∧ p.Ok w := by
        intro i hi
        have h1 := hel i hi
        have h2 : elems[i]? = some (elems[i]'(by omega)) := List.getElem?_eq_getElem (by omega)
        rw [h2, cellsOpd, Option.bind_eq_some_iff] at h1
        obtain ⟨cs', hcs, hy'⟩ := h1
        obtain ⟨s, rfl, hs⟩ := trod_opd hy'
        exact ⟨s, fun j hj => cellsEach hcs j hj, hs⟩
      obtain ⟨b, off, spot⟩ := a
      obtain ⟨s0, h0, _⟩ := each 0 (by omega)
      have hspot : spot = none := by simpa [Addr.add] using World.cell?_spot (h0 0 (by omega))
      subst hspot
      have each2 : ∀ i, ∃ p : Opd, i < len → p.Ok w ∧ ∀ j, j < 6 → w.cell? ⟨b, off + i * 6 + j, none⟩ = p.cs[j]? := by
        intro i
        by_cases hi : i < len
        · obtain ⟨s, q1, q2⟩ := each i hi
          simp only [Go.WideShapes.add_plain] at q1
          exact ⟨s, fun _ => ⟨q2, q1⟩⟩
        · exact ⟨s0, fun h => absurd h hi⟩
      exact ⟨len, fun i => Classical.choose (each2 i), hml, _, cap, rfl, by omega, fun i hi => ⟨b, off, rfl, (Classical.choose_spec (each2 i) hi).1, (Classical.choose_spec (each2 i) hi).2⟩⟩
theorem open_ops {H : Type} {enc : TypeId × Value → H} {w : World} {base : Nat} {v : Value} {d : DataW H} {ps : List MemPlace} (hv : Value.okWide Try.prog w .any base 22 v) (h : DataW.Trod enc Try.prog w 0 (fun _ => true) true 22 v d ps) (hz : ∀ x ∈ d.weights Try.prog 22, x ≤ reachBytes) : OpRow w v := by
  obtain ⟨a0, len0, cap0, rfl⟩ := okWide_slice Try.underlying22 hv
  obtain ⟨fuel, hf⟩ := h
  exact trod_odrow hf
end Go.Proofs.Ytibeeamenhcngaa
