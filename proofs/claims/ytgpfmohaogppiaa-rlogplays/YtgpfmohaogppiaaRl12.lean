/- Rows of entries and of law 16's steps, as they lie in memory and as arguments; no condition. -/
import Derived.Test.YtgpfmohaogppiaaRl11
import Derived.SizedLaws
import Derived.ProofKit
import Derived.OpenShut
import Derived.Lib.SmallJoins
namespace Go.Proofs.Ytgpfmohaogppiaa
open Go.ChangeShapes Go.WideShapes Go.ChangeAt Go.RowKit Go.Joins Go.Lib
set_option linter.unusedVariables false
set_option linter.unusedSimpArgs false
set_option maxRecDepth 20000
theorem ByRow.rw {w : World} {v : Value} {n : Nat} {x : Nat → Nat} (h : Pk.ByRow w v n x) : ∃ L : List Nat, L.length = n ∧ Rw w v L := by
  refine ⟨(List.range n).map x, by simp, ?_⟩
  unfold Rw
  have e : ((List.range n).map x).length = n := by simp
  rw [e]
  rcases h with h | ⟨h0, hm, b, off, cap, hv, hc, hcp⟩
  · exact .inl h
  · refine .inr ⟨h0, hm, b, off, cap, hv, fun i hi => ?_, hcp⟩
    have q : gd ((List.range n).map x) i = x i := by simp [gd, hi]
    rw [q]
    exact hc i hi
theorem trod_bytes {H : Type} {enc : TypeId × Value → H} {w : World} {fuel : Nat} {cs : List Value} {y : DataW H × List MemPlace} (h : DataW.trod enc Try.prog w 0 (fun _ => true) true fuel 39 cs = some y) : ∃ v L, cs = [v] ∧ Rw w v L := by
  suffices hs : ∃ v n x, cs = [v] ∧ Pk.ByRow w v n x by
    obtain ⟨v, n, x, e, hb⟩ := hs
    obtain ⟨L, _, hr⟩ := ByRow.rw hb
    exact ⟨v, L, e, hr⟩
  rcases DataW.trod_slice Try.underlying39 h with ⟨rfl, _⟩ | ⟨a, len, cap, elems, rest, m, _, rfl, _, hb, hl, hm, hlen, hel, _, _⟩
  · exact ⟨_, 0, fun _ => 0, rfl, .inl ⟨rfl, none, 0, rfl, fun _ => rfl⟩⟩
  · by_cases hz : len = 0
    · subst hz; exact ⟨_, 0, fun _ => 0, rfl, .inl ⟨rfl, _, _, rfl, fun h => by cases h⟩⟩
    · have each : ∀ i, i < len → ∃ n : Int, w.cell? (a.add i) = some (.int .u8 n) ∧ 0 ≤ n ∧ n < 256 := by
        intro i hi
        have h1 := hel i hi
        have h2 : elems[i]? = some (elems[i]'(by omega)) := List.getElem?_eq_getElem (by omega)
        rw [h2, Pk.cellsByte, Nat.mul_one, Option.bind_eq_some_iff] at h1
        obtain ⟨cs', hcs, hy'⟩ := h1
        obtain ⟨n, rfl, _, hw⟩ := DataW.trod_int Try.underlying5 hy'
        exact ⟨n, cell_of_cells?_one hcs, by simp [Lit.wf, IntKind.min, IntKind.max, IntKind.bits, IntKind.signed] at hw; omega⟩
      obtain ⟨b, off, spot⟩ := a
      obtain ⟨n0, h0, _⟩ := each 0 (by omega)
      have hspot : spot = none := by simpa [Addr.add] using World.cell?_spot h0
      subst hspot
      refine ⟨_, len, fun i => match w.cell? ⟨b, off + i, none⟩ with | some (.int _ n) => n.toNat | _ => 0, rfl, .inr ⟨by omega, by omega, b, off, cap, rfl, fun i hi => ?_, hl, hm⟩⟩
      obtain ⟨n, hn, hw⟩ := each i hi
      rw [Go.WideShapes.add_plain] at hn
      simp only [hn]
      exact ⟨by omega, by rw [Int.toNat_of_nonneg hw.1]⟩
theorem bytesU8 : Try.prog.bytesOf 5 = 1 := by kernel_rfl
theorem weightsAll_of {H : Type} {P : Program} {e : TypeId} : ∀ {l : List (DataW H)} {d : DataW H}, d ∈ l → ∀ n ∈ d.weights P e, n ∈ DataW.weightsAll P e l
  | x :: r, d, h, n, hn => by
    unfold DataW.weightsAll
    rcases List.mem_cons.1 h with e | e
    · subst e; exact List.mem_append_left _ hn
    · exact List.mem_append_right _ (weightsAll_of e n hn)
theorem trod_bytesN {H : Type} {enc : TypeId × Value → H} {w : World} {fuel : Nat} {cs : List Value} {y : DataW H × List MemPlace} (h : DataW.trod enc Try.prog w 0 (fun _ => true) true fuel 39 cs = some y) (hz : ∀ k ∈ y.1.weights Try.prog 39, k ≤ reachBytes) : ∃ v L, cs = [v] ∧ Rw w v L ∧ L.length ≤ 140737488355328 := by
  obtain ⟨v, L, rfl, hr⟩ := trod_bytes h
  refine ⟨v, L, rfl, hr, ?_⟩
  obtain ⟨a, c, e⟩ := hr.len
  subst e
  have hfit := row_fits Try.underlying39 bytesU8 (len_row Try.underlying39 h) hz
  simp only [reachBytes] at hfit
  omega
theorem wfN {a : Int} (h : (Lit.int .i64 a).wf = true) : -9223372036854775808 ≤ a ∧ a ≤ 9223372036854775807 := by
  have e1 : IntKind.i64.min = -9223372036854775808 := by decide
  have e2 : IntKind.i64.max = 9223372036854775807 := by decide
  simp [Lit.wf, e1, e2] at h
  exact h
theorem cellsE : Try.prog.cellsOf 3 = 1 ∧ Try.prog.cellsOf 2 = 1 ∧ Try.prog.cellsOf 39 = 1 ∧ Try.prog.cellsOf 4 = 1 ∧ Try.prog.cellsOf 29 = 1 := by refine ⟨?_, ?_, ?_, ?_, ?_⟩ <;> kernel_rfl
theorem cellsEnt : Try.prog.cellsOf 41 = 4 := by kernel_rfl
theorem bytesEnt : Try.prog.bytesOf 41 = 48 := by kernel_rfl
def En.w64 (x : En) : Prop := (-9223372036854775808 ≤ x.i ∧ x.i ≤ 9223372036854775807) ∧ (-9223372036854775808 ≤ x.t ∧ x.t ≤ 9223372036854775807)
theorem trod_entry {H : Type} {enc : TypeId × Value → H} {w : World} {fuel : Nat} {cs : List Value} {y : DataW H × List MemPlace} (h : DataW.trod enc Try.prog w 0 (fun _ => true) true fuel 41 cs = some y) (hz : ∀ k ∈ y.1.weights Try.prog 41, k ≤ reachBytes) : ∃ x : En, cs = ec x.e ∧ Rw w x.s x.d ∧ x.w64 ∧ x.d.length ≤ 140737488355328 := by
  obtain ⟨xs, n, _, hd, hl, hlen, hf⟩ := DataW.trod_struct Try.underlying41 h
  rw [cellsEnt] at hl
  match cs, hl with
  | [c0, c1, c2, c3], _ =>
    match xs, hlen, hd with
    | [y0, y1, y2, y3], _, hd =>
      have h0 := hf 0 _ rfl
      have h1 := hf 1 _ rfl
      have h2 := hf 2 _ rfl
      have h3 := hf 3 _ rfl
      simp [cellsE] at h0 h1 h2 h3
      obtain ⟨a0, e0, _, q0⟩ := DataW.trod_int Try.underlying2 h0
      obtain ⟨a1, e1, _, q1⟩ := DataW.trod_int Try.underlying2 h1
      obtain ⟨a2, e2, _⟩ := DataW.trod_int Try.underlying3 h2
      have hdd : y.1 = .agg [y0.1, y1.1, y2.1, y3.1] := congrArg Prod.fst hd
      obtain ⟨v3, L, e3, r3, l3⟩ := trod_bytesN h3 (fun k hk => hz k (by
        rw [hdd]
        simp only [DataW.weights, Try.underlying41]
        exact DataW.weights_mem_each (j := 3) (t := 39) (d := y3.1) rfl rfl k hk))
      obtain ⟨p, c, ev⟩ := r3.len
      subst ev
      simp at e0 e1 e2 e3
      subst e0 e1 e2 e3
      exact ⟨⟨a0, a1, a2, p, c, L⟩, rfl, r3, ⟨wfN q0, wfN q1⟩, l3⟩
theorem trod_entries {H : Type} {enc : TypeId × Value → H} {w : World} {fuel : Nat} {cs : List Value} {y : DataW H × List MemPlace} (h : DataW.trod enc Try.prog w 0 (fun _ => true) true fuel 29 cs = some y) (hz : ∀ k ∈ y.1.weights Try.prog 29, k ≤ reachBytes) : ∃ v X, cs = [v] ∧ ERow w v X ∧ (∀ x ∈ X, x.w64 ∧ x.d.length ≤ 140737488355328) := by
  rcases DataW.trod_slice Try.underlying29 h with ⟨hcs, _⟩ | ⟨a, len, cap, elems, rest, m, _, hcs, hd, hb, hl, hm, hlen, hel, _, _⟩
  · subst hcs
    exact ⟨_, [], rfl, ⟨by simp, ⟨none, 0, rfl, by simp, by omega, fun j hj => by simp at hj⟩, fun x hx => by cases hx⟩, fun x hx => by cases hx⟩
  · subst hcs
    have hfit := row_fits Try.underlying29 bytesEnt (len_row Try.underlying29 h) hz
    simp only [reachBytes] at hfit
    have hml : cap ≤ 9223372036854775807 := by unfold maxLen at hm; omega
    have hdd : y.1 = .slice (elems.map (·.1)) (rest.map (·.1)) := congrArg Prod.fst hd
    by_cases hz0 : len = 0
    · subst hz0
      exact ⟨_, [], rfl, ⟨by simp, ⟨_, cap, rfl, by simp, hml, fun j hj => by simp at hj⟩, fun x hx => by cases hx⟩, fun x hx => by cases hx⟩
    · have each : ∀ i, i < len → ∃ x : En, (∀ j, j < 4 → w.cell? ((a.add (i * 4)).add j) = (ec x.e)[j]?) ∧ Rw w x.s x.d ∧ x.w64 ∧ x.d.length ≤ 140737488355328 := by
        intro i hi
        have h1 := hel i hi
        have h2 : elems[i]? = some (elems[i]'(by omega)) := List.getElem?_eq_getElem (by omega)
        rw [h2, cellsEnt, Option.bind_eq_some_iff] at h1
        obtain ⟨cs', hcs, hy'⟩ := h1
        obtain ⟨x, rfl, hr, h64, hln⟩ := trod_entry hy' (fun k hk => hz k (by
          rw [hdd]
          simp only [DataW.weights, Try.underlying29]
          exact List.mem_cons_of_mem _ (List.mem_append_left _ (weightsAll_of (List.mem_map_of_mem (List.getElem_mem _)) k hk))))
        exact ⟨x, fun j hj => cellsEach hcs j hj, hr, h64, hln⟩
      obtain ⟨b, off, spot⟩ := a
      obtain ⟨s0, h0, _⟩ := each 0 (by omega)
      have hspot : spot = none := by simpa [Addr.add] using World.cell?_spot ((h0 0 (by omega)).trans (show _ = some _ from rfl))
      subst hspot
      have each2 : ∀ i, ∃ x : En, i < len → EntIn w b (off + i * 4) x.e ∧ Rw w x.s x.d ∧ x.w64 ∧ x.d.length ≤ 140737488355328 := by
        intro i
        by_cases hi : i < len
        · obtain ⟨x, q1, q2, q3⟩ := each i hi
          simp only [Go.WideShapes.add_plain] at q1
          exact ⟨x, fun _ => ⟨⟨by have := q1 0 (by omega); simpa [ec] using this, by have := q1 1 (by omega); simpa [ec] using this, by have := q1 2 (by omega); simpa [ec] using this, by have := q1 3 (by omega); simpa [ec] using this⟩, q2, q3⟩⟩
        · exact ⟨s0, fun h => absurd h hi⟩
      have hlX : ((List.range len).map fun i => Classical.choose (each2 i)).length = len := by simp
      have hat : ∀ i, i < len → atE ((List.range len).map fun i => Classical.choose (each2 i)) i = Classical.choose (each2 i) := fun i hi => by rw [atE_get _ _ (by rw [hlX]; exact hi)]; simp
      have hmem : ∀ x ∈ (List.range len).map (fun i => Classical.choose (each2 i)), Rw w x.s x.d ∧ x.w64 ∧ x.d.length ≤ 140737488355328 := fun x hx => by
        simp only [List.mem_map, List.mem_range] at hx
        obtain ⟨i, hi, rfl⟩ := hx
        exact (Classical.choose_spec (each2 i) hi).2
      refine ⟨_, (List.range len).map fun i => Classical.choose (each2 i), rfl, ⟨by rw [hlX]; omega, ⟨some ⟨b, off, none⟩, cap, by rw [hlX], by rw [hlX]; exact hl, hml, fun i hi => ?_⟩, fun x hx => (hmem x hx).1⟩, fun x hx => (hmem x hx).2⟩
      rw [hlX] at hi
      rw [hat i hi]
      exact ⟨b, off, rfl, (Classical.choose_spec (each2 i) hi).1⟩
/-- A step of law 16. -/
structure Opr where
  k : Int
  n : Int
  b : Bool
  v : Value
  X : List En
def Opr.cs (p : Opr) : List Value := [.int .i64 p.k, .int .i64 p.n, .bool p.b, p.v]
def Opr.Ok (w : World) (p : Opr) : Prop := (-9223372036854775808 ≤ p.n ∧ p.n ≤ 9223372036854775807) ∧ ERow w p.v p.X ∧ ∀ x ∈ p.X, x.w64 ∧ x.d.length ≤ 140737488355328
theorem cellsOpr : Try.prog.cellsOf 31 = 4 := by kernel_rfl
theorem bytesOpr : Try.prog.bytesOf 31 = 48 := by kernel_rfl
theorem trod_opr {H : Type} {enc : TypeId × Value → H} {w : World} {fuel : Nat} {cs : List Value} {y : DataW H × List MemPlace} (h : DataW.trod enc Try.prog w 0 (fun _ => true) true fuel 31 cs = some y) (hz : ∀ k ∈ y.1.weights Try.prog 31, k ≤ reachBytes) : ∃ p : Opr, cs = p.cs ∧ p.Ok w := by
  obtain ⟨xs, n, _, hd, hl, hlen, hf⟩ := DataW.trod_struct Try.underlying31 h
  rw [cellsOpr] at hl
  match cs, hl with
  | [c0, c1, c2, c3], _ =>
    match xs, hlen, hd with
    | [y0, y1, y2, y3], _, hd =>
      have h0 := hf 0 _ rfl
      have h1 := hf 1 _ rfl
      have h2 := hf 2 _ rfl
      have h3 := hf 3 _ rfl
      simp [cellsE] at h0 h1 h2 h3
      obtain ⟨a0, e0, _⟩ := DataW.trod_int Try.underlying3 h0
      obtain ⟨a1, e1, _, q1⟩ := DataW.trod_int Try.underlying2 h1
      obtain ⟨a2, e2, _⟩ := DataW.trod_bool Try.underlying4 h2
      have hdd : y.1 = .agg [y0.1, y1.1, y2.1, y3.1] := congrArg Prod.fst hd
      obtain ⟨v3, X, e3, r3, l3⟩ := trod_entries h3 (fun k hk => hz k (by
        rw [hdd]
        simp only [DataW.weights, Try.underlying31]
        exact DataW.weights_mem_each (j := 3) (t := 29) (d := y3.1) rfl rfl k hk))
      simp at e0 e1 e2 e3
      subst e0 e1 e2 e3
      exact ⟨⟨a0, a1, a2, _, X⟩, rfl, wfN q1, r3, l3⟩
def ORRow (w : World) (v : Value) (n : Nat) (f : Nat → Opr) : Prop := n ≤ 2932031007402 ∧ ∃ a c, v = .slice a n c ∧ n ≤ c ∧ c ≤ 9223372036854775807 ∧ ∀ i, i < n → ∃ b off, a = some ⟨b, off, none⟩ ∧ (f i).Ok w ∧ ∀ j, j < 4 → w.cell? ⟨b, off + i * 4 + j, none⟩ = (f i).cs[j]?
def OpRow (w : World) (v : Value) : Prop := ∃ n f, ORRow w v n f
theorem open_ops {H : Type} {enc : TypeId × Value → H} {w : World} {base : Nat} {v : Value} {d : DataW H} {ps : List MemPlace} (hv : Value.okWide Try.prog w .any base 25 v) (h : DataW.Trod enc Try.prog w 0 (fun _ => true) true 25 v d ps) (hz : ∀ x ∈ d.weights Try.prog 25, x ≤ reachBytes) : OpRow w v := by
  have p0 : Opr := ⟨0, 0, false, .slice none 0 0, []⟩
  obtain ⟨a0, len0, cap0, rfl⟩ := okWide_slice Try.underlying25 hv
  obtain ⟨fuel, hf⟩ := h
  have hfit := row_fits Try.underlying25 bytesOpr (len_row Try.underlying25 hf) hz
  simp only [reachBytes] at hfit
  rcases DataW.trod_slice Try.underlying25 hf with ⟨hcs, _⟩ | ⟨a, len, cap, elems, rest, m, _, hcs, hd, hb, hl, hm, hlen, hel, _, _⟩
  · simp [Value.cells] at hcs
    obtain ⟨rfl, rfl, rfl⟩ := hcs
    exact ⟨0, fun _ => p0, by omega, none, 0, rfl, Nat.le_refl _, by omega, fun i hi => by omega⟩
  · simp [Value.cells] at hcs
    obtain ⟨ha, hln, hcp⟩ := hcs
    rw [hln] at hfit
    rw [ha, hln, hcp]
    clear ha hln hcp hf hv a0 len0 cap0
    have hdd : d = .slice (elems.map (·.1)) (rest.map (·.1)) := congrArg Prod.fst hd
    have hml : cap ≤ 9223372036854775807 := by unfold maxLen at hm; omega
    by_cases hz0 : len = 0
    · subst hz0; exact ⟨_, fun _ => p0, by omega, _, _, rfl, by omega, hml, fun i hi => by omega⟩
    · have each : ∀ i, i < len → ∃ p : Opr, (∀ j, j < 4 → w.cell? ((a.add (i * 4)).add j) = p.cs[j]?) ∧ p.Ok w := by
        intro i hi
        have h1 := hel i hi
        have h2 : elems[i]? = some (elems[i]'(by omega)) := List.getElem?_eq_getElem (by omega)
        rw [h2, cellsOpr, Option.bind_eq_some_iff] at h1
        obtain ⟨cs', hcs, hy'⟩ := h1
        obtain ⟨s, rfl, hs⟩ := trod_opr hy' (fun k hk => hz k (by
          rw [hdd]
          simp only [DataW.weights, Try.underlying25]
          exact List.mem_cons_of_mem _ (List.mem_append_left _ (weightsAll_of (List.mem_map_of_mem (List.getElem_mem _)) k hk))))
        exact ⟨s, fun j hj => cellsEach hcs j hj, hs⟩
      obtain ⟨b, off, spot⟩ := a
      obtain ⟨s0, h0, _⟩ := each 0 (by omega)
      have hspot : spot = none := by simpa [Addr.add] using World.cell?_spot ((h0 0 (by omega)).trans (show _ = some _ from rfl))
      subst hspot
      have each2 : ∀ i, ∃ p : Opr, i < len → p.Ok w ∧ ∀ j, j < 4 → w.cell? ⟨b, off + i * 4 + j, none⟩ = p.cs[j]? := by
        intro i
        by_cases hi : i < len
        · obtain ⟨s, q1, q2⟩ := each i hi
          simp only [Go.WideShapes.add_plain] at q1
          exact ⟨s, fun _ => ⟨q2, q1⟩⟩
        · exact ⟨s0, fun h => absurd h hi⟩
      exact ⟨len, fun i => Classical.choose (each2 i), by omega, _, cap, rfl, hl, hml, fun i hi => ⟨b, off, rfl, Classical.choose_spec (each2 i) hi⟩⟩
theorem open_entries {H : Type} {enc : TypeId × Value → H} {w : World} {base : Nat} {v : Value} {d : DataW H} {ps : List MemPlace} (hv : Value.okWide Try.prog w .any base 29 v) (h : DataW.Trod enc Try.prog w 0 (fun _ => true) true 29 v d ps) (hz : ∀ x ∈ d.weights Try.prog 29, x ≤ reachBytes) : ∃ X, ERow w v X ∧ ∀ x ∈ X, x.w64 ∧ x.d.length ≤ 140737488355328 := by
  obtain ⟨a0, len0, cap0, rfl⟩ := okWide_slice Try.underlying29 hv
  obtain ⟨fuel, hf⟩ := h
  obtain ⟨v, X, e, h1, h2⟩ := trod_entries hf hz
  simp [Value.cells] at e
  subst e
  exact ⟨X, h1, h2⟩
end Go.Proofs.Ytgpfmohaogppiaa
