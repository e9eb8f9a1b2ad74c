/- The arguments of layer 19's laws: rows of bytes, rows of calls; no condition. -/
import Derived.Test.YtejeihbcakojeaaNa
import Derived.SizedLaws
import Derived.ProofKit
import Derived.OpenShut
import Derived.Lib.SmallJoins
namespace Go.Proofs.Ytejeihbcakojeaa
open Go.ChangeShapes Go.WideShapes Go.ChangeAt Go.RowKit Go.Joins Go.Lib
set_option linter.unusedVariables false
set_option linter.unusedSimpArgs false
set_option maxRecDepth 20000
theorem ByRow.rw {w : World} {v : Value} {n : Nat} {x : Nat → Nat} (h : Pk.ByRow w v n x) : ∃ L : List Nat, L.length = n ∧ Rw w v L := by
  refine ⟨(List.range n).map x, by simp, ?_⟩
  unfold Rw
  have e : ((List.range n).map x).length = n := by simp
  rw [e]
  rcases h with h | ⟨h0, hm, b, off, cap, hv, hc, hcp⟩
  · exact .inl h
  · refine .inr ⟨h0, hm, b, off, cap, hv, fun i hi => ?_, hcp⟩
    have q : gd ((List.range n).map x) i = x i := by simp [gd, hi]
    rw [q]
    exact hc i hi
theorem wfN {a : Int} (h : (Lit.int .i64 a).wf = true) : -9223372036854775808 ≤ a ∧ a ≤ 9223372036854775807 := by
  have e1 : IntKind.i64.min = -9223372036854775808 := by decide
  have e2 : IntKind.i64.max = 9223372036854775807 := by decide
  simp [Lit.wf, e1, e2] at h
  exact h
theorem trod_bytes {H : Type} {enc : TypeId × Value → H} {w : World} {fuel : Nat} {cs : List Value} {y : DataW H × List MemPlace} (h : DataW.trod enc Try.prog w 0 (fun _ => true) true fuel 26 cs = some y) : ∃ v L, cs = [v] ∧ Rw w v L := by
  suffices hs : ∃ v n x, cs = [v] ∧ Pk.ByRow w v n x by
    obtain ⟨v, n, x, e, hb⟩ := hs
    obtain ⟨L, _, hr⟩ := ByRow.rw hb
    exact ⟨v, L, e, hr⟩
  rcases DataW.trod_slice Try.underlying26 h with ⟨rfl, _⟩ | ⟨a, len, cap, elems, rest, m, _, rfl, _, hb, hl, hm, hlen, hel, _, _⟩
  · exact ⟨_, 0, fun _ => 0, rfl, .inl ⟨rfl, none, 0, rfl, fun _ => rfl⟩⟩
  · by_cases hz : len = 0
    · subst hz; exact ⟨_, 0, fun _ => 0, rfl, .inl ⟨rfl, _, _, rfl, fun h => by cases h⟩⟩
    · have each : ∀ i, i < len → ∃ n : Int, w.cell? (a.add i) = some (.int .u8 n) ∧ 0 ≤ n ∧ n < 256 := by
        intro i hi
        have h1 := hel i hi
        have h2 : elems[i]? = some (elems[i]'(by omega)) := List.getElem?_eq_getElem (by omega)
        rw [h2, Pk.cellsByte, Nat.mul_one, Option.bind_eq_some_iff] at h1
        obtain ⟨cs', hcs, hy'⟩ := h1
        obtain ⟨n, rfl, _, hw⟩ := DataW.trod_int Try.underlying5 hy'
        exact ⟨n, cell_of_cells?_one hcs, by simp [Lit.wf, IntKind.min, IntKind.max, IntKind.bits, IntKind.signed] at hw; omega⟩
      obtain ⟨b, off, spot⟩ := a
      obtain ⟨n0, h0, _⟩ := each 0 (by omega)
      have hspot : spot = none := by simpa [Addr.add] using World.cell?_spot h0
      subst hspot
      refine ⟨_, len, fun i => match w.cell? ⟨b, off + i, none⟩ with | some (.int _ n) => n.toNat | _ => 0, rfl, .inr ⟨by omega, by omega, b, off, cap, rfl, fun i hi => ?_, hl, hm⟩⟩
      obtain ⟨n, hn, hw⟩ := each i hi
      rw [Go.WideShapes.add_plain] at hn
      simp only [hn]
      exact ⟨by omega, by rw [Int.toNat_of_nonneg hw.1]⟩
theorem bytesU8 : Try.prog.bytesOf 5 = 1 := by kernel_rfl
theorem weightsAll_of {H : Type} {P : Program} {e : TypeId} : ∀ {l : List (DataW H)} {d : DataW H}, d ∈ l → ∀ n ∈ d.weights P e, n ∈ DataW.weightsAll P e l
  | x :: r, d, h, n, hn => by
    unfold DataW.weightsAll
    rcases List.mem_cons.1 h with e | e
    · subst e; exact List.mem_append_left _ hn
    · exact List.mem_append_right _ (weightsAll_of e n hn)
theorem trod_bytesN {H : Type} {enc : TypeId × Value → H} {w : World} {fuel : Nat} {cs : List Value} {y : DataW H × List MemPlace} (h : DataW.trod enc Try.prog w 0 (fun _ => true) true fuel 26 cs = some y) (hz : ∀ k ∈ y.1.weights Try.prog 26, k ≤ reachBytes) : ∃ v L, cs = [v] ∧ Rw w v L ∧ L.length ≤ 140737488355328 := by
  obtain ⟨v, L, rfl, hr⟩ := trod_bytes h
  refine ⟨v, L, rfl, hr, ?_⟩
  obtain ⟨a, c, e⟩ := hr.len
  subst e
  have hfit := row_fits Try.underlying26 bytesU8 (len_row Try.underlying26 h) hz
  simp only [reachBytes] at hfit
  omega
/-- A row of rows of bytes. -/
def BsRow (w : World) (v : Value) (n : Nat) (f : Nat → Value × List Nat) : Prop := n ≤ 9223372036854775807 ∧ ∃ a c, v = .slice a n c ∧ n ≤ c ∧ ∀ i, i < n → ∃ b off, a = some ⟨b, off, none⟩ ∧ Rw w (f i).1 (f i).2 ∧ (f i).2.length ≤ 140737488355328 ∧ w.cell? ⟨b, off + i, none⟩ = some (f i).1
theorem cellsBs : Try.prog.cellsOf 26 = 1 := by kernel_rfl
theorem open_bss {H : Type} {enc : TypeId × Value → H} {w : World} {base : Nat} {v : Value} {d : DataW H} {ps : List MemPlace} (hv : Value.okWide Try.prog w .any base 22 v) (h : DataW.Trod enc Try.prog w 0 (fun _ => true) true 22 v d ps) (hz : ∀ x ∈ d.weights Try.prog 22, x ≤ reachBytes) : ∃ n f, BsRow w v n f := by
  obtain ⟨a0, len0, cap0, rfl⟩ := okWide_slice Try.underlying22 hv
  obtain ⟨fuel, hf⟩ := h
  rcases DataW.trod_slice Try.underlying22 hf with ⟨hcs, _⟩ | ⟨a, len, cap, elems, rest, m, _, hcs, hd, hb, hl, hm, hlen, hel, _, _⟩
  · simp [Value.cells] at hcs
    obtain ⟨rfl, rfl, rfl⟩ := hcs
    exact ⟨0, fun _ => (.slice none 0 0, []), by omega, none, 0, rfl, Nat.le_refl _, fun i hi => by omega⟩
  · simp [Value.cells] at hcs
    obtain ⟨ha, hln, hcp⟩ := hcs
    rw [ha, hln, hcp]
    clear ha hln hcp hf hv a0 len0 cap0
    have hml : len ≤ 9223372036854775807 := by unfold maxLen at hm; omega
    have hdd : d = .slice (elems.map (·.1)) (rest.map (·.1)) := congrArg Prod.fst hd
    by_cases hz0 : len = 0
    · subst hz0; exact ⟨_, fun _ => (.slice none 0 0, []), hml, _, _, rfl, by omega, fun i hi => by omega⟩
    · have each : ∀ i, i < len → ∃ p : Value × List Nat, w.cell? (a.add i) = some p.1 ∧ Rw w p.1 p.2 ∧ p.2.length ≤ 140737488355328 := by
        intro i hi
        have h1 := hel i hi
        have h2 : elems[i]? = some (elems[i]'(by omega)) := List.getElem?_eq_getElem (by omega)
        rw [h2, cellsBs, Nat.mul_one, Option.bind_eq_some_iff] at h1
        obtain ⟨cs', hcs, hy'⟩ := h1
        obtain ⟨u, L, rfl, hr, hL⟩ := trod_bytesN hy' (fun k hk => hz k (by
          rw [hdd]
          simp only [DataW.weights, Try.underlying22]
          exact List.mem_cons_of_mem _ (List.mem_append_left _ (weightsAll_of (List.mem_map_of_mem (List.getElem_mem _)) k hk))))
        exact ⟨(u, L), cell_of_cells?_one hcs, hr, hL⟩
      obtain ⟨b, off, spot⟩ := a
      obtain ⟨p0, h0, _⟩ := each 0 (by omega)
      have hspot : spot = none := by simpa [Addr.add] using World.cell?_spot h0
      subst hspot
      have each2 : ∀ i, ∃ p : Value × List Nat, i < len → Rw w p.1 p.2 ∧ p.2.length ≤ 140737488355328 ∧ w.cell? ⟨b, off + i, none⟩ = some p.1 := by
        intro i
        by_cases hi : i < len
        · obtain ⟨p, q1, q2, q3⟩ := each i hi
          rw [Go.WideShapes.add_plain] at q1
          exact ⟨p, fun _ => ⟨q2, q3, q1⟩⟩
        · exact ⟨p0, fun h => absurd h hi⟩
      exact ⟨len, fun i => Classical.choose (each2 i), hml, _, cap, rfl, hl, fun i hi => ⟨b, off, rfl, Classical.choose_spec (each2 i) hi⟩⟩
/-- A call of law 19. -/
structure Opn where
  k : Int
  i : Int
  m : Int
  f : Int
  t : Int
  v : Value
  L : List Nat
def Opn.cs (p : Opn) : List Value := [.int .i64 p.k, .int .i64 p.i, .int .i64 p.m, .int .i64 p.f, .int .i64 p.t, p.v]
def Opn.Ok (w : World) (p : Opn) : Prop := Rw w p.v p.L ∧ p.L.length ≤ 140737488355328
theorem cellsI : Try.prog.cellsOf 3 = 1 ∧ Try.prog.cellsOf 30 = 3 ∧ Try.prog.cellsOf 26 = 1 := by refine ⟨?_, ?_, ?_⟩ <;> kernel_rfl
theorem cellsOpn : Try.prog.cellsOf 40 = 6 := by kernel_rfl
theorem trod_letter {H : Type} {enc : TypeId × Value → H} {w : World} {fuel : Nat} {cs : List Value} {y : DataW H × List MemPlace} (h : DataW.trod enc Try.prog w 0 (fun _ => true) true fuel 30 cs = some y) (hz : ∀ k ∈ y.1.weights Try.prog 30, k ≤ reachBytes) : ∃ f t v L, cs = [.int .i64 f, .int .i64 t, v] ∧ Rw w v L ∧ L.length ≤ 140737488355328 := by
  obtain ⟨xs, n, _, hd, hl, hlen, hf⟩ := DataW.trod_struct Try.underlying30 h
  rw [cellsI.2.1] at hl
  match cs, hl with
  | [c0, c1, c2], _ =>
    match xs, hlen, hd with
    | [y0, y1, y2], _, hd =>
      have h0 := hf 0 _ rfl
      have h1 := hf 1 _ rfl
      have h2 := hf 2 _ rfl
      simp [cellsI] at h0 h1 h2
      obtain ⟨a0, e0, _⟩ := DataW.trod_int Try.underlying3 h0
      obtain ⟨a1, e1, _⟩ := DataW.trod_int Try.underlying3 h1
      have hdd : y.1 = .agg [y0.1, y1.1, y2.1] := congrArg Prod.fst hd
      obtain ⟨v2, L, e2, r2, l2⟩ := trod_bytesN h2 (fun k hk => hz k (by
        rw [hdd]
        simp only [DataW.weights, Try.underlying30]
        exact DataW.weights_mem_each (j := 2) (t := 26) (d := y2.1) rfl rfl k hk))
      simp at e0 e1 e2
      subst e0 e1 e2
      exact ⟨a0, a1, _, L, rfl, r2, l2⟩
theorem trod_opn {H : Type} {enc : TypeId × Value → H} {w : World} {fuel : Nat} {cs : List Value} {y : DataW H × List MemPlace} (h : DataW.trod enc Try.prog w 0 (fun _ => true) true fuel 40 cs = some y) (hz : ∀ k ∈ y.1.weights Try.prog 40, k ≤ reachBytes) : ∃ p : Opn, cs = p.cs ∧ p.Ok w := by
  obtain ⟨xs, n, _, hd, hl, hlen, hf⟩ := DataW.trod_struct Try.underlying40 h
  rw [cellsOpn] at hl
  match cs, hl with
  | [c0, c1, c2, c3, c4, c5], _ =>
    match xs, hlen, hd with
    | [y0, y1, y2, y3], _, hd =>
      have h0 := hf 0 _ rfl
      have h1 := hf 1 _ rfl
      have h2 := hf 2 _ rfl
      have h3 := hf 3 _ rfl
      simp [cellsI] at h0 h1 h2 h3
      obtain ⟨a0, e0, _⟩ := DataW.trod_int Try.underlying3 h0
      obtain ⟨a1, e1, _⟩ := DataW.trod_int Try.underlying3 h1
      obtain ⟨a2, e2, _⟩ := DataW.trod_int Try.underlying3 h2
      have hdd : y.1 = .agg [y0.1, y1.1, y2.1, y3.1] := congrArg Prod.fst hd
      obtain ⟨f, t, v, L, e3, r3, l3⟩ := trod_letter h3 (fun k hk => hz k (by
        rw [hdd]
        simp only [DataW.weights, Try.underlying40]
        exact DataW.weights_mem_each (j := 3) (t := 30) (d := y3.1) rfl rfl k hk))
      simp at e0 e1 e2 e3
      obtain ⟨e3, e4, e5⟩ := e3
      subst e0 e1 e2 e3 e4 e5
      exact ⟨⟨a0, a1, a2, f, t, _, L⟩, rfl, r3, l3⟩
def ONRow (w : World) (v : Value) (n : Nat) (f : Nat → Opn) : Prop := n ≤ 2199023255552 ∧ ∃ a c, v = .slice a n c ∧ n ≤ c ∧ ∀ i, i < n → ∃ b off, a = some ⟨b, off, none⟩ ∧ (f i).Ok w ∧ ∀ j, j < 6 → w.cell? ⟨b, off + i * 6 + j, none⟩ = (f i).cs[j]?
def OpRow (w : World) (v : Value) : Prop := ∃ n f, ONRow w v n f
theorem bytesOpn : Try.prog.bytesOf 40 = 64 := by kernel_rfl
theorem open_ops {H : Type} {enc : TypeId × Value → H} {w : World} {base : Nat} {v : Value} {d : DataW H} {ps : List MemPlace} (hv : Value.okWide Try.prog w .any base 37 v) (h : DataW.Trod enc Try.prog w 0 (fun _ => true) true 37 v d ps) (hz : ∀ x ∈ d.weights Try.prog 37, x ≤ reachBytes) : OpRow w v := by
  have p0 : Opn := ⟨0, 0, 0, 0, 0, .slice none 0 0, []⟩
  obtain ⟨a0, len0, cap0, rfl⟩ := okWide_slice Try.underlying37 hv
  obtain ⟨fuel, hf⟩ := h
  have hfit := row_fits Try.underlying37 bytesOpn (len_row Try.underlying37 hf) hz
  simp only [reachBytes] at hfit
  rcases DataW.trod_slice Try.underlying37 hf with ⟨hcs, _⟩ | ⟨a, len, cap, elems, rest, m, _, hcs, hd, hb, hl, hm, hlen, hel, _, _⟩
  · simp [Value.cells] at hcs
    obtain ⟨rfl, rfl, rfl⟩ := hcs
    exact ⟨0, fun _ => p0, by omega, none, 0, rfl, Nat.le_refl _, fun i hi => by omega⟩
  · simp [Value.cells] at hcs
    obtain ⟨ha, hln, hcp⟩ := hcs
    rw [hln] at hfit
    rw [ha, hln, hcp]
    clear ha hln hcp hf hv a0 len0 cap0
    have hdd : d = .slice (elems.map (·.1)) (rest.map (·.1)) := congrArg Prod.fst hd
    by_cases hz0 : len = 0
    · subst hz0; exact ⟨_, fun _ => p0, by omega, _, _, rfl, by omega, fun i hi => by omega⟩
    · have each : ∀ i, i < len → ∃ p : Opn, (∀ j, j < 6 → w.cell? ((a.add (i * 6)).add j) = p.cs[j]?) ∧ p.Ok w := by
        intro i hi
        have h1 := hel i hi
        have h2 : elems[i]? = some (elems[i]'(by omega)) := List.getElem?_eq_getElem (by omega)
        rw [h2, cellsOpn, Option.bind_eq_some_iff] at h1
        obtain ⟨cs', hcs, hy'⟩ := h1
        obtain ⟨s, rfl, hs⟩ := trod_opn hy' (fun k hk => hz k (by
          rw [hdd]
          simp only [DataW.weights, Try.underlying37]
          exact List.mem_cons_of_mem _ (List.mem_append_left _ (weightsAll_of (List.mem_map_of_mem (List.getElem_mem _)) k hk))))
        exact ⟨s, fun j hj => cellsEach hcs j hj, hs⟩
      obtain ⟨b, off, spot⟩ := a
      obtain ⟨s0, h0, _⟩ := each 0 (by omega)
      have hspot : spot = none := by simpa [Addr.add] using World.cell?_spot (h0 0 (by omega))
      subst hspot
      have each2 : ∀ i, ∃ p : Opn, i < len → p.Ok w ∧ ∀ j, j < 6 → w.cell? ⟨b, off + i * 6 + j, none⟩ = p.cs[j]? := by
        intro i
        by_cases hi : i < len
        · obtain ⟨s, q1, q2⟩ := each i hi
          simp only [Go.WideShapes.add_plain] at q1
          exact ⟨s, fun _ => ⟨q2, q1⟩⟩
        · exact ⟨s0, fun h => absurd h hi⟩
      exact ⟨len, fun i => Classical.choose (each2 i), by omega, _, cap, rfl, hl, fun i hi => ⟨b, off, rfl, Classical.choose_spec (each2 i) hi⟩⟩
end Go.Proofs.Ytejeihbcakojeaa
