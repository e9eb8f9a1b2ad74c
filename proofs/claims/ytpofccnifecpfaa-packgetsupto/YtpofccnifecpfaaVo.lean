/- A row of values that came in, opened; rows of values appended; conditions: the lengths fit. -/
import Derived.Test.YtpofccnifecpfaaVj
import Derived.Lib.SmallJoins
import Derived.ProofKit
import Derived.OpenShut
namespace Go.Proofs.Ytpofccnifecpfaa
open Go.ChangeShapes Go.WideShapes Go.RowKit Go.Joins
set_option linter.unusedVariables false
theorem trod_byteRow {H : Type} {enc : TypeId × Value → H} {w : World} {fuel : Nat} {v : Value} {y : DataW H × List MemPlace} (h : DataW.trod enc Try.prog w 0 (fun _ => true) true fuel 22 [v] = some y) : ∃ n x, ByRow w v n x := by
  rcases DataW.trod_slice Try.underlying22 h with ⟨hcs, _⟩ | ⟨a, len, cap, elems, rest, m, _, hcs, _, hb, hl, hm, hlen, hel, _, _⟩
  · simp at hcs; subst hcs
    exact ⟨0, fun _ => 0, .inl ⟨rfl, none, 0, rfl, fun _ => rfl⟩⟩
  · simp at hcs; subst hcs
    by_cases hz : len = 0
    · subst hz; exact ⟨0, fun _ => 0, .inl ⟨rfl, _, _, rfl, fun h => by cases h⟩⟩
    · have each : ∀ i, i < len → ∃ n : Int, w.cell? (a.add i) = some (.int .u8 n) ∧ 0 ≤ n ∧ n < 256 := by
        intro i hi
        have h1 := hel i hi
        have h2 : elems[i]? = some (elems[i]'(by omega)) := List.getElem?_eq_getElem (by omega)
        rw [h2, cellsByte, Nat.mul_one, Option.bind_eq_some_iff] at h1
        obtain ⟨cs', hcs, hy'⟩ := h1
        obtain ⟨n, rfl, _, hw⟩ := DataW.trod_int Try.underlying5 hy'
        exact ⟨n, cell_of_cells?_one hcs, by simp [Lit.wf, IntKind.min, IntKind.max, IntKind.bits, IntKind.signed] at hw; omega⟩
      obtain ⟨b, off, spot⟩ := a
      obtain ⟨n0, h0, _⟩ := each 0 (by omega)
      have hspot : spot = none := by simpa [Addr.add] using World.cell?_spot h0
      subst hspot
      refine ⟨len, fun i => match w.cell? ⟨b, off + i, none⟩ with | some (.int _ n) => n.toNat | _ => 0, .inr ⟨by omega, by omega, b, off, cap, rfl, fun i hi => ?_, hl, hm⟩⟩
      obtain ⟨n, hn, hw⟩ := each i hi
      rw [Go.WideShapes.add_plain] at hn
      simp only [hn]
      exact ⟨by omega, by rw [Int.toNat_of_nonneg hw.1]⟩
theorem trod_float {H : Type} {enc : TypeId × Value → H} {P : Program} {w : World} {base : Nat} {spare : Nat → Bool} {held : Bool} {fuel : Nat} {t : TypeId} {cs : List Value} {x : DataW H × List MemPlace} (ht : P.underlying t = some (.float .f64)) (h : DataW.trod enc P w base spare held fuel t cs = some x) : ∃ n, cs = [.float .f64 n] ∧ x = (.lit (.float .f64 n), []) ∧ (Lit.float .f64 n).wf = true := by
  cases fuel with
  | zero => simp [DataW.trod] at h
  | succ n =>
    unfold DataW.trod at h
    rw [ht] at h
    split at h <;> simp_all
theorem cellsVal : Try.prog.cellsOf 35 = 5 := by kernel_rfl
theorem cellsOne : Try.prog.cellsOf 3 = 1 ∧ Try.prog.cellsOf 2 = 1 ∧ Try.prog.cellsOf 33 = 1 ∧ Try.prog.cellsOf 22 = 1 ∧ Try.prog.cellsOf 4 = 1 := by refine ⟨?_, ?_, ?_, ?_, ?_⟩ <;> kernel_rfl
theorem trod_val {H : Type} {enc : TypeId × Value → H} {w : World} {fuel : Nat} {cs : List Value} {y : DataW H × List MemPlace} (h : DataW.trod enc Try.prog w 0 (fun _ => true) true fuel 35 cs = some y) :
    ∃ p : PV, cs = [.int .i64 p.k, .int .i64 p.n, .float .f64 p.x, p.b, .bool p.on] ∧ PV.In w p := by
  obtain ⟨xs, n, _, _, hl, hlen, hf⟩ := DataW.trod_struct Try.underlying35 h
  rw [cellsVal] at hl
  match cs, hl with
  | [c0, c1, c2, c3, c4], _ =>
    match xs, hlen with
    | [y0, y1, y2, y3, y4], _ =>
      have h0 := hf 0 _ rfl
      have h1 := hf 1 _ rfl
      have h2 := hf 2 _ rfl
      have h3 := hf 3 _ rfl
      have h4 := hf 4 _ rfl
      simp [cellsOne] at h0 h1 h2 h3 h4
      obtain ⟨a0, e0, _, q0⟩ := DataW.trod_int Try.underlying3 h0
      obtain ⟨a1, e1, _, q1⟩ := DataW.trod_int Try.underlying2 h1
      obtain ⟨a2, e2, _, q2⟩ := trod_float Try.underlying33 h2
      obtain ⟨bn, bx, q3⟩ := trod_byteRow h3
      obtain ⟨a4, e4, _⟩ := DataW.trod_bool Try.underlying4 h4
      simp at e0 e1 e2 e4
      subst e0 e1 e2 e4
      refine ⟨⟨a0, a1, a2, c3, bn, bx, a4⟩, rfl, ⟨?_, ?_, ?_, q3⟩⟩
      · simp [Lit.wf, IntKind.min, IntKind.max, IntKind.bits, IntKind.signed] at q0; simp; omega
      · simp [Lit.wf, IntKind.min, IntKind.max, IntKind.bits, IntKind.signed] at q1; simp; omega
      · simp [Lit.wf] at q2; exact q2
theorem cells?_each {w : World} {base : Nat} {a : Addr} {n : Nat} {cs : List Value} (h : w.cells? base a n = some cs) (i : Nat) (hi : i < n) : w.cell? (a.add i) = cs[i]? := by
  unfold World.cells? at h
  split at h
  · exact mapM_some_get h i i (by simp [hi])
  · cases h
theorem open_vals {H : Type} {enc : TypeId × Value → H} {w : World} {base : Nat} {v : Value} {d : DataW H} {ps : List MemPlace} (hv : Value.okWide Try.prog w .any base 25 v) (h : DataW.Trod enc Try.prog w 0 (fun _ => true) true 25 v d ps) :
    ∃ (m : Nat) (P : Nat → PV), VRow w v m P ∧ ((d = .nil ∧ m = 0) ∨ ∃ elems spare, d = .slice elems spare ∧ elems.length = m) := by
  obtain ⟨a0, len0, cap0, rfl⟩ := okWide_slice Try.underlying25 hv
  obtain ⟨fuel, hf⟩ := h
  rcases DataW.trod_slice Try.underlying25 hf with ⟨hcs, hd⟩ | ⟨a, len, cap, elems, rest, m, _, hcs, hd, hb, hl, hm, hlen, hel, _, _⟩
  · simp [Value.cells] at hcs
    obtain ⟨rfl, rfl, rfl⟩ := hcs
    simp at hd
    exact ⟨0, fun _ => ⟨0, 0, 0, .nilIface, 0, fun _ => 0, false⟩, .inl ⟨rfl, none, 0, rfl, fun _ => rfl⟩, .inl ⟨hd.1, rfl⟩⟩
  · simp [Value.cells] at hcs
    obtain ⟨ha, hln, hcp⟩ := hcs
    rw [ha, hln, hcp]
    clear ha hln hcp hf hv a0 len0 cap0
    simp only [Prod.mk.injEq] at hd
    have hdd : d = .slice (elems.map (·.1)) (rest.map (·.1)) := hd.1
    by_cases hz : len = 0
    · subst hz; exact ⟨0, fun _ => ⟨0, 0, 0, .nilIface, 0, fun _ => 0, false⟩, .inl ⟨rfl, _, _, rfl, fun h => by cases h⟩, .inr ⟨_, _, hdd, by simpa using hlen⟩⟩
    · have each : ∀ i, i < len → ∃ p : PV, (∀ j, j < 5 → w.cell? ((a.add (i * 5)).add j) = ([.int .i64 p.k, .int .i64 p.n, .float .f64 p.x, p.b, .bool p.on] : List Value)[j]?) ∧ PV.In w p := by
        intro i hi
        have h1 := hel i hi
        have h2 : elems[i]? = some (elems[i]'(by omega)) := List.getElem?_eq_getElem (by omega)
        rw [h2, cellsVal, Option.bind_eq_some_iff] at h1
        obtain ⟨cs', hcs, hy'⟩ := h1
        obtain ⟨p, rfl, hp⟩ := trod_val hy'
        exact ⟨p, fun j hj => cells?_each hcs j hj, hp⟩
      obtain ⟨b, off, spot⟩ := a
      obtain ⟨p0, h0, _⟩ := each 0 (by omega)
      have hspot : spot = none := by simpa [Addr.add] using World.cell?_spot (h0 0 (by omega))
      subst hspot
      have each2 : ∀ i, ∃ p : PV, i < len → PV.At w b (off + i * 5) p ∧ PV.In w p := by
        intro i
        by_cases hi : i < len
        · obtain ⟨p, q1, q2⟩ := each i hi
          simp only [Go.WideShapes.add_plain] at q1
          exact ⟨p, fun _ => ⟨⟨q1 0 (by omega), q1 1 (by omega), q1 2 (by omega), q1 3 (by omega), q1 4 (by omega)⟩, q2⟩⟩
        · exact ⟨p0, fun h => absurd h hi⟩
      exact ⟨len, fun i => Classical.choose (each2 i), .inr ⟨by omega, b, off, cap, rfl, fun i hi => Classical.choose_spec (each2 i) hi, hl, hm⟩, .inr ⟨_, _, hdd, by simpa using hlen⟩⟩
end Go.Proofs.Ytpofccnifecpfaa
