/- A row of calls, as it lies in memory and as an argument; no condition. -/
import Derived.Test.YtodoogcllahfgaaYi
import Derived.SizedLaws
import Derived.ProofKit
import Derived.OpenShut
import Derived.Lib.SmallJoins
namespace Go.Proofs.Ytodoogcllahfgaa
open Go.ChangeShapes Go.WideShapes Go.ChangeAt Go.RowKit Go.Joins
set_option linter.unusedVariables false
set_option maxRecDepth 20000
structure Opv where
  kd : Int
  a : Nat
  b : Nat
  p : Bool
  q : Bool
  n : Int
def OpIn (w : World) (g o : Nat) (x : Opv) : Prop := w.cell? ⟨g, o, none⟩ = some (.int .i64 x.kd) ∧ w.cell? ⟨g, o + 1, none⟩ = some (.float .f64 x.a) ∧ w.cell? ⟨g, o + 2, none⟩ = some (.float .f64 x.b) ∧ w.cell? ⟨g, o + 3, none⟩ = some (.bool x.p) ∧ w.cell? ⟨g, o + 4, none⟩ = some (.bool x.q) ∧ w.cell? ⟨g, o + 5, none⟩ = some (.int .i64 x.n)
theorem OpIn.old {w w' : World} {b o : Nat} {x : Opv} (h : OpIn w b o x) (u : Old w w') : OpIn w' b o x := ⟨u.keep h.1, u.keep h.2.1, u.keep h.2.2.1, u.keep h.2.2.2.1, u.keep h.2.2.2.2.1, u.keep h.2.2.2.2.2⟩
def ORow (w : World) (v : Value) (n : Nat) (f : Nat → Opv) : Prop := n ≤ 9223372036854775807 ∧ ∃ a c, v = .slice a n c ∧ n ≤ c ∧ ∀ i, i < n → ∃ b off, a = some ⟨b, off, none⟩ ∧ Fl.W (f i).a ∧ Fl.W (f i).b ∧ OpIn w b (off + i * 6) (f i)
theorem ORow.old {w w' : World} {v : Value} {n : Nat} {f : Nat → Opv} (h : ORow w v n f) (u : Old w w') : ORow w' v n f := by
  obtain ⟨h1, a, c, e, hnc, hc⟩ := h
  exact ⟨h1, a, c, e, hnc, fun i hi => by obtain ⟨b, off, e2, hw, hw2, ho⟩ := hc i hi; exact ⟨b, off, e2, hw, hw2, ho.old u⟩⟩
def OpRow (w : World) (v : Value) : Prop := ∃ n f, ORow w v n f
theorem wbF {a : Nat} (h : (Lit.float .f64 a).wf = true) : Fl.W a := by simp [Lit.wf] at h; exact h
theorem trodF {H : Type} {enc : TypeId × Value → H} {P : Program} {w : World} {base : Nat} {spare : Nat → Bool} {held : Bool} {fuel : Nat} {t : TypeId} {cs : List Value} {x : DataW H × List MemPlace} (ht : P.underlying t = some (.float .f64)) (h : DataW.trod enc P w base spare held fuel t cs = some x) : ∃ n, cs = [.float .f64 n] ∧ x = (.lit (.float .f64 n), []) ∧ (Lit.float .f64 n).wf = true := by
  cases fuel with
  | zero => simp [DataW.trod] at h
  | succ n =>
    unfold DataW.trod at h
    rw [ht] at h
    split at h <;> simp_all
theorem cellsF : Try.prog.cellsOf 23 = 1 ∧ Try.prog.cellsOf 3 = 1 ∧ Try.prog.cellsOf 2 = 1 := by refine ⟨?_, ?_, ?_⟩ <;> kernel_rfl
theorem cellsB : Try.prog.cellsOf 4 = 1 ∧ Try.prog.cellsOf 32 = 4 := by refine ⟨?_, ?_⟩ <;> kernel_rfl
theorem cellsOp : Try.prog.cellsOf 34 = 6 := by kernel_rfl
theorem cellsEach {w : World} {base : Nat} {a : Addr} {n : Nat} {cs : List Value} (h : w.cells? base a n = some cs) (i : Nat) (hi : i < n) : w.cell? (a.add i) = cs[i]? := by
  unfold World.cells? at h
  split at h
  · exact mapM_some_get h i i (by simp [hi])
  · cases h
theorem trod_sp {H : Type} {enc : TypeId × Value → H} {w : World} {fuel : Nat} {cs : List Value} {y : DataW H × List MemPlace} (h : DataW.trod enc Try.prog w 0 (fun _ => true) true fuel 32 cs = some y) :
    ∃ (a b : Nat) (p q : Bool), cs = [.float .f64 a, .float .f64 b, .bool p, .bool q] ∧ Fl.W a ∧ Fl.W b := by
  obtain ⟨xs, n, _, _, hl, hlen, hf⟩ := DataW.trod_struct Try.underlying32 h
  rw [cellsB.2] at hl
  match cs, hl with
  | [c0, c1, c2, c3], _ =>
    match xs, hlen with
    | [y0, y1, y2, y3], _ =>
      have h0 := hf 0 _ rfl
      have h1 := hf 1 _ rfl
      have h2 := hf 2 _ rfl
      have h3 := hf 3 _ rfl
      simp [cellsF, cellsB] at h0 h1 h2 h3
      obtain ⟨a0, e0, _, q0⟩ := trodF Try.underlying23 h0
      obtain ⟨a1, e1, _, q1⟩ := trodF Try.underlying23 h1
      obtain ⟨a2, e2, _⟩ := DataW.trod_bool Try.underlying4 h2
      obtain ⟨a3, e3, _⟩ := DataW.trod_bool Try.underlying4 h3
      simp at e0 e1 e2 e3
      subst e0 e1 e2 e3
      exact ⟨a0, a1, a2, a3, rfl, wbF q0, wbF q1⟩
theorem trod_op {H : Type} {enc : TypeId × Value → H} {w : World} {fuel : Nat} {cs : List Value} {y : DataW H × List MemPlace} (h : DataW.trod enc Try.prog w 0 (fun _ => true) true fuel 34 cs = some y) :
    ∃ s : Opv, cs = [.int .i64 s.kd, .float .f64 s.a, .float .f64 s.b, .bool s.p, .bool s.q, .int .i64 s.n] ∧ Fl.W s.a ∧ Fl.W s.b := by
  obtain ⟨xs, n, _, _, hl, hlen, hf⟩ := DataW.trod_struct Try.underlying34 h
  rw [cellsOp] at hl
  match cs, hl with
  | [c0, c1, c2, c3, c4, c5], _ =>
    match xs, hlen with
    | [y0, y1, y2], _ =>
      have h0 := hf 0 _ rfl
      have h1 := hf 1 _ rfl
      have h2 := hf 2 _ rfl
      simp [cellsF, cellsB] at h0 h1 h2
      obtain ⟨a0, e0, _, q0⟩ := DataW.trod_int Try.underlying3 h0
      obtain ⟨a1, b1, p1, q1, e1, wa, wb'⟩ := trod_sp h1
      obtain ⟨a2, e2, _, q2⟩ := DataW.trod_int Try.underlying2 h2
      simp at e0 e1 e2
      obtain ⟨e10, e11, e12, e13⟩ := e1
      subst e0 e10 e11 e12 e13 e2
      exact ⟨⟨a0, a1, b1, p1, q1, a2⟩, rfl, wa, wb'⟩
theorem trod_orow {H : Type} {enc : TypeId × Value → H} {w : World} {fuel : Nat} {v : Value} {y : DataW H × List MemPlace} (h : DataW.trod enc Try.prog w 0 (fun _ => true) true fuel 22 [v] = some y) : ∃ n f, ORow w v n f := by
  rcases DataW.trod_slice Try.underlying22 h with ⟨hcs, _⟩ | ⟨a, len, cap, elems, rest, m, _, hcs, _, hb, hl, hm, hlen, hel, _, _⟩
  · simp at hcs; subst hcs
    exact ⟨0, fun _ => ⟨0, 0, 0, false, false, 0⟩, by omega, none, 0, rfl, Nat.le_refl _, fun i hi => by omega⟩
  · simp at hcs; subst hcs
    have hml : len ≤ 9223372036854775807 := by unfold maxLen at hm; omega
    by_cases hz : len = 0
    · subst hz; exact ⟨_, fun _ => ⟨0, 0, 0, false, false, 0⟩, hml, _, _, rfl, by omega, fun i hi => by omega⟩
    · have each : ∀ i, i < len → ∃ s : Opv, (∀ j, j < 6 → w.cell? ((a.add (i * 6)).add j) = ([.int .i64 s.kd, .float .f64 s.a, .float .f64 s.b, .bool s.p, .bool s.q, .int .i64 s.n] : List Value)[j]?) ∧ Fl.W s.a ∧ Fl.W s.b := by
        intro i hi
        have h1 := hel i hi
        have h2 : elems[i]? = some (elems[i]'(by omega)) := List.getElem?_eq_getElem (by omega)
        rw [h2, cellsOp, Option.bind_eq_some_iff] at h1
        obtain ⟨cs', hcs, hy'⟩ := h1
        obtain ⟨s, rfl, hs⟩ := trod_op hy'
        exact ⟨s, fun j hj => cellsEach hcs j hj, hs⟩
      obtain ⟨b, off, spot⟩ := a
      obtain ⟨s0, h0, _⟩ := each 0 (by omega)
      have hspot : spot = none := by simpa [Addr.add] using World.cell?_spot (h0 0 (by omega))
      subst hspot
      have each2 : ∀ i, ∃ s : Opv, i < len → (Fl.W s.a ∧ Fl.W s.b) ∧ OpIn w b (off + i * 6) s := by
        intro i
        by_cases hi : i < len
        · obtain ⟨s, q1, q2⟩ := each i hi
          simp only [Go.WideShapes.add_plain] at q1
          exact ⟨s, fun _ => ⟨q2, q1 0 (by omega), q1 1 (by omega), q1 2 (by omega), q1 3 (by omega), q1 4 (by omega), q1 5 (by omega)⟩⟩
        · exact ⟨s0, fun h => absurd h hi⟩
      exact ⟨len, fun i => Classical.choose (each2 i), hml, _, cap, rfl, by omega, fun i hi => ⟨b, off, rfl, (Classical.choose_spec (each2 i) hi).1.1, (Classical.choose_spec (each2 i) hi).1.2, (Classical.choose_spec (each2 i) hi).2⟩⟩
theorem open_ops {H : Type} {enc : TypeId × Value → H} {w : World} {base : Nat} {v : Value} {d : DataW H} {ps : List MemPlace} (hv : Value.okWide Try.prog w .any base 22 v) (h : DataW.Trod enc Try.prog w 0 (fun _ => true) true 22 v d ps) (hz : ∀ x ∈ d.weights Try.prog 22, x ≤ reachBytes) : OpRow w v := by
  obtain ⟨a0, len0, cap0, rfl⟩ := okWide_slice Try.underlying22 hv
  obtain ⟨fuel, hf⟩ := h
  exact trod_orow hf
end Go.Proofs.Ytodoogcllahfgaa
