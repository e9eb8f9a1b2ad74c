/- Rows of Puts, as they lie in memory and as arguments; what was put is told, or has expired, plain; no condition. -/
import Derived.Test.YtefffjlcfghniaaZv
import Derived.SizedLaws
import Derived.ProofKit
import Derived.OpenShut
import Derived.Lib.SmallJoins
namespace Go.Proofs.Ytefffjlcfghniaa
open Go.ChangeShapes Go.WideShapes Go.ChangeAt Go.RowKit Go.Joins
set_option linter.unusedVariables false
set_option linter.unusedSimpArgs false
set_option maxRecDepth 20000
/-- A Put: a session, a number with its verdict. -/
structure Opv where
  s : Int
  x : It
def OpIn (w : World) (b o : Nat) (p : Opv) : Prop := w.cell? ⟨b, o, none⟩ = some (.int .i64 p.s) ∧ w.cell? ⟨b, o + 1, none⟩ = some (.int .i64 p.x.n) ∧ w.cell? ⟨b, o + 2, none⟩ = some (.int .i64 p.x.c) ∧ w.cell? ⟨b, o + 3, none⟩ = some (.int .i64 p.x.m)
theorem OpIn.old {w w' : World} {b o : Nat} {p : Opv} (h : OpIn w b o p) (u : Old w w') : OpIn w' b o p := ⟨u.keep h.1, u.keep h.2.1, u.keep h.2.2.1, u.keep h.2.2.2⟩
def OpN (p : Opv) : Prop := N64 p.s ∧ N64 p.x.n
def ORow (w : World) (v : Value) (n : Nat) (f : Nat → Opv) : Prop := n ≤ 9223372036854775807 ∧ ∃ a c, v = .slice a n c ∧ n ≤ c ∧ ∀ i, i < n → ∃ b off, a = some ⟨b, off, none⟩ ∧ OpN (f i) ∧ OpIn w b (off + i * 4) (f i)
theorem ORow.old {w w' : World} {v : Value} {n : Nat} {f : Nat → Opv} (h : ORow w v n f) (u : Old w w') : ORow w' v n f := by
  obtain ⟨h1, a, c, e, hnc, hc⟩ := h
  exact ⟨h1, a, c, e, hnc, fun i hi => by obtain ⟨b, off, e2, hw, ho⟩ := hc i hi; exact ⟨b, off, e2, hw, ho.old u⟩⟩
def OpRow (w : World) (v : Value) : Prop := ∃ n f, ORow w v n f
def OpOne (v : Value) : Prop := ∃ p : Opv, v = .agg #[.int .i64 p.s, .int .i64 p.x.n, .int .i64 p.x.c, .int .i64 p.x.m] ∧ OpN p
theorem wfN {a : Int} (h : (Lit.int .i64 a).wf = true) : N64 a := by
  have e1 : IntKind.i64.min = -9223372036854775808 := by decide
  have e2 : IntKind.i64.max = 9223372036854775807 := by decide
  simp [Lit.wf, e1, e2] at h
  exact h
theorem cellsI : Try.prog.cellsOf 2 = 1 ∧ Try.prog.cellsOf 28 = 2 ∧ Try.prog.cellsOf 26 = 1 := by refine ⟨?_, ?_, ?_⟩ <;> kernel_rfl
theorem cellsOp : Try.prog.cellsOf 30 = 4 := by kernel_rfl
theorem cellsEach {w : World} {base : Nat} {a : Addr} {n : Nat} {cs : List Value} (h : w.cells? base a n = some cs) (i : Nat) (hi : i < n) : w.cell? (a.add i) = cs[i]? := by
  unfold World.cells? at h
  split at h
  · exact mapM_some_get h i i (by simp [hi])
  · cases h
theorem trod_verd {H : Type} {enc : TypeId × Value → H} {w : World} {fuel : Nat} {cs : List Value} {y : DataW H × List MemPlace} (h : DataW.trod enc Try.prog w 0 (fun _ => true) true fuel 28 cs = some y) : ∃ c m : Int, cs = [.int .i64 c, .int .i64 m] := by
  obtain ⟨xs, n, _, _, hl, hlen, hf⟩ := DataW.trod_struct Try.underlying28 h
  rw [cellsI.2.1] at hl
  match cs, hl with
  | [c0, c1], _ =>
    match xs, hlen with
    | [y0, y1], _ =>
      have h0 := hf 0 _ rfl
      have h1 := hf 1 _ rfl
      simp [cellsI] at h0 h1
      obtain ⟨a0, e0, _, q0⟩ := DataW.trod_int Try.underlying26 h0
      obtain ⟨a1, e1, _, q1⟩ := DataW.trod_int Try.underlying2 h1
      simp at e0 e1
      subst e0 e1
      exact ⟨a0, a1, rfl⟩
theorem trod_op {H : Type} {enc : TypeId × Value → H} {w : World} {fuel : Nat} {cs : List Value} {y : DataW H × List MemPlace} (h : DataW.trod enc Try.prog w 0 (fun _ => true) true fuel 30 cs = some y) :
    ∃ p : Opv, cs = [.int .i64 p.s, .int .i64 p.x.n, .int .i64 p.x.c, .int .i64 p.x.m] ∧ OpN p := by
  obtain ⟨xs, n, _, _, hl, hlen, hf⟩ := DataW.trod_struct Try.underlying30 h
  rw [cellsOp] at hl
  match cs, hl with
  | [c0, c1, c2, c3], _ =>
    match xs, hlen with
    | [y0, y1, y2], _ =>
      have h0 := hf 0 _ rfl
      have h1 := hf 1 _ rfl
      have h2 := hf 2 _ rfl
      simp [cellsI] at h0 h1 h2
      obtain ⟨a0, e0, _, q0⟩ := DataW.trod_int Try.underlying2 h0
      obtain ⟨a1, e1, _, q1⟩ := DataW.trod_int Try.underlying2 h1
      obtain ⟨c, m, e2⟩ := trod_verd h2
      simp at e0 e1 e2
      obtain ⟨rfl, rfl⟩ := e2
      subst e0 e1
      exact ⟨⟨a0, a1, c, m⟩, rfl, wfN q0, wfN q1⟩
theorem trod_orow {H : Type} {enc : TypeId × Value → H} {w : World} {fuel : Nat} {v : Value} {y : DataW H × List MemPlace} (h : DataW.trod enc Try.prog w 0 (fun _ => true) true fuel 22 [v] = some y) : OpRow w v := by
  rcases DataW.trod_slice Try.underlying22 h with ⟨hcs, _⟩ | ⟨a, len, cap, elems, rest, m, _, hcs, _, hb, hl, hm, hlen, hel, _, _⟩
  · simp at hcs; subst hcs
    exact ⟨0, fun _ => ⟨0, 0, 0, 0⟩, by omega, none, 0, rfl, Nat.le_refl _, fun i hi => by omega⟩
  · simp at hcs; subst hcs
    have hml : len ≤ 9223372036854775807 := by unfold maxLen at hm; omega
    by_cases hz : len = 0
    · subst hz; exact ⟨_, fun _ => ⟨0, 0, 0, 0⟩, hml, _, _, rfl, by omega, fun i hi => by omega⟩
    · have each : ∀ i, i < len → ∃ p : Opv, (∀ j, j < 4 → w.cell? ((a.add (i * 4)).add j) = ([.int .i64 p.s, .int .i64 p.x.n, .int .i64 p.x.c, .int .i64 p.x.m] : List Value)[j]?) ∧ OpN p := by
        intro i hi
        have h1 := hel i hi
        have h2 : elems[i]? = some (elems[i]'(by omega)) := List.getElem?_eq_getElem (by omega)
        rw [h2, cellsOp, Option.bind_eq_some_iff] at h1
        obtain ⟨cs', hcs, hy'⟩ := h1
        obtain ⟨s, rfl, hs⟩ := trod_op hy'
        exact ⟨s, fun j hj => cellsEach hcs j hj, hs⟩
      obtain ⟨b, off, spot⟩ := a
      obtain ⟨s0, h0, _⟩ := each 0 (by omega)
      have hspot : spot = none := by simpa [Addr.add] using World.cell?_spot (h0 0 (by omega))
      subst hspot
      have each2 : ∀ i, ∃ p : Opv, i < len → OpN p ∧ OpIn w b (off + i * 4) p := by
        intro i
        by_cases hi : i < len
        · obtain ⟨s, q1, q2⟩ := each i hi
          simp only [Go.WideShapes.add_plain] at q1
          exact ⟨s, fun _ => ⟨q2, q1 0 (by omega), q1 1 (by omega), q1 2 (by omega), q1 3 (by omega)⟩⟩
        · exact ⟨s0, fun h => absurd h hi⟩
      exact ⟨len, fun i => Classical.choose (each2 i), hml, _, cap, rfl, by omega, fun i hi => ⟨b, off, rfl, (Classical.choose_spec (each2 i) hi).1, (Classical.choose_spec (each2 i) hi).2⟩⟩
theorem open_ops {H : Type} {enc : TypeId × Value → H} {w : World} {base : Nat} {v : Value} {d : DataW H} {ps : List MemPlace} (hv : Value.okWide Try.prog w .any base 22 v) (h : DataW.Trod enc Try.prog w 0 (fun _ => true) true 22 v d ps) (hz : ∀ x ∈ d.weights Try.prog 22, x ≤ reachBytes) : OpRow w v := by
  obtain ⟨a0, len0, cap0, rfl⟩ := okWide_slice Try.underlying22 hv
  obtain ⟨fuel, hf⟩ := h
  exact trod_orow hf
theorem open_op {H : Type} {enc : TypeId × Value → H} {w : World} {base : Nat} {v : Value} {d : DataW H} {ps : List MemPlace} (hv : Value.okWide Try.prog w .any base 30 v) (h : DataW.Trod enc Try.prog w 0 (fun _ => true) true 30 v d ps) (hz : ∀ x ∈ d.weights Try.prog 30, x ≤ reachBytes) : OpOne v := by
  obtain ⟨cs, rfl, hsz⟩ := okWide_struct Try.underlying30 hv
  obtain ⟨l⟩ := cs
  obtain ⟨fuel, hf0⟩ := h
  obtain ⟨p, e, hp⟩ := trod_op hf0
  exact ⟨p, by simp [Value.cells] at e; rw [e], hp⟩
/-- What was put first is kept, or has expired. -/
def Once (ks : List Int) (L : Int → List It) (s : Int) (x : It) : Prop := s ∈ ks ∧ (x ∈ L s ∨ x.n ≤ hiL (L s) - 8)
def goneB (L : Int → List It) (s : Int) (x : It) : Bool := decide (x.n ≤ hiL (L s) - 8)
theorem Once.first {s : Int} {x : It} (h : putC [] (fun _ => []) s x = 0) : Once (putK [] s) (putL (fun _ => []) s (nextS x [])) s x ∧ goneB (putL (fun _ => []) s (nextS x [])) s x = false ∧ (1 ≤ s ∧ s ≤ 1099511627776) ∧ 1 ≤ x.n ∧ x.n ≤ 1099511627776 := by
  have e1 : insS x [] = [x] := by simp [insS, posS]
  have e2 : hiL [x] = x.n := rfl
  have e : nextS x [] = [x] := by
    unfold nextS
    rw [e1, e2]
    unfold keepL
    rw [List.filter_cons, decide_eq_true (by omega)]
    rfl
  obtain ⟨_, b, c, _, _⟩ := lookC_zero (putC_zero h).1
  refine ⟨⟨by simp [putK], Or.inl ?_⟩, ?_, b, c⟩
  · unfold putL; rw [if_pos rfl, e]; exact List.mem_singleton.2 rfl
  · unfold goneB putL; rw [if_pos rfl, e, e2, decide_eq_false_iff_not]; omega
theorem Once.put {ks : List Int} {L : Int → List It} {s t : Int} {x y : It} (hk : TOk ks L) (h : Once ks L s x) (hc : putC ks L t y = 0) : Once (putK ks t) (putL L t (nextS y (L t))) s x ∧ (goneB L s x = true → goneB (putL L t (nextS y (L t))) s x = true) := by
  obtain ⟨h1, h2⟩ := h
  have hkm : s ∈ putK ks t := by unfold putK; split; exact h1; exact List.mem_append_left _ h1
  by_cases e : s = t
  · subst e
    obtain ⟨hfo, hsr, hqr, hkr, hwi⟩ := lookC_zero (putC_zero hc).1
    have hn := found_no (hk.rise s) hfo
    have hhi := next_hi (hk.rise s) hn
    have hge : hiL (L s) ≤ hiL (insS y (L s)) := by
      rcases ins_hi (hk.rise s) hn with q | q
      · exact q
      · exact absurd q (hk.some s h1)
    have eL : putL L s (nextS y (L s)) s = nextS y (L s) := by unfold putL; rw [if_pos rfl]
    refine ⟨⟨hkm, ?_⟩, fun g => ?_⟩
    · rw [eL, hhi]
      rcases h2 with q | q
      · by_cases c : hiL (insS y (L s)) - 8 < x.n
        · exact Or.inl (keep_mem.2 ⟨ins_mem.2 (Or.inr q), c⟩)
        · exact Or.inr (by omega)
      · exact Or.inr (by omega)
    · unfold goneB at g ⊢
      rw [decide_eq_true_eq] at g ⊢
      rw [eL, hhi]
      omega
  · have eL : putL L t (nextS y (L t)) s = L s := by unfold putL; rw [if_neg e]
    refine ⟨⟨hkm, by rw [eL]; exact h2⟩, fun g => ?_⟩
    unfold goneB at g ⊢
    rw [eL]
    exact g
theorem Once.look {ks : List Int} {L : Int → List It} {s : Int} {x : It} (hk : TOk ks L) (h : Once ks L s x) (hs : 1 ≤ s ∧ s ≤ 1099511627776) (hq : 1 ≤ x.n ∧ x.n ≤ 1099511627776) : (goneB L s x = false → lookC ks L s x.n = 5 ∧ lookV L s x.n = (x.c, x.m)) ∧ (goneB L s x = true → lookC ks L s x.n = 130) := by
  obtain ⟨h1, h2⟩ := h
  refine ⟨fun g => ?_, fun g => ?_⟩
  · unfold goneB at g
    rw [decide_eq_false_iff_not] at g
    have hm := h2.resolve_right g
    obtain ⟨a, b⟩ := found_yes (hk.rise s) hm rfl
    unfold lookC lookV
    rw [if_pos a, if_pos a, b]
    exact ⟨rfl, rfl⟩
  · unfold goneB at g
    rw [decide_eq_true_eq] at g
    have hn : foundB x.n (L s) = false := by
      cases e : foundB x.n (L s)
      · rfl
      · exfalso
        unfold foundB at e
        rw [Bool.and_eq_true, decide_eq_true_eq, decide_eq_true_eq] at e
        have := hk.win s (atI (L s) (posS x.n (L s))) (by rw [atI_get _ _ e.1]; exact List.getElem_mem e.1)
        omega
    have o1 : outB s 1 1099511627776 = false := by unfold outB; simp; omega
    have o2 : outB x.n 1 1099511627776 = false := by unfold outB; simp; omega
    unfold lookC
    rw [hn, o1, o2, decide_eq_true h1, if_pos g]
    simp
end Go.Proofs.Ytefffjlcfghniaa
