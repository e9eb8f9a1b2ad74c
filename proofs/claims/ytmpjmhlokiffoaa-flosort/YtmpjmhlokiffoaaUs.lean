/- A row of float64 in memory, read as an argument; a world that has grown: nothing old has turned; no condition. -/
import Derived.Test.YtmpjmhlokiffoaaCp
import Derived.ProofKit
import Derived.OpenShut
import Derived.Laws.StructEq
import Derived.Laws.Tables
import Derived.Deep.RegionHeld3
namespace Go.Proofs.Ytmpjmhlokiffoaa
open Go.ChangeShapes Go.WideShapes Go.RowKit
/-- A slice value of n numbers: an empty one, or one whose elements lie in memory. -/
def FlRow (w : World) (v : Value) (n : Nat) (x : Nat → Nat) : Prop :=
  (n = 0 ∧ ∃ a c, v = .slice a 0 c) ∨ (0 < n ∧ n ≤ maxLen ∧ ∃ b off cap, v = .slice (some ⟨b, off, none⟩) n cap ∧ ∀ i, i < n → Fl.W (x i) ∧ w.cell? ⟨b, off + i, none⟩ = some (.float .f64 (x i)))
theorem trodFloat {H : Type} {enc : TypeId × Value → H} {P : Program} {w : World} {base : Nat} {spare : Nat → Bool} {held : Bool} {fuel : Nat} {t : TypeId} {cs : List Value} {x : DataW H × List MemPlace} (ht : P.underlying t = some (.float .f64)) (h : DataW.trod enc P w base spare held fuel t cs = some x) : ∃ n, cs = [.float .f64 n] ∧ x = (.lit (.float .f64 n), []) ∧ (Lit.float .f64 n).wf = true := by
  cases fuel with
  | zero => simp [DataW.trod] at h
  | succ n =>
    unfold DataW.trod at h
    rw [ht] at h
    split at h <;> simp_all
theorem cellsFloat : Try.prog.cellsOf 24 = 1 := by kernel_rfl
theorem open_floats {H : Type} {enc : TypeId × Value → H} {w : World} {base : Nat} {v : Value} {d : DataW H} {ps : List MemPlace} (hv : Value.okWide Try.prog w .any base 22 v) (h : DataW.Trod enc Try.prog w 0 (fun _ => true) true 22 v d ps) :
    ∃ (n : Nat) (x : Nat → Nat), FlRow w v n x := by
  obtain ⟨a0, len0, cap0, rfl⟩ := okWide_slice Try.underlying22 hv
  obtain ⟨fuel, hf⟩ := h
  rcases DataW.trod_slice Try.underlying22 hf with ⟨hcs, _⟩ | ⟨a, len, cap, elems, rest, m, _, hcs, _, hb, hl, hm, hlen, hel, _, _⟩
  · simp [Value.cells] at hcs
    obtain ⟨rfl, rfl, rfl⟩ := hcs
    exact ⟨0, fun _ => 0, .inl ⟨rfl, none, 0, rfl⟩⟩
  · simp [Value.cells] at hcs
    obtain ⟨ha, hln, hcp⟩ := hcs
    rw [ha, hln, hcp]
    clear ha hln hcp hf hv a0 len0 cap0
    by_cases hz : len = 0
    · subst hz; exact ⟨0, fun _ => 0, .inl ⟨rfl, _, _, rfl⟩⟩
    · have each : ∀ i, i < len → ∃ n, w.cell? (a.add i) = some (.float .f64 n) ∧ Fl.W n := by
        intro i hi
        have h1 := hel i hi
        have h2 : elems[i]? = some (elems[i]'(by omega)) := List.getElem?_eq_getElem (by omega)
        rw [h2, cellsFloat, Nat.mul_one, Option.bind_eq_some_iff] at h1
        obtain ⟨cs', hcs, hy'⟩ := h1
        obtain ⟨n, rfl, _, hw⟩ := trodFloat Try.underlying24 hy'
        exact ⟨n, cell_of_cells?_one hcs, by simp [Lit.wf] at hw; exact hw⟩
      obtain ⟨b, off, spot⟩ := a
      obtain ⟨n0, h0, _⟩ := each 0 (by omega)
      have hspot : spot = none := by simpa [Addr.add] using World.cell?_spot h0
      subst hspot
      refine ⟨len, fun i => match w.cell? ⟨b, off + i, none⟩ with | some (.float _ n) => n | _ => 0, .inr ⟨by omega, by omega, b, off, cap, rfl, fun i hi => ?_⟩⟩
      obtain ⟨n, hn, hw⟩ := each i hi
      rw [Go.WideShapes.add_plain] at hn
      simp only [hn]
      exact ⟨hw, trivial⟩
/-- Nothing that was there has turned. -/
def Up (w w' : World) : Prop := Below w.heap.size w w'
theorem Up.refl (w : World) : Up w w := Below.refl _ _
theorem Up.trans {a b c : World} (h : Up a b) (k : Up b c) : Up a c := Below.trans h (Below.mono k h.size)
theorem Up.drew {a w : World} (h : Up a w) : Up a w.drew := Below.drew h
theorem Up.drewN {a w : World} (h : Up a w) (n : Nat) : Up a (w.drewN n) := below_drewN h n
theorem Up.alloc {a w : World} (h : Up a w) (o : Obj) : Up a (w.alloc o) := Below.alloc h h.size o
theorem Up.setCell {a w : World} (h : Up a w) {p : Addr} (hp : a.heap.size ≤ p.block) (u : Value) : Up a (w.setCell p u) := Below.setCell h hp u
theorem Up.keep {W w' : World} (h : Up W w') {p : Addr} {v : Value} (hc : W.cell? p = some v) : w'.cell? p = some v := by
  rw [Below.cell (p := p) h (World.block_lt_of_cell? W p hc)]; exact hc
theorem heap_new (w : World) (o : Obj) : (w.alloc o).heap[w.heap.size]? = some o := by
  show (w.heap.push o)[w.heap.size]? = _
  simp
theorem cell_new (w : World) (C : Array Value) (e : TypeId) (fr : Nat × Nat) (i : Nat) (v : Value) (h : C[i]? = some v) : (w.alloc (.cells C e fr)).cell? ⟨w.heap.size, i, none⟩ = some v := by
  simp only [World.cell?, heap_new]
  exact h
theorem run_store_float {P : Program} (w : World) (a : Addr) (m : Mode) (k : FloatKind) (b : Nat) : (store a (.float k b) m).run P w = stored P w a (.float k b) m := run_store P w a _ m rfl
theorem run_equalIn_float {P : Program} (w : World) (d : Nat) (t : TypeId) (a b : Nat) (h : P.underlying t = some (.float .f64)) : (Op.equalIn (d + 1) t (.float .f64 a) (.float .f64 b)).run P w = .ok (FloatKind.f64.format.order a b == some .eq) w := by
  simp [Op.equalIn, run_underlying h, Op.floatEq]
theorem eqF (w : World) (d a b : Nat) : (Op.equalIn (d + 1) 24 (.float .f64 a) (.float .f64 b)).run Try.prog w = .ok (FloatKind.f64.format.order a b == some .eq) w := run_equalIn_float w d _ a b Try.underlying24
end Go.Proofs.Ytmpjmhlokiffoaa
