/- A row of bytes in memory, read as an argument; a world that has grown: nothing old has turned; no condition. -/
import Derived.Test.YtpofccnifecpfaaRows
import Derived.WalkKit
import Derived.WalkSpells
import Derived.WalkLawsBesides
import Derived.ProofKit
import Derived.OpenShut
import Derived.Laws.BitsAllLaws
import Derived.Deep.RegionWith
namespace Go.Proofs.Ytpofccnifecpfaa
open Go.ChangeShapes Go.WideShapes Go.RowKit
theorem ret_i {k : IntKind} {a b : Int} (h : a = b) : Ending.returned (.int k a) = .returned (.int k b) := by rw [h]
theorem ret_b {a b : Bool} (h : a = b) : Ending.returned (.bool a) = .returned (.bool b) := by rw [h]
theorem hid {p : Prop} (h : p) : Hid p := h
def intOf : Value → Int | .int _ q => q | _ => 0
/-- Nothing that was there has turned. -/
def Up (w w' : World) : Prop := Below w.heap.size w w'
theorem Up.refl (w : World) : Up w w := Below.refl _ _
theorem Up.trans {a b c : World} (h : Up a b) (k : Up b c) : Up a c := Below.trans h (Below.mono k h.size)
theorem Up.drew {a w : World} (h : Up a w) : Up a w.drew := Below.drew h
theorem Up.drewN {a w : World} (h : Up a w) (n : Nat) : Up a (w.drewN n) := below_drewN h n
theorem Up.alloc {a w : World} (h : Up a w) (o : Obj) : Up a (w.alloc o) := Below.alloc h h.size o
theorem Up.setCell {a w : World} (h : Up a w) {p : Addr} (hp : a.heap.size ≤ p.block) (u : Value) : Up a (w.setCell p u) := Below.setCell h hp u
theorem Up.keep {W w' : World} (h : Up W w') {p : Addr} {v : Value} (hc : W.cell? p = some v) : w'.cell? p = some v := by
  rw [Below.cell (p := p) h (World.block_lt_of_cell? W p hc)]; exact hc
theorem heap_new (w : World) (o : Obj) : (w.alloc o).heap[w.heap.size]? = some o := by
  show (w.heap.push o)[w.heap.size]? = _
  simp
theorem cell_new (w : World) (C : Array Value) (e : TypeId) (fr : Nat × Nat) (i : Nat) (v : Value) (h : C[i]? = some v) : (w.alloc (.cells C e fr)).cell? ⟨w.heap.size, i, none⟩ = some v := by
  simp only [World.cell?, heap_new]
  exact h
/-- A slice value of n bytes: an empty one, or one whose elements lie in memory. -/
def ByRow (w : World) (v : Value) (n : Nat) (x : Nat → Nat) : Prop :=
  (n = 0 ∧ ∃ a c, v = .slice a 0 c ∧ (a = none → c = 0)) ∨ (0 < n ∧ n ≤ maxLen ∧ ∃ b off cap, v = .slice (some ⟨b, off, none⟩) n cap ∧ (∀ i, i < n → x i < 256 ∧ w.cell? ⟨b, off + i, none⟩ = some (.int .u8 (x i : Int))) ∧ n ≤ cap ∧ cap ≤ maxLen)
theorem ByRow.up {w w' : World} {v : Value} {n : Nat} {x : Nat → Nat} (h : ByRow w v n x) (u : Up w w') : ByRow w' v n x := by
  rcases h with h | ⟨hn, hm, b, off, cap, hv, hc, hcp⟩
  · exact .inl h
  · exact .inr ⟨hn, hm, b, off, cap, hv, fun i hi => ⟨(hc i hi).1, u.keep (hc i hi).2⟩, hcp⟩
theorem cellsByte : Try.prog.cellsOf 5 = 1 := by kernel_rfl
theorem open_bytes {H : Type} {enc : TypeId × Value → H} {w : World} {base : Nat} {v : Value} {d : DataW H} {ps : List MemPlace} (hv : Value.okWide Try.prog w .any base 22 v) (h : DataW.Trod enc Try.prog w 0 (fun _ => true) true 22 v d ps) :
    ∃ (n : Nat) (x : Nat → Nat), ByRow w v n x := by
  obtain ⟨a0, len0, cap0, rfl⟩ := okWide_slice Try.underlying22 hv
  obtain ⟨fuel, hf⟩ := h
  rcases DataW.trod_slice Try.underlying22 hf with ⟨hcs, _⟩ | ⟨a, len, cap, elems, rest, m, _, hcs, _, hb, hl, hm, hlen, hel, _, _⟩
  · simp [Value.cells] at hcs
    obtain ⟨rfl, rfl, rfl⟩ := hcs
    exact ⟨0, fun _ => 0, .inl ⟨rfl, none, 0, rfl, fun _ => rfl⟩⟩
  · simp [Value.cells] at hcs
    obtain ⟨ha, hln, hcp⟩ := hcs
    rw [ha, hln, hcp]
    clear ha hln hcp hf hv a0 len0 cap0
    by_cases hz : len = 0
    · subst hz; exact ⟨0, fun _ => 0, .inl ⟨rfl, _, _, rfl, fun h => by cases h⟩⟩
    · have each : ∀ i, i < len → ∃ n : Int, w.cell? (a.add i) = some (.int .u8 n) ∧ 0 ≤ n ∧ n < 256 := by
        intro i hi
        have h1 := hel i hi
        have h2 : elems[i]? = some (elems[i]'(by omega)) := List.getElem?_eq_getElem (by omega)
        rw [h2, cellsByte, Nat.mul_one, Option.bind_eq_some_iff] at h1
        obtain ⟨cs', hcs, hy'⟩ := h1
        obtain ⟨n, rfl, _, hw⟩ := DataW.trod_int Try.underlying5 hy'
        exact ⟨n, cell_of_cells?_one hcs, by simp [Lit.wf, IntKind.min, IntKind.max, IntKind.bits, IntKind.signed] at hw; omega⟩
      obtain ⟨b, off, spot⟩ := a
      obtain ⟨n0, h0, _⟩ := each 0 (by omega)
      have hspot : spot = none := by simpa [Addr.add] using World.cell?_spot h0
      subst hspot
      refine ⟨len, fun i => match w.cell? ⟨b, off + i, none⟩ with | some (.int _ n) => n.toNat | _ => 0, .inr ⟨by omega, by omega, b, off, cap, rfl, fun i hi => ?_, hl, hm⟩⟩
      obtain ⟨n, hn, hw⟩ := each i hi
      rw [Go.WideShapes.add_plain] at hn
      simp only [hn]
      exact ⟨by omega, by rw [Int.toNat_of_nonneg hw.1]⟩
end Go.Proofs.Ytpofccnifecpfaa
