/- A row of float64 in memory, read as an argument; a world that has grown: nothing old has turned; no condition. -/
import Derived.Test.YtbkbnfgjkefcmaaGreatNs
import Derived.ProofKit
import Derived.OpenShut
import Derived.Laws.StructEq
import Derived.Laws.Tables
import Derived.Deep.RegionHeld3
namespace Go.Proofs.YtbkbnfgjkefcmaaGreat
open Go.ChangeShapes Go.WideShapes Go.RowKit
theorem heap_new (w : World) (o : Obj) : (w.alloc o).heap[w.heap.size]? = some o := by
  show (w.heap.push o)[w.heap.size]? = _
  simp
theorem cell_new (w : World) (C : Array Value) (e : TypeId) (fr : Nat × Nat) (i : Nat) (v : Value) (h : C[i]? = some v) : (w.alloc (.cells C e fr)).cell? ⟨w.heap.size, i, none⟩ = some v := by
  simp only [World.cell?, heap_new]
  exact h
end Go.Proofs.YtbkbnfgjkefcmaaGreat
