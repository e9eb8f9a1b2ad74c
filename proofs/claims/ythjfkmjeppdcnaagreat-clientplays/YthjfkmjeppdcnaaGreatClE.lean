/- Worlds that differ at some blocks alone; no condition. -/
import Derived.Test.YthjfkmjeppdcnaaGreatClB
import Derived.Laws.NewBlocks
namespace Go.Proofs.YthjfkmjeppdcnaaGreat
set_option linter.unusedSimpArgs false
open Go.RowKit
set_option linter.unusedVariables false
theorem heap_lt {w : World} {g : Nat} {o : Obj} (h : w.heap[g]? = some o) : g < w.heap.size := by
 obtain ⟨hg, _⟩ := Array.getElem?_eq_some_iff.1 h; exact hg
theorem Old.block {W w' : World} (h : Old W w') {g : Nat} {o : Obj} (hc : W.heap[g]? = some o) : w'.heap[g]? = some o := by
 rw [Below.block h g (heap_lt hc)]; exact hc
structure Chg (S : List Nat) (w w' : World) : Prop where
 os : w'.os = w.os
 tape : w'.tape = w.tape
 output : w'.output = w.output
 size : w.heap.size ≤ w'.heap.size
 block : ∀ k, k < w.heap.size → k ∉ S → w'.heap[k]? = w.heap[k]?
theorem Chg.refl (S : List Nat) (w : World) : Chg S w w := ⟨rfl, rfl, rfl, Nat.le_refl _, fun _ _ _ => rfl⟩
theorem Chg.trans {S : List Nat} {a b c : World} (h : Chg S a b) (k : Chg S b c) : Chg S a c :=
 ⟨k.os.trans h.os, k.tape.trans h.tape, k.output.trans h.output, Nat.le_trans h.size k.size, fun i hi hn => (k.block i (Nat.lt_of_lt_of_le hi h.size) hn).trans (h.block i hi hn)⟩
theorem Chg.mono {S T : List Nat} {a b : World} (h : Chg S a b) (hs : ∀ k, k ∈ S → k < a.heap.size → k ∈ T) : Chg T a b := ⟨h.os, h.tape, h.output, h.size, fun i hi hn => h.block i hi (fun e => hn (hs i e hi))⟩
theorem Chg.set {S : List Nat} (w : World) (p : Addr) (v : Value) (hs : p.block ∈ S) : Chg S w (w.setCell p v) :=
 ⟨rfl, rfl, rfl, by simp, fun i hi hn => Below.heap_setCell w p v i (fun e => hn (by rw [e]; exact hs))⟩
theorem Chg.ofOld {S : List Nat} {a b : World} (h : Old a b) : Chg S a b := ⟨h.os, h.tape, h.output, h.size, fun k hk _ => Below.block h k hk⟩
theorem Chg.below {S : List Nat} {a b : World} (h : Chg S a b) (B : Nat) (hB : ∀ k, k ∈ S → B ≤ k) (hs : B ≤ a.heap.size) : Below B a b :=
 ⟨h.os, h.tape, h.output, h.size, fun k hk => h.block k (Nat.lt_of_lt_of_le hk hs) (fun e => by have := hB k e; omega)⟩
theorem Chg.cell {S : List Nat} {w w' : World} (c : Chg S w w') {p : Addr} {v : Value} (h : w.cell? p = some v) (hn : p.block ∉ S) : w'.cell? p = some v := by
 rw [World.cell?_of_block (w := w) (c.block p.block (World.block_lt_of_cell? w p h) hn)]; exact h
theorem Chg.heapAt {S : List Nat} {w w' : World} (c : Chg S w w') {g : Nat} {o : Obj} (h : w.heap[g]? = some o) (hn : g ∉ S) : w'.heap[g]? = some o := by
 rw [c.block g (heap_lt h) hn]; exact h
theorem setRow_other (w : World) (g k : Nat) (cs : Array Value) (h : k ≠ g) : (w.setRow g cs).heap[k]? = w.heap[k]? := by
 simp only [World.setRow, Array.getElem?_modify]
 rw [if_neg (fun e => h e.symm)]
theorem Chg.setRow (w : World) (g : Nat) (cs : Array Value) (S : List Nat) (h : g ∈ S) : Chg S w (w.setRow g cs) := ⟨rfl, rfl, rfl, by simp [World.setRow], fun k hk hn => setRow_other w g k cs (fun e => hn (by rw [e]; exact h))⟩
theorem Chg.alloc {S : List Nat} {a w : World} (h : Chg S a w) (o : Obj) : Chg S a (w.alloc o) := h.trans (Chg.ofOld ((Old.refl w).alloc o))
theorem Chg.drew {S : List Nat} {a w : World} (h : Chg S a w) : Chg S a w.drew := ⟨h.os, h.tape, h.output, h.size, h.block⟩
theorem Chg.old {S : List Nat} {a b c : World} (h : Chg S a b) (u : Old b c) : Chg S a c := h.trans (Chg.ofOld u)
theorem Chg.setK (w : World) (g o : Nat) (vs : List Value) (S : List Nat) (h : g ∈ S) : Chg S w (w.setCells g o vs) := by
 induction vs generalizing w o with
 | nil => exact Chg.refl _ _
 | cons v r ih => exact (Chg.set w ⟨g, o, none⟩ v h).trans (ih _ _)
theorem Chg.keepF {S : List Nat} {w w' : World} (c : Chg S w w') {p : Addr} {v : Value} (h : w.cell? p = some v) (hf : w.frozen? p = false) (hn : p.block ∉ S) : w'.frozen? p = false := by
 rw [World.frozen?_of_block (w := w) (c.block p.block (World.block_lt_of_cell? w p h) hn)]; exact hf
end Go.Proofs.YthjfkmjeppdcnaaGreat
