/- Nothing old has turned, or only some blocks; no condition. -/
import Derived.Test.YtejeihbcakojeaaRows
import Derived.WalkKit
import Derived.WalkSpells
import Derived.WalkLawsBesides
import Derived.ProofKit
import Derived.OpenShut
import Derived.Laws.BitsAllLaws
import Derived.Deep.RegionWith
import Derived.Laws.AppendOwn
import Derived.Laws.AppendOwnNone
import Derived.Laws.CopyRow
import Derived.OneCell
import Derived.ArgAppend
import Derived.OwnWalk
import Derived.Deep.QuietTactic
import Derived.BigQuiet
import Derived.Deep.Draws
import Derived.Deep.RegionHeld3
namespace Go.Proofs.Ytejeihbcakojeaa
open Go.RowKit
set_option linter.unusedVariables false
theorem ret_i {k : IntKind} {a b : Int} (h : a = b) : Ending.returned (.int k a) = .returned (.int k b) := by rw [h]
theorem ret_b {a b : Bool} (h : a = b) : Ending.returned (.bool a) = .returned (.bool b) := by rw [h]
theorem hid {p : Prop} (h : p) : Hid p := h
theorem run_store_float {P : Program} (w : World) (a : Addr) (m : Mode) (k : FloatKind) (b : Nat) : (store a (.float k b) m).run P w = stored P w a (.float k b) m := run_store P w a _ m rfl
def intOf : Value → Int | .int _ q => q | _ => 0
/-- Nothing that was there has turned. -/
def Old (w w' : World) : Prop := Below w.heap.size w w'
theorem Old.refl (w : World) : Old w w := Below.refl _ _
theorem Old.trans {a b c : World} (h : Old a b) (k : Old b c) : Old a c := Below.trans h (Below.mono k h.size)
theorem Old.drew {a w : World} (h : Old a w) : Old a w.drew := Below.drew h
theorem Old.drewN {a w : World} (h : Old a w) (n : Nat) : Old a (w.drewN n) := below_drewN h n
theorem Old.alloc {a w : World} (h : Old a w) (o : Obj) : Old a (w.alloc o) := Below.alloc h h.size o
theorem Old.setCell {a w : World} (h : Old a w) {p : Addr} (hp : a.heap.size ≤ p.block) (u : Value) : Old a (w.setCell p u) := Below.setCell h hp u
theorem Old.below {a w w' : World} (h : Old a w) (k : Below a.heap.size w w') : Old a w' := Below.trans h k
theorem Old.keep {W w' : World} (h : Old W w') {p : Addr} {v : Value} (hc : W.cell? p = some v) : w'.cell? p = some v := by
  rw [Below.cell (p := p) h (World.block_lt_of_cell? W p hc)]; exact hc
theorem Old.keepF {W w' : World} (h : Old W w') {p : Addr} {v : Value} (hc : W.cell? p = some v) (hf : W.frozen? p = false) : w'.frozen? p = false := by
  rw [Below.frozen (p := p) h (World.block_lt_of_cell? W p hc)]; exact hf
theorem heap_lt {w : World} {g : Nat} {o : Obj} (h : w.heap[g]? = some o) : g < w.heap.size := by
  obtain ⟨hg, _⟩ := Array.getElem?_eq_some_iff.1 h; exact hg
theorem Old.block {W w' : World} (h : Old W w') {g : Nat} {o : Obj} (hc : W.heap[g]? = some o) : w'.heap[g]? = some o := by
  rw [Below.block h g (heap_lt hc)]; exact hc
/-- Old memory is as it was, but for the blocks of S. -/
structure Chg (S : List Nat) (w w' : World) : Prop where
  os : w'.os = w.os
  tape : w'.tape = w.tape
  output : w'.output = w.output
  size : w.heap.size ≤ w'.heap.size
  block : ∀ k, k < w.heap.size → k ∉ S → w'.heap[k]? = w.heap[k]?
theorem Chg.refl (S : List Nat) (w : World) : Chg S w w := ⟨rfl, rfl, rfl, Nat.le_refl _, fun _ _ _ => rfl⟩
theorem Chg.trans {S : List Nat} {a b c : World} (h : Chg S a b) (k : Chg S b c) : Chg S a c :=
  ⟨k.os.trans h.os, k.tape.trans h.tape, k.output.trans h.output, Nat.le_trans h.size k.size, fun i hi hn => (k.block i (Nat.lt_of_lt_of_le hi h.size) hn).trans (h.block i hi hn)⟩
theorem Chg.mono {S T : List Nat} {a b : World} (h : Chg S a b) (hs : ∀ k, k ∈ S → k < a.heap.size → k ∈ T) : Chg T a b := ⟨h.os, h.tape, h.output, h.size, fun i hi hn => h.block i hi (fun e => hn (hs i e hi))⟩
theorem Chg.set {S : List Nat} (w : World) (p : Addr) (v : Value) (hs : p.block ∈ S) : Chg S w (w.setCell p v) :=
  ⟨rfl, rfl, rfl, by simp, fun i hi hn => Below.heap_setCell w p v i (fun e => hn (by rw [e]; exact hs))⟩
theorem Chg.ofOld {S : List Nat} {a b : World} (h : Old a b) : Chg S a b := ⟨h.os, h.tape, h.output, h.size, fun k hk _ => Below.block h k hk⟩
theorem Chg.below {S : List Nat} {a b : World} (h : Chg S a b) (B : Nat) (hB : ∀ k, k ∈ S → B ≤ k) (hs : B ≤ a.heap.size) : Below B a b :=
  ⟨h.os, h.tape, h.output, h.size, fun k hk => h.block k (Nat.lt_of_lt_of_le hk hs) (fun e => by have := hB k e; omega)⟩
theorem Chg.cell {S : List Nat} {w w' : World} (c : Chg S w w') {p : Addr} {v : Value} (h : w.cell? p = some v) (hn : p.block ∉ S) : w'.cell? p = some v := by
  rw [World.cell?_of_block (w := w) (c.block p.block (World.block_lt_of_cell? w p h) hn)]; exact h
theorem Chg.heapAt {S : List Nat} {w w' : World} (c : Chg S w w') {g : Nat} {o : Obj} (h : w.heap[g]? = some o) (hn : g ∉ S) : w'.heap[g]? = some o := by
  rw [c.block g (heap_lt h) hn]; exact h
theorem half (a b : Nat) : ((a : Int) + (b : Int)) / 2 = (((a + b) / 2 : Nat) : Int) := by omega
end Go.Proofs.Ytejeihbcakojeaa
