/- Worlds that differ at some blocks alone; no condition. -/
import Derived.Test.YtgeinnaljlajoaaGreatCxC
import Derived.Laws.NewBlocks
import Derived.Test.YtgeinnaljlajoaaGreatCxA
import Derived.Laws.AppendOwn
import Derived.Laws.AppendOwnNone
import Derived.Laws.CopyRow
import Derived.OneCell
import Derived.ArgAppend
import Derived.OwnWalk
import Derived.Deep.QuietTactic
import Derived.BigQuiet
import Derived.Deep.Draws
import Derived.Deep.RegionHeld3
namespace Go.Proofs.YtgeinnaljlajoaaGreat
set_option linter.unusedSimpArgs false
open Go.RowKit
set_option linter.unusedVariables false
theorem heap_lt {w : World} {g : Nat} {o : Obj} (h : w.heap[g]? = some o) : g < w.heap.size := by
 obtain ⟨hg, _⟩ := Array.getElem?_eq_some_iff.1 h; exact hg
theorem Old.block {W w' : World} (h : Old W w') {g : Nat} {o : Obj} (hc : W.heap[g]? = some o) : w'.heap[g]? = some o := by
 rw [Below.block h g (heap_lt hc)]; exact hc
structure Chg (S : List Nat) (w w' : World) : Prop where
 os : w'.os = w.os
 tape : w'.tape = w.tape
 output : w'.output = w.output
 size : w.heap.size ≤ w'.heap.size
 block : ∀ k, k < w.heap.size → k ∉ S → w'.heap[k]? = w.heap[k]?
theorem Chg.refl (S : List Nat) (w : World) : Chg S w w := ⟨rfl, rfl, rfl, Nat.le_refl _, fun _ _ _ => rfl⟩
theorem Chg.trans {S : List Nat} {a b c : World} (h : Chg S a b) (k : Chg S b c) : Chg S a c :=
 ⟨k.os.trans h.os, k.tape.trans h.tape, k.output.trans h.output, Nat.le_trans h.size k.size, fun i hi hn => (k.block i (Nat.lt_of_lt_of_le hi h.size) hn).trans (h.block i hi hn)⟩
theorem Chg.mono {S T : List Nat} {a b : World} (h : Chg S a b) (hs : ∀ k, k ∈ S → k < a.heap.size → k ∈ T) : Chg T a b := ⟨h.os, h.tape, h.output, h.size, fun i hi hn => h.block i hi (fun e => hn (hs i e hi))⟩
theorem Chg.set {S : List Nat} (w : World) (p : Addr) (v : Value) (hs : p.block ∈ S) : Chg S w (w.setCell p v) :=
 ⟨rfl, rfl, rfl, by simp, fun i hi hn => Below.heap_setCell w p v i (fun e => hn (by rw [e]; exact hs))⟩
theorem Chg.ofOld {S : List Nat} {a b : World} (h : Old a b) : Chg S a b := ⟨h.os, h.tape, h.output, h.size, fun k hk _ => Below.block h k hk⟩
theorem Chg.below {S : List Nat} {a b : World} (h : Chg S a b) (B : Nat) (hB : ∀ k, k ∈ S → B ≤ k) (hs : B ≤ a.heap.size) : Below B a b :=
 ⟨h.os, h.tape, h.output, h.size, fun k hk => h.block k (Nat.lt_of_lt_of_le hk hs) (fun e => by have := hB k e; omega)⟩
theorem Chg.cell {S : List Nat} {w w' : World} (c : Chg S w w') {p : Addr} {v : Value} (h : w.cell? p = some v) (hn : p.block ∉ S) : w'.cell? p = some v := by
 rw [World.cell?_of_block (w := w) (c.block p.block (World.block_lt_of_cell? w p h) hn)]; exact h
theorem Chg.heapAt {S : List Nat} {w w' : World} (c : Chg S w w') {g : Nat} {o : Obj} (h : w.heap[g]? = some o) (hn : g ∉ S) : w'.heap[g]? = some o := by
 rw [c.block g (heap_lt h) hn]; exact h
theorem setRow_other (w : World) (g k : Nat) (cs : Array Value) (h : k ≠ g) : (w.setRow g cs).heap[k]? = w.heap[k]? := by
 simp only [World.setRow, Array.getElem?_modify]
 rw [if_neg (fun e => h e.symm)]
theorem Chg.setRow (w : World) (g : Nat) (cs : Array Value) (S : List Nat) (h : g ∈ S) : Chg S w (w.setRow g cs) := ⟨rfl, rfl, rfl, by simp [World.setRow], fun k hk hn => setRow_other w g k cs (fun e => hn (by rw [e]; exact h))⟩
theorem Chg.alloc {S : List Nat} {a w : World} (h : Chg S a w) (o : Obj) : Chg S a (w.alloc o) := h.trans (Chg.ofOld ((Old.refl w).alloc o))
theorem Chg.drew {S : List Nat} {a w : World} (h : Chg S a w) : Chg S a w.drew := ⟨h.os, h.tape, h.output, h.size, h.block⟩
theorem Chg.old {S : List Nat} {a b c : World} (h : Chg S a b) (u : Old b c) : Chg S a c := h.trans (Chg.ofOld u)
theorem Chg.setK (w : World) (g o : Nat) (vs : List Value) (S : List Nat) (h : g ∈ S) : Chg S w (w.setCells g o vs) := by
 induction vs generalizing w o with
 | nil => exact Chg.refl _ _
 | cons v r ih => exact (Chg.set w ⟨g, o, none⟩ v h).trans (ih _ _)
theorem Chg.keepF {S : List Nat} {w w' : World} (c : Chg S w w') {p : Addr} {v : Value} (h : w.cell? p = some v) (hf : w.frozen? p = false) (hn : p.block ∉ S) : w'.frozen? p = false := by
 rw [World.frozen?_of_block (w := w) (c.block p.block (World.block_lt_of_cell? w p h) hn)]; exact hf
end Go.Proofs.YtgeinnaljlajoaaGreat
namespace Go.Proofs.YtgeinnaljlajoaaGreat.Vx
set_option linter.unusedSimpArgs false
open Go.RowKit
set_option linter.unusedVariables false
attribute [local go_sem] run_bits run_frombits run_store_float
theorem half (a b : Nat) : ((a : Int) + (b : Int)) / 2 = (((a + b) / 2 : Nat) : Int) := by omega
set_option maxHeartbeats 1000000 in
set_option maxRecDepth 20000 in
theorem find_v (n : Nat) (c : Nat → Int) (p : Nat) (r : Bool) (cp1 cp2 : Value) (w : World) (hn : n ≤ 4611686018427387903) (hp : p ≤ n) (h1 : ∀ i, i < p → 0 < c i) (h2 : ∀ i, p ≤ i → i < n → c i ≤ 0)
    (hr : r = (decide (p < n) && decide (c p = 0)))
    (hf : ∀ i, i < n → ∀ W, Old w W → Calls Tryz.prog 129 #[.int .i64 (i : Nat), cp1, cp2] W fun e w' => e = .returned (.int .i64 (c i)) ∧ Old W w') :
    Calls Tryz.prog 128 #[.int .i64 (n : Nat), .func (.func 129) #[] #[cp1, cp2]] w fun e w' => e = .returned (.tuple #[.int .i64 (p : Nat), .bool r]) ∧ Old w w' := by
 have HF := hid hf
 have H1 := hid h1
 have H2 := hid h2
 have HR := hid hr
 have HP := hid hp
 clear hf h1 h2 hr hp
 go_enter Tryz.func128, Tryz.ntmps128
 go_wp2
 go_loopw [4, 6] (fun i j wr => ∃ a b : Nat, i = .int .i64 (a : Nat) ∧ j = .int .i64 (b : Nat) ∧ a ≤ p ∧ p ≤ b ∧ b ≤ n ∧ Old w wr) (fun i j _ => (intOf j).toNat - (intOf i).toNat)
 case atStart => exact ⟨0, n, rfl, rfl, Nat.zero_le _, HP.out, Nat.le_refl _, Old.refl _⟩
 case round =>
  obtain ⟨a, b, rfl, rfl, ha, hb, hbn, hu⟩ := hrel
  have HU := hid hu
  have HA := hid ha
  have HB := hid hb
  clear hu ha hb
  by_cases hlt : a < b
  ·obtain ⟨h, hh, q1, q2⟩ : ∃ h : Nat, ((a : Int) + (b : Int)) / 2 = ((h : Nat) : Int) ∧ a ≤ h ∧ h < b := ⟨(a + b) / 2, by omega, by omega, by omega⟩
   have l1 : (a : Int) < (b : Int) := by omega
   have HQ1 := hid q1
   have HQ2 := hid q2
   have hb3 : h < 4611686018427387903 := by omega
   have HK := hid (HF.out h (by omega))
   clear q1 q2
   by_cases hc : 0 < c h
   ·have HN := hid (show h < p from Classical.byContradiction fun e => by have := H2.out h (by omega) (by have := HQ2.out; omega); omega)
    go_wp2_with (go_at_call 129; refine (HK.out _ HU.out).mono ?_; rintro e w5 ⟨rfl, u5⟩; have U5 := hid u5; clear u5)
    go_roundw
    case rel => exact ⟨h + 1, b, by go_num, rfl, HN.out, HB.out, hbn, HU.out.trans U5.out⟩
    case measure => simp [intOf]; have := HQ1.out; have := HQ2.out; omega
   ·have HN := hid (show p ≤ h from Classical.byContradiction fun e => hc (H1.out h (by omega)))
    go_wp2_with (go_at_call 129; refine (HK.out _ HU.out).mono ?_; rintro e w5 ⟨rfl, u5⟩; have U5 := hid u5; clear u5)
    go_roundw
    case rel => exact ⟨a, h, rfl, rfl, HA.out, HN.out, by have := HQ2.out; omega, HU.out.trans U5.out⟩
    case measure => simp [intOf]; have := HQ1.out; have := HQ2.out; omega
  ·obtain rfl : a = b := by have := HA.out; have := HB.out; omega
   obtain rfl : p = a := by have := HA.out; have := HB.out; omega
   clear HA HB
   by_cases hpn : p < n
   ·have l3 : (p : Int) < (n : Int) := by omega
    have HK := hid (HF.out p hpn)
    have HRR := hid (show r = (c p == 0) by rw [HR.out]; simp [hpn]; rfl)
    go_wp2_with (go_at_call 129; refine (HK.out _ HU.out).mono ?_; rintro e w5 ⟨rfl, u5⟩; have U5 := hid u5; clear u5)
    exact bodyPost_ret (v := .tuple #[.int .i64 (p : Nat), .bool (c p == 0)]) (by simp [results, Tryz.results128, go_sem]) rfl ⟨by rw [HRR.out], HU.out.trans U5.out⟩
   ·have l3 : (n : Int) ≤ (p : Int) := by omega
    have HRR := hid (show r = false by rw [HR.out]; simp [hpn])
    go_wp2
    exact bodyPost_ret (v := .tuple #[.int .i64 (p : Nat), .bool false]) (by simp [results, Tryz.results128, go_sem]) rfl ⟨by rw [HRR.out], HU.out⟩
end Go.Proofs.YtgeinnaljlajoaaGreat.Vx
namespace Go.Proofs.YtgeinnaljlajoaaGreat.Py
set_option linter.unusedSimpArgs false
open Go.RowKit
set_option linter.unusedVariables false
attribute [local go_sem] run_bits run_frombits run_store_float
theorem half (a b : Nat) : ((a : Int) + (b : Int)) / 2 = (((a + b) / 2 : Nat) : Int) := by omega
set_option maxHeartbeats 1000000 in
set_option maxRecDepth 20000 in
theorem find_v (n : Nat) (c : Nat → Int) (p : Nat) (r : Bool) (cp1 cp2 : Value) (w : World) (hn : n ≤ 4611686018427387903) (hp : p ≤ n) (h1 : ∀ i, i < p → 0 < c i) (h2 : ∀ i, p ≤ i → i < n → c i ≤ 0)
    (hr : r = (decide (p < n) && decide (c p = 0)))
    (hf : ∀ i, i < n → ∀ W, Old w W → Calls Tryz.prog 134 #[.int .i64 (i : Nat), cp1, cp2] W fun e w' => e = .returned (.int .i64 (c i)) ∧ Old W w') :
    Calls Tryz.prog 128 #[.int .i64 (n : Nat), .func (.func 134) #[] #[cp1, cp2]] w fun e w' => e = .returned (.tuple #[.int .i64 (p : Nat), .bool r]) ∧ Old w w' := by
 have HF := hid hf
 have H1 := hid h1
 have H2 := hid h2
 have HR := hid hr
 have HP := hid hp
 clear hf h1 h2 hr hp
 go_enter Tryz.func128, Tryz.ntmps128
 go_wp2
 go_loopw [4, 6] (fun i j wr => ∃ a b : Nat, i = .int .i64 (a : Nat) ∧ j = .int .i64 (b : Nat) ∧ a ≤ p ∧ p ≤ b ∧ b ≤ n ∧ Old w wr) (fun i j _ => (intOf j).toNat - (intOf i).toNat)
 case atStart => exact ⟨0, n, rfl, rfl, Nat.zero_le _, HP.out, Nat.le_refl _, Old.refl _⟩
 case round =>
  obtain ⟨a, b, rfl, rfl, ha, hb, hbn, hu⟩ := hrel
  have HU := hid hu
  have HA := hid ha
  have HB := hid hb
  clear hu ha hb
  by_cases hlt : a < b
  ·obtain ⟨h, hh, q1, q2⟩ : ∃ h : Nat, ((a : Int) + (b : Int)) / 2 = ((h : Nat) : Int) ∧ a ≤ h ∧ h < b := ⟨(a + b) / 2, by omega, by omega, by omega⟩
   have l1 : (a : Int) < (b : Int) := by omega
   have HQ1 := hid q1
   have HQ2 := hid q2
   have hb3 : h < 4611686018427387903 := by omega
   have HK := hid (HF.out h (by omega))
   clear q1 q2
   by_cases hc : 0 < c h
   ·have HN := hid (show h < p from Classical.byContradiction fun e => by have := H2.out h (by omega) (by have := HQ2.out; omega); omega)
    go_wp2_with (go_at_call 134; refine (HK.out _ HU.out).mono ?_; rintro e w5 ⟨rfl, u5⟩; have U5 := hid u5; clear u5)
    go_roundw
    case rel => exact ⟨h + 1, b, by go_num, rfl, HN.out, HB.out, hbn, HU.out.trans U5.out⟩
    case measure => simp [intOf]; have := HQ1.out; have := HQ2.out; omega
   ·have HN := hid (show p ≤ h from Classical.byContradiction fun e => hc (H1.out h (by omega)))
    go_wp2_with (go_at_call 134; refine (HK.out _ HU.out).mono ?_; rintro e w5 ⟨rfl, u5⟩; have U5 := hid u5; clear u5)
    go_roundw
    case rel => exact ⟨a, h, rfl, rfl, HA.out, HN.out, by have := HQ2.out; omega, HU.out.trans U5.out⟩
    case measure => simp [intOf]; have := HQ1.out; have := HQ2.out; omega
  ·obtain rfl : a = b := by have := HA.out; have := HB.out; omega
   obtain rfl : p = a := by have := HA.out; have := HB.out; omega
   clear HA HB
   by_cases hpn : p < n
   ·have l3 : (p : Int) < (n : Int) := by omega
    have HK := hid (HF.out p hpn)
    have HRR := hid (show r = (c p == 0) by rw [HR.out]; simp [hpn]; rfl)
    go_wp2_with (go_at_call 134; refine (HK.out _ HU.out).mono ?_; rintro e w5 ⟨rfl, u5⟩; have U5 := hid u5; clear u5)
    exact bodyPost_ret (v := .tuple #[.int .i64 (p : Nat), .bool (c p == 0)]) (by simp [results, Tryz.results128, go_sem]) rfl ⟨by rw [HRR.out], HU.out.trans U5.out⟩
   ·have l3 : (n : Int) ≤ (p : Int) := by omega
    have HRR := hid (show r = false by rw [HR.out]; simp [hpn])
    go_wp2
    exact bodyPost_ret (v := .tuple #[.int .i64 (p : Nat), .bool false]) (by simp [results, Tryz.results128, go_sem]) rfl ⟨by rw [HRR.out], HU.out⟩
end Go.Proofs.YtgeinnaljlajoaaGreat.Py
