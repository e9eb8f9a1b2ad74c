/- The law ClientAll's rows, plainly; a block of ints; conditions: it lies in memory. -/
import Derived.Test.YthjfkmjeppdcnaaGreatKl17
import Derived.Laws.MakeOwn
namespace Go.Proofs.YthjfkmjeppdcnaaGreat
open Go.RowKit Go.Lib
set_option linter.unusedVariables false
set_option linter.unusedSimpArgs false
set_option maxRecDepth 20000
def WRow (w : World) (g : Nat) (W : List Int) (t : TypeId) : Prop := w.heap[g]? = some (.cells (W.map fun x => Value.int .i64 x).toArray t (0, 0))
theorem WRow.cell {w : World} {g : Nat} {W : List Int} {t : TypeId} (h : WRow w g W t) (i : Nat) (hi : i < W.length) : w.cell? ⟨g, i, none⟩ = some (.int .i64 (W.getD i 0)) ∧ w.frozen? ⟨g, i, none⟩ = false := by
 unfold WRow at h
 refine ⟨?_, by simp [World.frozen?, h]⟩
 simp [World.cell?, h, hi]
theorem WRow.lt {w : World} {g : Nat} {W : List Int} {t : TypeId} (h : WRow w g W t) : g < w.heap.size := lt_of_block h
theorem WRow.set {w : World} {g : Nat} {W : List Int} {t : TypeId} (h : WRow w g W t) (i : Nat) (x : Int) : WRow (w.setCell ⟨g, i, none⟩ (.int .i64 x)) g (W.set i x) t := by
 have q := heap_setCell_same w g i _ _ (.int .i64 x) h
 unfold WRow
 rw [q]
 congr 2
 simp
theorem WRow.old {w w' : World} {g : Nat} {W : List Int} {t : TypeId} (h : WRow w g W t) (u : Old w w') : WRow w' g W t := u.block h
theorem WRow.grown {w w' : World} {g : Nat} {W : List Int} {t : TypeId} {row : Option Nat} (h : WRow w g W t) (k : w.grownBy w' row) (hn : some g ≠ row) : WRow w' g W t := (k.block g h.lt hn).trans h
theorem WRow.other {w : World} {g m o : Nat} {W : List Int} {t : TypeId} (h : WRow w g W t) (hn : m ≠ g) (v : Value) : WRow (w.setCell ⟨m, o, none⟩ v) g W t := (Below.heap_setCell w ⟨m, o, none⟩ v g (fun e => hn e.symm)).trans h
theorem infoInt1 : (Tryz.prog.info? 3).map (fun i => (i.zero, i.size, i.bytes)) = some (some (.int .i64 0), 1, 8) := by kernel_rfl
theorem infoInt2 : (Tryz.prog.info? 2).map (fun i => (i.zero, i.size, i.bytes)) = some (some (.int .i64 0), 1, 8) := by kernel_rfl
theorem mkI (n : Nat) (hn : n ≤ 977343669135) (w : World) : (Instr.makeSlice 22 (.int .i64 (n : Int)) (.int .i64 (n : Int))).run Tryz.prog w = .ok (.slice (some ⟨w.heap.size, 0, none⟩) n n) (w.alloc (.cells (madeCells #[.int .i64 0] n) 3)) := by
 obtain ⟨i0, hi, hz0, hz1, hz2⟩ := info_parts infoInt1
 have q := run_make (P := Tryz.prog) w 22 3 i0 _ Tryz.underlying22 hi hz0 .i64 .i64 n n (by omega) (Int.le_refl _) (by rw [hz2]; omega) (by omega)
 rw [hz1] at q
 simp only [Int.toNat_natCast, Nat.mul_one] at q
 exact q
theorem WRow.new (w : World) (n : Nat) (t : TypeId) (w1 : World) (e : w.alloc (.cells (madeCells #[.int .i64 0] n) t) = w1) (g : Nat) (hg : w.heap.size = g) : WRow w1 g (List.replicate n 0) t ∧ Old w w1 := by
 subst e hg
 refine ⟨?_, (Old.refl w).alloc _⟩
 unfold WRow
 have q := heap_new w (.cells (madeCells #[.int .i64 0] n) t)
 rw [q]
 congr 2
 apply Array.ext
 ·simp [madeCells]
 ·intro i h1 h2
  simp [madeCells]
  have : i % 1 = 0 := by omega
  simp [this]
def Cnt (W : List Int) (la : Nat) (M : List Int) : Prop := W.length = la + 1 ∧ ∀ j, j ≤ la → W.getD j 0 = ((M.count (j : Int) : Nat) : Int)
theorem Cnt.zero (la : Nat) : Cnt (List.replicate (la + 1) 0) la [] := ⟨by simp, fun j hj => by
 rw [List.getD_eq_getElem?_getD, List.getElem?_replicate, if_pos (by omega)]
 rfl⟩
theorem Cnt.step {W : List Int} {la : Nat} {M : List Int} (h : Cnt W la M) (m : Nat) (hm : m ≤ la) : Cnt (W.set m (W.getD m 0 + 1)) la (M ++ [(m : Int)]) := by
 refine ⟨by rw [List.length_set]; exact h.1, fun j hj => ?_⟩
 rw [List.count_append, List.count_cons, List.count_nil, List.getD_eq_getElem?_getD, List.getElem?_set]
 by_cases e : m = j
 ·subst e
  rw [if_pos rfl, if_pos (by have := h.1; omega)]
  rw [Option.getD_some, h.2 m hm]
  simp
 ·rw [if_neg e, ← List.getD_eq_getElem?_getD, h.2 j hj]
  have : ¬ ((m : Int) == (j : Int)) = true := by simp; omega
  rw [if_neg this]
  simp
theorem take_one {α : Type} (L : List α) (j : Nat) (h : j < L.length) : L.take (j + 1) = L.take j ++ [L[j]] := by
 rw [List.take_succ_eq_append_getElem h]
theorem heardC_ms (s : Cs) (q vc vn e : Int) (k : Nat) : (heardC s q vc vn e k).ms = s.ms ∧ (heardC s q vc vn e k).la = s.la := by
 unfold heardC
 split
 ·exact ⟨rfl, rfl⟩
 ·split
  ·exact ⟨rfl, rfl⟩
  ·split
   ·exact ⟨rfl, rfl⟩
   ·split <;> exact ⟨rfl, rfl⟩
def exG : Nat → Int := fun i => [2, 5, 7].getD i 0
theorem exG_row (w : World) : Ci.NRowL (w.alloc (.cells #[.int .i64 2, .int .i64 5, .int .i64 7] 3)) (.slice (some ⟨w.heap.size, 0, none⟩) 3 3) 3 exG := by
 refine ⟨by omega, _, 3, rfl, Nat.le_refl _, by omega, fun i hi => ⟨w.heap.size, 0, rfl, ?_⟩⟩
 rw [Go.Joins.cell_of_block (alloc_at w _)]
 match i, hi with
 | 0, _ => rfl
 | 1, _ => rfl
 | 2, _ => rfl
theorem exG_ms : msL exG 3 = [2, 5, 7] := by kernel_rfl
end Go.Proofs.YthjfkmjeppdcnaaGreat
