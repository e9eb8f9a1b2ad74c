/- preds: what Put keeps; the document's example; a row of calls as it lies in memory and as an argument; no condition. -/
import Derived.Test.YtgeinnaljlajoaaGreatCxG
import Derived.Sort.AtCall
import Derived.SizedLaws
import Derived.ProofKit
import Derived.OpenShut
import Derived.Lib.SmallJoins
namespace Go.Proofs.YtgeinnaljlajoaaGreat.Py
open Go.RowKit Go.Lib
set_option linter.unusedVariables false
set_option linter.unusedSimpArgs false
set_option maxRecDepth 20000
theorem put_good {x y : Nat} {p q : Bool} {n most : Int} {L : List It} (hx : Fl.W x) (hy : Fl.W y) (h : Good L) : Good (putR x y p q n most L).2 := by
 have H : Fl.csE x y p q = false → ¬ (n < 1 ∨ 1099511627776 < n) → Good (putL ⟨Fl.csU x y p q, Fl.csV x y p q, false, false, n⟩ L) := fun hn hb => by
  refine ⟨put_asc _ L h.1, fun z hz => ?_⟩
  rcases mem_put _ L z hz with rfl | e | ⟨y', hy', _, rfl⟩
  ·have hf := Fl.cs_isForm x y p q hx hy
   rw [hn] at hf
   exact ⟨hf, rfl, rfl, by show 1 ≤ n; omega, by show n ≤ 1099511627776; omega⟩
  ·exact h.2 z e
  ·have := h.2 y' hy'
   exact ⟨this.1, this.2.1, this.2.2.1, by rw [n_with]; show 1 ≤ max y'.n n; have := this.2.2.2; omega, by rw [n_with]; show max y'.n n ≤ 1099511627776; have := this.2.2.2; omega⟩
 unfold putR
 by_cases h1 : Fl.csE x y p q = true
 ·rw [if_pos h1]; exact h
 ·rw [if_neg h1]
  by_cases h2 : n < 1 ∨ 1099511627776 < n
  ·rw [if_pos h2]; exact h
  ·rw [if_neg h2]
   have q' := H (by simpa using h1) h2
   (repeat' split) <;> first | exact q' | exact h
theorem put_most {x y : Nat} {p q : Bool} {n most : Int} {L : List It} (hG : Good L) (h : (L.length : Int) ≤ most) : ((putR x y p q n most L).2.length : Int) ≤ most := by
 unfold putR
 by_cases h1 : Fl.csE x y p q = true
 ·rw [if_pos h1]; exact h
 ·rw [if_neg h1]
  have h1' : Fl.csE x y p q = false := by simpa using h1
  by_cases h2 : n < 1 ∨ 1099511627776 < n
  ·rw [if_pos h2]; exact h
  ·rw [if_neg h2]
   by_cases ht : there (skc x y p q) L = true
   ·rw [if_pos ht]
    simp [there] at ht
    have hp := put_set ⟨Fl.csU x y p q, Fl.csV x y p q, false, false, n⟩ L hG.1 (by rw [kc_new x y p q n h1']; exact ht.1) (by rw [kc_new x y p q n h1']; exact ht.2)
    simp only [hp, List.length_set]
    exact h
   ·rw [if_neg ht]
    by_cases hm : most ≤ (L.length : Int)
    ·rw [if_pos hm]; exact h
    ·rw [if_neg hm]
     have := put_len ⟨Fl.csU x y p q, Fl.csV x y p q, false, false, n⟩ L
     simp only
     omega
def E1 : It := ⟨4607182418800017408, 4613937818241073151, false, false, 5⟩
def E2 : It := ⟨4611686018427387904, 4616189618054758400, false, false, 3⟩
theorem ex1 : putR 4607182418800017408 4613937818241073152 false true 5 9 [] = (0, [E1]) := by kernel_rfl
theorem ex2 : putR 4611686018427387904 4616189618054758400 false false 3 9 [E1] = (0, [E1, E2]) := by kernel_rfl
theorem ex3 : overT 4607182418800017408 [E1, E2] 2 = 5 := by kernel_rfl
theorem ex4 : overT 4611686018427387904 [E1, E2] 2 = 5 := by kernel_rfl
theorem ex5 : overT 4613937818241073152 [E1, E2] 2 = 3 := by kernel_rfl
theorem ex6 : overT 4617315517961601024 [E1, E2] 2 = 0 := by kernel_rfl
theorem ex7 : keepL 3 [E1, E2] = [E1] := by kernel_rfl
theorem ex8 : mostC 9 = 9 := by kernel_rfl
theorem good0 : Good [] := ⟨List.Pairwise.nil, fun x hx => by simp at hx⟩
theorem w1 : Fl.W 4607182418800017408 := by unfold Fl.W; omega
theorem w2 : Fl.W 4611686018427387904 := by unfold Fl.W; omega
theorem w3 : Fl.W 4613937818241073152 := by unfold Fl.W; omega
theorem w4 : Fl.W 4616189618054758400 := by unfold Fl.W; omega
theorem w5 : Fl.W 4617315517961601024 := by unfold Fl.W; omega
theorem good1 : Good [E1] := by have := put_good (p := false) (q := true) (n := 5) (most := 9) w1 w3 good0; rwa [ex1] at this
theorem good2 : Good [E1, E2] := by have := put_good (p := false) (q := false) (n := 3) (most := 9) w2 w4 good1; rwa [ex2] at this
theorem TabAt.below {base : Nat} {w w' : World} {b : Nat} {most : Int} {v : Value} {L : List It} (h : TabAt base w b most v L) (c : Chg (blks b v) w w') : Below base w w' := c.below base (fun k hk => (h.blk k hk).1) (by have := h.1; have := h.lt; omega)
attribute [local go_sem] run_bits run_frombits run_store_float
end Go.Proofs.YtgeinnaljlajoaaGreat.Py
