/- The law PredsDrops at every row of calls, every number and every key; no condition. -/
import Derived.Test.YtodoogcllahfgaaYo
namespace Go.Proofs.Ytodoogcllahfgaa
open Go.RowKit Go.Lib
set_option linter.unusedVariables false
set_option linter.unusedSimpArgs false
set_option maxRecDepth 20000
/-- A table in the middle of the rounds. -/
def TabIn (base b : Nat) (most : Int) (w0 w : World) : Prop := ∃ v L, TabAt base w b most v L ∧ Good L ∧ (L.length : Int) ≤ most ∧ Old w0 w
theorem op_new (w : World) (x : Opv) (g : Nat) (hg : w.heap.size = g) : OpIn (w.alloc (.cells #[.int .i64 x.kd, .float .f64 x.a, .float .f64 x.b, .bool x.p, .bool x.q, .int .i64 x.n] 34)) g 0 x := by
  have hh := alloc_heap w (.cells #[.int .i64 x.kd, .float .f64 x.a, .float .f64 x.b, .bool x.p, .bool x.q, .int .i64 x.n] 34) g hg
  exact ⟨by rw [cell_of_heap hh]; rfl, by rw [cell_of_heap hh]; rfl, by rw [cell_of_heap hh]; rfl, by rw [cell_of_heap hh]; rfl, by rw [cell_of_heap hh]; rfl, by rw [cell_of_heap hh]; rfl⟩
theorem atI_app (A B : List It) (i : Nat) (h : i < A.length) : atI (A ++ B) i = atI A i := by simp [atI, List.getElem?_append_left h]
theorem over_app (k : Nat) (A B : List It) : ∀ j, j ≤ A.length → overT k (A ++ B) j = overT k A j
  | 0, _ => rfl
  | j + 1, h => by
    unfold overT
    rw [atI_app A B j (by omega), over_app k A B j (by omega)]
theorem over_snoc (k : Nat) (A : List It) (x : It) : overT k (A ++ [x]) (A ++ [x]).length = if hasB x.a x.b x.p x.q k = true then max (overT k A A.length) x.n else overT k A A.length := by
  have e : atI (A ++ [x]) A.length = x := by simp [atI]
  rw [List.length_append]
  show (if hasB (atI (A ++ [x]) A.length).a (atI (A ++ [x]) A.length).b (atI (A ++ [x]) A.length).p (atI (A ++ [x]) A.length).q k = true then max (overT k (A ++ [x]) A.length) (atI (A ++ [x]) A.length).n else overT k (A ++ [x]) A.length) = _
  rw [e, over_app k A [x] A.length (Nat.le_refl _)]
theorem mem_atI (L : List It) (i : Nat) (hi : i < L.length) : atI L i ∈ L := by rw [atI_get L i hi]; exact List.getElem_mem hi
attribute [local go_sem] run_bits run_frombits run_store_float

end Go.Proofs.Ytodoogcllahfgaa
