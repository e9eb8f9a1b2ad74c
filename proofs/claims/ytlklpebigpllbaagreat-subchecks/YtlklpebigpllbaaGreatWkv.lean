/- The example that the laws begin with: the small submission; no condition. -/
import Derived.Test.YtlklpebigpllbaaGreatWt
namespace Go.Proofs.YtlklpebigpllbaaGreat
open Go.RowKit Go.Lib
set_option linter.unusedVariables false
set_option maxRecDepth 20000
theorem wlit {b : Nat} (h : b < 18446744073709551616) : Fl.W b := h
theorem s_rows (w : World) (m : Nat) (hm : w.heap.size = m) : FRow (((w.alloc (.cells #[.float .f64 4607182418800017408, .float .f64 4613937818241073152] 32)).alloc (.cells #[.float .f64 4607182418800017408, .float .f64 4613937818241073152, .bool false, .bool false] 34)).alloc (.cells #[.float .f64 4611686018427387904] 32)) (.slice (some ⟨m, 0, none⟩) 2 2) 2 (atN [4607182418800017408, 4613937818241073152]) ∧ SRow (((w.alloc (.cells #[.float .f64 4607182418800017408, .float .f64 4613937818241073152] 32)).alloc (.cells #[.float .f64 4607182418800017408, .float .f64 4613937818241073152, .bool false, .bool false] 34)).alloc (.cells #[.float .f64 4611686018427387904] 32)) (.slice (some ⟨m + 1, 0, none⟩) 1 1) 1 (atS [⟨4607182418800017408, 4613937818241073152, false, false⟩]) ∧ FRow (((w.alloc (.cells #[.float .f64 4607182418800017408, .float .f64 4613937818241073152] 32)).alloc (.cells #[.float .f64 4607182418800017408, .float .f64 4613937818241073152, .bool false, .bool false] 34)).alloc (.cells #[.float .f64 4611686018427387904] 32)) (.slice (some ⟨m + 2, 0, none⟩) 1 1) 1 (atN [4611686018427387904]) := by
  subst hm
  have a : FRow (w.alloc (.cells #[.float .f64 4607182418800017408, .float .f64 4613937818241073152] 32)) (.slice (some ⟨w.heap.size, 0, none⟩) 2 2) 2 (atN [4607182418800017408, 4613937818241073152]) := by
    refine ⟨by omega, _, _, rfl, fun i hi => ⟨w.heap.size, 0, rfl, ?_⟩⟩
    match i, hi with
    | 0, _ => exact ⟨wlit (by decide), by simp [atN]⟩
    | 1, _ => exact ⟨wlit (by decide), by simp [atN]⟩
  have b : SRow ((w.alloc (.cells #[.float .f64 4607182418800017408, .float .f64 4613937818241073152] 32)).alloc (.cells #[.float .f64 4607182418800017408, .float .f64 4613937818241073152, .bool false, .bool false] 34)) (.slice (some ⟨w.heap.size + 1, 0, none⟩) 1 1) 1 (atS [⟨4607182418800017408, 4613937818241073152, false, false⟩]) := by
    generalize hW : w.alloc (.cells #[.float .f64 4607182418800017408, .float .f64 4613937818241073152] 32) = W
    have hz : w.heap.size + 1 = W.heap.size := by rw [← hW]; simp
    rw [hz]
    refine ⟨by omega, _, _, rfl, fun i hi => ⟨W.heap.size, 0, rfl, ?_⟩⟩
    match i, hi with
    | 0, _ => exact ⟨wlit (by decide), wlit (by decide), by simp [SpIn, atS]⟩
  have c : FRow (((w.alloc (.cells #[.float .f64 4607182418800017408, .float .f64 4613937818241073152] 32)).alloc (.cells #[.float .f64 4607182418800017408, .float .f64 4613937818241073152, .bool false, .bool false] 34)).alloc (.cells #[.float .f64 4611686018427387904] 32)) (.slice (some ⟨w.heap.size + 2, 0, none⟩) 1 1) 1 (atN [4611686018427387904]) := by
    generalize hW : (w.alloc (.cells #[.float .f64 4607182418800017408, .float .f64 4613937818241073152] 32)).alloc (.cells #[.float .f64 4607182418800017408, .float .f64 4613937818241073152, .bool false, .bool false] 34) = W
    have hz : w.heap.size + 2 = W.heap.size := by rw [← hW]; simp
    rw [hz]
    refine ⟨by omega, _, _, rfl, fun i hi => ⟨W.heap.size, 0, rfl, ?_⟩⟩
    match i, hi with
    | 0, _ => exact ⟨wlit (by decide), by simp [atN]⟩
  exact ⟨a.old (((Old.refl _).alloc _).alloc _), b.old ((Old.refl _).alloc _), c⟩
attribute [local go_sem] run_bits run_frombits run_store_float eqF
set_option maxHeartbeats 1000000 in
set_option maxRecDepth 20000 in
theorem small_any (w : World) :
    Calls Tryz.prog 5 #[] w fun e w' => ∃ g1 g2 g3 : Nat, e = .returned (.agg #[.int .i64 1, .int .i64 2, .int .i64 0, .slice (some ⟨g1, 0, none⟩) 2 2, .slice (some ⟨g2, 0, none⟩) 1 1, .slice (some ⟨g3, 0, none⟩) 1 1]) ∧ (FRow w' (.slice (some ⟨g1, 0, none⟩) 2 2) 2 (atN [4607182418800017408, 4613937818241073152]) ∧ SRow w' (.slice (some ⟨g2, 0, none⟩) 1 1) 1 (atS [⟨4607182418800017408, 4613937818241073152, false, false⟩]) ∧ FRow w' (.slice (some ⟨g3, 0, none⟩) 1 1) 1 (atN [4611686018427387904])) ∧ Old w w' := by
  go_enter Tryz.func5, Tryz.ntmps5
  go_wp2
  refine bodyPost_ret (v := .agg #[.int .i64 1, .int .i64 2, .int .i64 0, .slice (some ⟨w.heap.size + 1, 0, none⟩) 2 2, .slice (some ⟨w.heap.size + 2, 0, none⟩) 1 1, .slice (some ⟨w.heap.size + 3, 0, none⟩) 1 1]) (by simp [results, Tryz.results5, go_sem]) rfl ⟨w.heap.size + 1, w.heap.size + 2, w.heap.size + 3, rfl, s_rows _ (w.heap.size + 1) (by simp), ((((Old.refl w).alloc _).alloc _).alloc _).alloc _⟩
end Go.Proofs.YtlklpebigpllbaaGreat
