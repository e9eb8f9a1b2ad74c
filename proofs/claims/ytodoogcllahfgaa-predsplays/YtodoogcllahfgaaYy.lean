/- preds: the document's New; conditions: none. -/
import Derived.Test.YtodoogcllahfgaaYx
import Derived.Test.YtodoogcllahfgaaYo
namespace Go.Proofs.Ytodoogcllahfgaa
open Go.RowKit Go.Lib
set_option linter.unusedVariables false
set_option linter.unusedSimpArgs false
set_option maxRecDepth 20000
attribute [local go_sem] run_bits run_frombits run_store_float
set_option maxHeartbeats 1000000 in
set_option maxRecDepth 20000 in
theorem between_any (m lo hi : Int) (w : World) :
    Calls Try.prog 19 #[.int .i64 m, .int .i64 lo, .int .i64 hi] w fun e w' => e = .returned (.int .i64 (if m < lo then lo else if hi < m then hi else m)) ∧ w' = w := by
  by_cases h1 : m < lo
  · rw [if_pos h1]
    go_enter Try.func19, Try.ntmps19
    go_wp2
    go_ret
    exact ⟨rfl, rfl⟩
  · rw [if_neg h1]
    by_cases h2 : hi < m
    · rw [if_pos h2]
      go_enter Try.func19, Try.ntmps19
      go_wp2
      go_ret
      exact ⟨rfl, rfl⟩
    · rw [if_neg h2]
      go_enter Try.func19, Try.ntmps19
      go_wp2
      go_ret
      exact ⟨rfl, rfl⟩
theorem between_old (m : Int) (w : World) : Calls Try.prog 19 #[.int .i64 m, .int .i64 0, .int .i64 64] w fun e w' => e = .returned (.int .i64 (mostC m)) ∧ w' = w :=
  (between_any m 0 64 w).mono fun e w' h => ⟨by rw [h.1]; unfold mostC; congr 2; (repeat' split) <;> omega, h.2⟩
set_option maxHeartbeats 1000000 in
set_option maxRecDepth 20000 in
theorem rNew_any (m : Int) (w : World) :
    Calls Try.prog 6 #[.int .i64 m] w fun e w' => e = .returned (.agg #[.int .i64 (mostC m), .slice none 0 0]) ∧ Old w w' := by
  have HB := hid (fun W => between_old m W)
  generalize mostC m = r at *
  have h0 : (w.alloc (.cells #[.int .i64 0, .slice none 0 0] 29)).cell? ⟨w.heap.size, 0, none⟩ = some (.int .i64 0) := by rw [cell_of_heap (alloc_heap w _ _ rfl)]; rfl
  have h1 : (w.alloc (.cells #[.int .i64 0, .slice none 0 0] 29)).cell? ⟨w.heap.size, 1, none⟩ = some (.slice none 0 0) := by rw [cell_of_heap (alloc_heap w _ _ rfl)]; rfl
  have f0 : (w.alloc (.cells #[.int .i64 0, .slice none 0 0] 29)).frozen? ⟨w.heap.size, 0, none⟩ = false := frozen_of_heap (alloc_heap w _ _ rfl) _
  have f1 : (w.alloc (.cells #[.int .i64 0, .slice none 0 0] 29)).frozen? ⟨w.heap.size, 1, none⟩ = false := frozen_of_heap (alloc_heap w _ _ rfl) _
  have HV := hid ((Old.refl w).alloc (.cells #[.int .i64 0, .slice none 0 0] 29))
  go_enter Try.func6, Try.ntmps6
  go_upto_region 1 with fail
  generalize w.alloc (.cells #[.int .i64 0, .slice none 0 0] 29) = w1 at *
  generalize htb : w.heap.size = tb at *
  go_wp2_with (first | (go_at_call 19; refine (HB.out _).mono ?_; rintro e w2 ⟨rfl, hq⟩; have hq2 := hq.symm; subst hq2; clear hq))
  refine bodyPost_ret (v := .agg #[.int .i64 r, .slice none 0 0]) (by simp [results, Try.results6, go_sem, *]) rfl ⟨rfl, ?_⟩
  exact (HV.out.setCell (by simp [htb]) _).setCell (by simp [htb]) _
end Go.Proofs.Ytodoogcllahfgaa
