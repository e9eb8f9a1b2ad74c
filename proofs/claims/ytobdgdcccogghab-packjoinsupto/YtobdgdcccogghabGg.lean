/- What pack.Get returns for one number whose bytes are all there are; conditions: the rows lie in memory. -/
import Derived.Test.YtobdgdcccogghabGf
namespace Go.Proofs.Ytobdgdcccogghab
open Go.RowKit
set_option linter.unusedVariables false
theorem enter_unknown (args : Array Value) (w : World) : (callFunc 13 args).run Try.prog w = .ok (.enter 13 args) w := by kernel_rfl
set_option maxHeartbeats 400000 in
theorem index_num (kb : Nat) (w : World) (hkc : w.cell? ⟨kb, 0, none⟩ = some (.int .i64 1)) :
    Calls Try.prog 20 #[.slice (some ⟨kb, 0, none⟩) 1 1, .func (.func 13) #[] #[]] w fun e w' => e = .returned (.int .i64 (-1)) ∧ w' = w := by
  have HU := hid (unknown_any 1 w)
  rw [show decide ((1 : Int) < 1 ∨ 4 < (1 : Int)) = false by decide] at HU
  go_enter Try.func20, Try.ntmps20
  go_wp2
  refine wp_loop_rounds 2 ?_
  rw [rounds_succ]
  go_wp2_with (go_at_call 13; refine HU.out.mono ?_; rintro e w' ⟨rfl, hw⟩; have hw2 := hw.symm; subst hw2)
  rw [rounds_succ]
  go_wp2
  go_ret
  exact ⟨rfl, rfl⟩
set_option maxHeartbeats 400000 in
theorem contains_num (kb : Nat) (w : World) (hkc : w.cell? ⟨kb, 0, none⟩ = some (.int .i64 1)) :
    Calls Try.prog 12 #[.slice (some ⟨kb, 0, none⟩) 1 1, .func (.func 13) #[] #[]] w fun e w' => e = .returned (.bool false) ∧ w' = w := by
  have HI := hid (index_num kb w hkc)
  clear hkc
  go_enter Try.func12, Try.ntmps12
  go_wp2_with (go_at_call 20; refine HI.out.mono ?_; rintro e w' ⟨rfl, hw⟩; have hw2 := hw.symm; subst hw2)
  go_ret
  exact ⟨rfl, rfl⟩
set_option maxHeartbeats 1000000 in
theorem get_read (a : Option Addr) (n c kb : Nat) (x : Nat → Nat) (w : World) (hv : ByRow w (.slice a n c) n x) (hk : lnK x n = n) (hn : n ≠ 0) (hkc : w.cell? ⟨kb, 0, none⟩ = some (.int .i64 1)) (tk tv : TypeId) :
    Calls Try.prog 14 #[.slice a n c, .func (.func 15) #[] #[.pointer (some ⟨w.heap.size, 0, none⟩), .pointer (some ⟨w.heap.size + 1, 0, none⟩)]] ((w.alloc (.cells #[.slice (some ⟨kb, 0, none⟩) 1 1] tk)).alloc (.cells #[.slice none 0 0] tv)) fun e W4 => e = .returned (.int .i64 0) ∧ (∃ g cap, W4.cell? ⟨w.heap.size + 1, 0, none⟩ = some (.slice (some ⟨g, 0, none⟩) 1 cap) ∧ W4.cell? ⟨g, 1, none⟩ = some (.int .i64 (lnV x n))) ∧ Up w W4 := by
  have hup : Up w ((w.alloc (.cells #[.slice (some ⟨kb, 0, none⟩) 1 1] tk)).alloc (.cells #[.slice none 0 0] tv)) := ((Up.refl w).alloc _).alloc _
  have hsz : ((w.alloc (.cells #[.slice (some ⟨kb, 0, none⟩) 1 1] tk)).alloc (.cells #[.slice none 0 0] tv)).heap.size = w.heap.size + 2 := by simp
  have hk0 : ((w.alloc (.cells #[.slice (some ⟨kb, 0, none⟩) 1 1] tk)).alloc (.cells #[.slice none 0 0] tv)).heap[w.heap.size]? = some (.cells #[.slice (some ⟨kb, 0, none⟩) 1 1] tk (0, 0)) := by rw [Below.heap_alloc _ _ _ (by simp)]; exact heap_new _ _
  have hv0 : ((w.alloc (.cells #[.slice (some ⟨kb, 0, none⟩) 1 1] tk)).alloc (.cells #[.slice none 0 0] tv)).heap[w.heap.size + 1]? = some (.cells #[.slice none 0 0] tv (0, 0)) := by
    have := heap_new (w.alloc (.cells #[.slice (some ⟨kb, 0, none⟩) 1 1] tk)) (.cells #[.slice none 0 0] tv)
    rw [show (w.alloc (.cells #[.slice (some ⟨kb, 0, none⟩) 1 1] tk)).heap.size = w.heap.size + 1 by simp] at this
    exact this
  have hkb : kb < w.heap.size := World.block_lt_of_cell? w _ hkc
  generalize ((w.alloc (.cells #[.slice (some ⟨kb, 0, none⟩) 1 1] tk)).alloc (.cells #[.slice none 0 0] tv)) = W0 at *
  have hop := opened_up W0 (.slice a n c)
  have hos := opened_size W0 (.slice a n c)
  refine (read_of2 15 _ enter_get1 W0 a n c [w.heap.size + 1] (fun k hk => by simp at hk; omega) (fun W k => k = 0 ∧ ∃ g cap, W.heap[w.heap.size + 1]? = some (.cells #[.slice (some ⟨g, 0, none⟩) 1 cap] tv (0, 0)) ∧ W0.heap.size + 3 ≤ g ∧ W.cell? ⟨g, 1, none⟩ = some (.int .i64 (lnV x n))) (fun _ _ => False) ?_).mono ?_
  · refine (get1_num (W0.heap.size + 1) w.heap.size (w.heap.size + 1) kb n tk tv x _ (RS.opened (hv.up hup)) (by omega) ((hop.block _ (by omega)).trans hk0) (hop.keep (hup.keep hkc)) ((hop.block _ (by omega)).trans hv0) (by omega) (by omega) (by omega)).mono ?_
    rintro e W2 ⟨rfl, hr, ⟨g, cap, hg1, hg2, ty, hg3⟩, hc⟩
    refine ⟨hc, .inl ⟨rfl, _, hr.rd, by omega, g, cap, hg1, by omega, ?_⟩⟩
    rw [hg3.cellAt 1 (by omega)]; rfl
  · rintro e W4 ⟨hc, W2, hb, ⟨k, ⟨rfl, g, cap, hg1, hg2, hg3⟩, rfl⟩ | ⟨_, h, _⟩⟩
    · have hlt2 : g < W2.heap.size := World.block_lt_of_cell? W2 _ hg3
      refine ⟨rfl, ⟨g, cap, ?_, ?_⟩, Below.trans hup (hc.below _ (fun k hk => by simp at hk; omega) (by omega))⟩
      · exact cell_of_one ((hb.block _ (lt_of_block hg1) (by simp; omega)).trans hg1)
      · rw [World.cell?_of_block (hb.block g hlt2 (by simp; omega))]; exact hg3
    · exact h.elim
set_option maxHeartbeats 1000000 in
theorem get_num (a : Option Addr) (n c kb : Nat) (x : Nat → Nat) (w : World) (hv : ByRow w (.slice a n c) n x) (hk : lnK x n = n) (hn : n ≠ 0) (hkc : w.cell? ⟨kb, 0, none⟩ = some (.int .i64 1)) :
    Calls Try.prog 9 #[.slice a n c, .slice (some ⟨kb, 0, none⟩) 1 1] w fun e w' => ∃ g cap, e = .returned (.tuple #[.slice (some ⟨g, 0, none⟩) 1 cap, .int .i64 0]) ∧ w'.cell? ⟨g, 1, none⟩ = some (.int .i64 (lnV x n)) ∧ Up w w' := by
  have hmf : ∀ (fn : Fn) (first cap : Array Value) (w : World), (Instr.makeFunc fn first cap).run Try.prog w = .ok (.func fn first cap) w := fun _ _ _ _ => rfl
  have HC := hid (fun (W : World) (hW : Up w W) => contains_num kb W (hW.keep hkc))
  have HR := hid (fun tk tv => get_read a n c kb x w hv hk hn hkc tk tv)
  clear hv hkc hk hn
  generalize lnV x n = V at *
  go_enter Try.func9, Try.ntmps9
  go_wp2_with (go_at_call 12; refine (HC.out _ ((Up.refl w).alloc _)).mono ?_; rintro e w' ⟨rfl, hw⟩; have hw2 := hw.symm; subst hw2)
  refine (HR.out _ _).mono ?_
  rintro e W4 ⟨rfl, ⟨g, cap, cg, cv⟩, hu⟩
  have CV := hid cv
  clear cv
  go_wp2
  go_ret2
  exact ⟨g, cap, rfl, CV.out, hu⟩
end Go.Proofs.Ytobdgdcccogghab
