/- The law's own look, reading, returns true; no condition. -/
import Derived.Test.YtpofccnifecpfaaCl
namespace Go.Proofs.Ytpofccnifecpfaa
open Go.RowKit
set_option linter.unusedVariables false
theorem enter_reading1 (args : Array Value) (w : World) : (callFunc 32 args).run Try.prog w = .ok (.enter 32 args) w := by kernel_rfl
theorem four : lnK (fun _ => 4) 1 = 1 ∧ lnV (fun _ => 4) 1 = 2 := by decide +kernel
theorem var_new (w : World) (t : TypeId) (z : Int) : Var (w.alloc (.cells #[.int .i64 z] t)) w.heap.size t z := heap_new w _
theorem row_one (w : World) (g : Nat) (hg : w.heap.size = g) (c : Nat) (hc : c < 256) : ByRow (w.alloc (.cells #[.int .u8 (c : Int)] 5)) (.slice (some ⟨g, 0, none⟩) 1 1) 1 (fun _ => c) := by
  subst hg
  refine .inr ⟨by omega, by unfold maxLen; omega, w.heap.size, 0, 1, rfl, fun i hi => ?_, by omega, by unfold maxLen; omega⟩
  obtain rfl : i = 0 := by omega
  exact ⟨hc, cell_new _ _ _ _ _ _ rfl⟩
set_option maxHeartbeats 400000 in
theorem reading_read (w : World) :
    Calls Try.prog 15 #[.slice (some ⟨w.heap.size + 1, 0, none⟩) 1 1, .func (.func 32) #[] #[.pointer (some ⟨w.heap.size, 0, none⟩)]] ((w.alloc (.cells #[.int .i64 0] 2)).alloc (.cells #[.int .u8 4] 5)) fun e W4 => e = .returned (.int .i64 0) ∧ Var W4 w.heap.size 2 2 ∧ Up w W4 := by
  have hrow := row_one (w.alloc (.cells #[.int .i64 0] 2)) (w.heap.size + 1) (by simp) 4 (by omega)
  have hvar := (var_new w 2 0).up ((Up.refl _).alloc (.cells #[.int .u8 4] 5))
  have hsz : ((w.alloc (.cells #[.int .i64 0] 2)).alloc (.cells #[.int .u8 4] 5)).heap.size = w.heap.size + 2 := by simp
  have hup : Up w ((w.alloc (.cells #[.int .i64 0] 2)).alloc (.cells #[.int .u8 4] 5)) := ((Up.refl w).alloc _).alloc _
  have e4 : ((4 : Nat) : Int) = 4 := rfl
  rw [e4] at hrow
  generalize ((w.alloc (.cells #[.int .i64 0] 2)).alloc (.cells #[.int .u8 4] 5)) = W0 at *
  refine (read_of 32 #[.pointer (some ⟨w.heap.size, 0, none⟩)] enter_reading1 W0 _ 1 1 [w.heap.size] (fun k hk => by simp at hk; omega) (fun W n => n = 0 ∧ Var W w.heap.size 2 2) (fun _ _ => False) ?_).mono ?_
  · refine (reading1 (W0.heap.size + 1) w.heap.size 2 0 1 (fun _ => 4) _ (RS.opened hrow) (hvar.up (opened_up _ _)) (by omega) (by rw [four.1]; omega)).mono ?_
    rintro e W2 ⟨rfl, hr, hv, hc⟩
    rw [four.1] at hr
    rw [four.2] at hv
    exact ⟨hc, .inl ⟨rfl, 0, hr, rfl, hv⟩⟩
  · rintro e W4 ⟨hc, W2, hb, ⟨n, ⟨rfl, hv⟩, rfl⟩ | ⟨_, h, _⟩⟩
    · refine ⟨by simp, (hb.block _ (by omega)).trans hv, Below.trans hup (hc.below _ (fun k hk => by simp at hk; omega) (by omega))⟩
    · exact h.elim
set_option maxHeartbeats 400000 in
theorem reading_any (w : World) :
    Calls Try.prog 14 #[] w fun e w' => e = .returned (.bool true) ∧ Up w w' := by
  have hmf : ∀ (fn : Fn) (first cap : Array Value) (w : World), (Instr.makeFunc fn first cap).run Try.prog w = .ok (.func fn first cap) w := fun _ _ _ _ => rfl
  go_enter Try.func14, Try.ntmps14
  go_wp2_with (go_at_call 15; refine (reading_read w).mono ?_; rintro e W4 ⟨rfl, hv, hu⟩; have cv := hv.cell; have HV := hid hv; clear hv)
  go_ret
  exact ⟨rfl, hu⟩
end Go.Proofs.Ytpofccnifecpfaa
