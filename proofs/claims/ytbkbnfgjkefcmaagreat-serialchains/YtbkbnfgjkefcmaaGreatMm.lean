/- The first and the last of numbers in a row of memory: what slices.MinFunc and slices.MaxFunc with flo.Cmp, and flo.Least and flo.Most, return; conditions: the row is not empty and lies in memory. -/
import Derived.Test.YtbkbnfgjkefcmaaGreatCq
import Derived.Test.YtbkbnfgjkefcmaaGreatFs
namespace Go.Proofs.YtbkbnfgjkefcmaaGreat
open Go.RowKit
namespace Fl
def minU (x : Nat → Nat) : Nat → Nat | 0 => x 0 | k + 1 => if code (x (k + 1)) < code (minU x k) then x (k + 1) else minU x k
def maxU (x : Nat → Nat) : Nat → Nat | 0 => x 0 | k + 1 => if code (maxU x k) < code (x (k + 1)) then x (k + 1) else maxU x k
theorem minU_W (x : Nat → Nat) (n : Nat) (h : ∀ i, i < n → W (x i)) : ∀ k, k < n → W (minU x k)
  | 0, hk => h 0 hk
  | k + 1, hk => by unfold minU; split; exact h _ hk; exact minU_W x n h k (by omega)
theorem maxU_W (x : Nat → Nat) (n : Nat) (h : ∀ i, i < n → W (x i)) : ∀ k, k < n → W (maxU x k)
  | 0, hk => h 0 hk
  | k + 1, hk => by unfold maxU; split; exact h _ hk; exact maxU_W x n h k (by omega)
end Fl

set_option maxHeartbeats 400000 in
set_option maxRecDepth 20000 in
theorem maxFunc_any (blk off n cap : Nat) (x : Nat → Nat) (hn : 1 ≤ n) (hm : n ≤ maxLen) (hx : ∀ i, i < n → Fl.W (x i)) (w : World) (hc : ∀ i, i < n → w.cell? ⟨blk, off + i, none⟩ = some (.float .f64 (x i))) :
    Calls Tryz.prog 118 #[.slice (some ⟨blk, off, none⟩) n cap, .func (.func 100) #[] #[]] w fun e w' => e = .returned (.float .f64 (Fl.maxU x (n - 1))) ∧ w' = w := by
  unfold maxLen at hm
  have h0 : w.cell? ⟨blk, off, none⟩ = some (.float .f64 (x 0)) := by have := hc 0 (by omega); simpa using this
  have t1 : decide ((n : Int) < 1) = false := by simp; omega
  have t2 : (0 : Int) < (n : Int) := by omega
  have HX := fun i => hid (hx i)
  have HC := fun i => hid (hc i)
  clear hc hx
  go_enter Tryz.func118, Tryz.ntmps118
  go_wp2
  go_loop [5, 6] (fun m i => ∃ k : Nat, k < n ∧ i = .int .i64 (k + 1 : Nat) ∧ m = .float .f64 (Fl.maxU x k)) (fun _ i => n - (intOf i).toNat)
  case atStart => exact ⟨0, by omega, rfl, rfl⟩
  case round =>
    obtain ⟨k, hk, rfl, rfl⟩ := hrel
    by_cases hlt : k + 1 < n
    · have hw1 : Fl.W (x (k + 1)) := (HX (k + 1)).out hlt
      have hw2 : Fl.W (Fl.maxU x k) := Fl.maxU_W x n (fun i => (HX i).out) k hk
      have hcell : w.cell? ⟨blk, off + (k + 1), none⟩ = some (.float .f64 (x (k + 1))) := (HC (k + 1)).out hlt
      have cc := Fl.cmpc_cases (x (k + 1)) (Fl.maxU x k)
      by_cases hcm : Fl.code (Fl.maxU x k) < Fl.code (x (k + 1))
      · have e : decide (0 < Fl.cmpc (x (k + 1)) (Fl.maxU x k)) = true := by simp; omega
        have HU : Hid (Fl.maxU x (k + 1) = x (k + 1)) := by show (if _ then _ else _) = _; rw [if_pos hcm]
        clear cc hcm
        go_wp2_with (go_at_call 100; refine (cmp_any _ _ ‹Fl.W (x (k + 1))› ‹Fl.W (Fl.maxU x k)› _).mono ?_; rintro e w' ⟨rfl, rfl⟩)
        go_round
        case rel => exact ⟨k + 1, hlt, by go_num, by rw [HU.out]⟩
        case measure => simp [intOf]; omega
      · have e : decide (0 < Fl.cmpc (x (k + 1)) (Fl.maxU x k)) = false := by simp; omega
        have HU : Hid (Fl.maxU x (k + 1) = Fl.maxU x k) := by show (if _ then _ else _) = _; rw [if_neg hcm]
        clear cc hcm
        go_wp2_with (go_at_call 100; refine (cmp_any _ _ ‹Fl.W (x (k + 1))› ‹Fl.W (Fl.maxU x k)› _).mono ?_; rintro e w' ⟨rfl, rfl⟩)
        go_round
        case rel => exact ⟨k + 1, hlt, by go_num, by rw [HU.out]⟩
        case measure => simp [intOf]; omega
    · go_wp2
      go_ret
      exact ⟨ret_f (by rw [show n - 1 = k by omega]), rfl⟩

set_option maxHeartbeats 400000 in
set_option maxRecDepth 20000 in
theorem most_any (blk off n cap : Nat) (x : Nat → Nat) (hn : 1 ≤ n) (hm : n ≤ maxLen) (hx : ∀ i, i < n → Fl.W (x i)) (w : World) (hc : ∀ i, i < n → w.cell? ⟨blk, off + i, none⟩ = some (.float .f64 (x i))) :
    Calls Tryz.prog 109 #[.slice (some ⟨blk, off, none⟩) n cap] w fun e w' => e = .returned (.float .f64 (Fl.canon (Fl.maxU x (n - 1)))) ∧ w' = w := by
  have HM := hid (maxFunc_any blk off n cap x hn hm hx w hc)
  have hw : Fl.W (Fl.maxU x (n - 1)) := Fl.maxU_W x n hx (n - 1) (by omega)
  have t1 : ((n : Int) == 0) = false := beq_eq_false_iff_ne.2 (by omega)
  clear hc hx hm hn
  go_enter Tryz.func109, Tryz.ntmps109
  go_wp2_with (first | (go_at_call 118; refine HM.out.mono ?_; rintro e w' ⟨rfl, rfl⟩) | (go_at_call 102; refine (canon_any _ ‹_› _).mono ?_; rintro e w' ⟨rfl, rfl⟩))
  go_ret
  exact ⟨rfl, rfl⟩

end Go.Proofs.YtbkbnfgjkefcmaaGreat
