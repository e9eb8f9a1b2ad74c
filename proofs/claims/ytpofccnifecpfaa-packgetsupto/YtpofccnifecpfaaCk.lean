/- What the first functions of flo and of its reference return at every float64: IsNaN, Canon, Code, Nan, Bits, Same, Form; no condition. -/
import Derived.Test.YtpofccnifecpfaaBa
import Derived.Test.YtpofccnifecpfaaFl
import Derived.Test.YtpofccnifecpfaaBt
import Derived.WalkKit
import Derived.WalkSpells
import Derived.WalkLawsBesides
namespace Go.Proofs.Ytpofccnifecpfaa
open Go.RowKit

theorem run_bits (b : Nat) (w : World) : (callFunc 23 #[.float .f64 b]).run Try.prog w = .ok (.value (.int .u64 (b : Int))) w := by kernel_rfl
theorem run_frombits (n : Int) (w : World) : (callFunc 57 #[.int .u64 n]).run Try.prog w = .ok (.value (.float .f64 n.toNat)) w := by kernel_rfl
theorem ret_f {a b : Nat} (h : a = b) : Ending.returned (.float .f64 a) = .returned (.float .f64 b) := by rw [h]

attribute [local go_sem] run_bits run_frombits

set_option maxHeartbeats 400000 in
theorem isNaN_any (b : Nat) (hb : Fl.W b) (w : World) :
    Calls Try.prog 58 #[.float .f64 b] w fun e w' => e = .returned (.bool (Fl.nan b)) ∧ w' = w := by
  by_cases hn : Fl.nan b = true
  · have h := Fl.ord_nan_l b b hn
    rw [hn]; clear hn
    go_enter Try.func58, Try.ntmps58
    go_wp2
    go_ret
    exact ⟨rfl, rfl⟩
  · have h := Fl.ord_self b hb (Fl.nf b hn)
    rw [Fl.nf b hn]; clear hn
    go_enter Try.func58, Try.ntmps58
    go_wp2
    go_ret
    exact ⟨rfl, rfl⟩

set_option maxHeartbeats 400000 in
theorem canon_any (b : Nat) (hb : Fl.W b) (w : World) :
    Calls Try.prog 59 #[.float .f64 b] w fun e w' => e = .returned (.float .f64 (Fl.canon b)) ∧ w' = w := by
  rcases Fl.kinds b hb with hn | ⟨hn, hz⟩ | ⟨hn, h1, h2⟩ | ⟨hn, h1, h2⟩
  · have h := Fl.ord_nan_l b b hn
    rw [Fl.canon_nan b hn]; clear hn
    go_enter Try.func59, Try.ntmps59
    go_wp2
    go_ret
    exact ⟨rfl, rfl⟩
  · have h := Fl.ord_self b hb hn
    have h0 := Fl.ord_zero b hb hz
    rw [Fl.canon_zero b hz]; clear hn hz
    go_enter Try.func59, Try.ntmps59
    go_wp2
    go_ret
    exact ⟨rfl, rfl⟩
  · have h := Fl.ord_self b hb hn
    have h0 := Fl.ord_pos b h1 h2
    rw [Fl.canon_else b hn (by unfold Fl.S Fl.INF at *; omega)]; clear hn h1 h2
    go_enter Try.func59, Try.ntmps59
    go_wp2
    go_ret
    exact ⟨rfl, rfl⟩
  · have h := Fl.ord_self b hb hn
    have h0 := Fl.ord_neg b h1 h2
    rw [Fl.canon_else b hn (by omega)]; clear hn h1 h2
    go_enter Try.func59, Try.ntmps59
    go_wp2
    go_ret
    exact ⟨rfl, rfl⟩

set_option maxHeartbeats 400000 in
theorem code_any (b : Nat) (hb : Fl.W b) (w : World) :
    Calls Try.prog 55 #[.float .f64 b] w fun e w' => e = .returned (.int .u64 (Fl.code b : Nat)) ∧ w' = w := by
  go_enter Try.func55, Try.ntmps55
  go_wp2_with (first | (go_at_call 58; refine (isNaN_any _ ‹_› _).mono ?_; rintro e w' ⟨rfl, rfl⟩) | (go_at_call 59; refine (canon_any _ ‹_› _).mono ?_; rintro e w' ⟨rfl, rfl⟩))
  all_goals go_ret
  · exact ⟨ret_i (by rw [Fl.code_nan _ ‹_›]; rfl), rfl⟩
  · have hc := Fl.canon_lt b hb
    have h1 := lo_of_and _ hc ‹_›
    exact ⟨ret_i (by rw [or_top _ h1, Fl.code_lo b hb ‹_› h1]), rfl⟩
  · have hc := Fl.canon_lt b hb
    have h1 := hi_of_and _ ‹_›
    exact ⟨ret_i (by rw [xor_max _ hc, Fl.code_hi b hb ‹_› h1]), rfl⟩

set_option maxHeartbeats 400000 in
theorem refNan_any (b : Nat) (hb : Fl.W b) (w : World) :
    Calls Try.prog 53 #[.float .f64 b] w fun e w' => e = .returned (.bool (Fl.nan b)) ∧ w' = w := by
  have h := andNot_top b hb
  go_enter Try.func53, Try.ntmps53
  go_wp2
  go_ret
  refine ⟨ret_b ?_, rfl⟩
  unfold Fl.nan Fl.INF Fl.S
  rw [Bool.eq_iff_iff]; simp; omega

set_option maxHeartbeats 400000 in
theorem refBits_any (b : Nat) (hb : Fl.W b) (w : World) :
    Calls Try.prog 42 #[.float .f64 b] w fun e w' => e = .returned (.int .u64 (Fl.canon b : Nat)) ∧ w' = w := by
  go_enter Try.func42, Try.ntmps42
  go_wp2_with (go_at_call 53; refine (refNan_any _ ‹_› _).mono ?_; rintro e w' ⟨rfl, rfl⟩)
  all_goals go_ret
  · exact ⟨ret_i (by rw [Fl.canon_nan _ ‹_›]; rfl), rfl⟩
  · have h1 : b = Fl.S := by have := beq_iff_eq.1 ‹((b : Int) == 9223372036854775808) = true›; unfold Fl.S; omega
    exact ⟨ret_i (by rw [Fl.canon_zero _ (.inr h1)]; rfl), rfl⟩
  · have h1 : b ≠ Fl.S := by have := beq_eq_false_iff_ne.1 ‹((b : Int) == 9223372036854775808) = false›; unfold Fl.S; omega
    exact ⟨ret_i (by rw [Fl.canon_else _ ‹_› h1]), rfl⟩

set_option maxHeartbeats 400000 in
theorem same_any (a b : Nat) (ha : Fl.W a) (hb : Fl.W b) (w : World) :
    Calls Try.prog 31 #[.float .f64 a, .float .f64 b] w fun e w' => e = .returned (.bool ((Fl.canon a : Int) == (Fl.canon b : Int))) ∧ w' = w := by
  go_enter Try.func31, Try.ntmps31
  go_wp2_with (go_at_call 42; refine (refBits_any _ ‹_› _).mono ?_; rintro e w' ⟨rfl, rfl⟩)
  go_ret
  exact ⟨rfl, rfl⟩

set_option maxHeartbeats 400000 in
theorem form_any (b : Nat) (hb : Fl.W b) (w : World) :
    Calls Try.prog 24 #[.float .f64 b] w fun e w' => e = .returned (.bool ((Fl.canon b : Int) == (b : Int))) ∧ w' = w := by
  go_enter Try.func24, Try.ntmps24
  go_wp2_with (go_at_call 42; refine (refBits_any _ ‹_› _).mono ?_; rintro e w' ⟨rfl, rfl⟩)
  go_ret
  exact ⟨rfl, rfl⟩

end Go.Proofs.Ytpofccnifecpfaa
