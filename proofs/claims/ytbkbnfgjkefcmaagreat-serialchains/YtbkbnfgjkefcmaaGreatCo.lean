/- What the first functions of flo and of its reference return at every float64: IsNaN, Canon, Code, Nan, Bits, Same, Form; no condition. -/
import Derived.Test.YtbkbnfgjkefcmaaGreatRows
import Derived.Test.YtbkbnfgjkefcmaaGreatFl
import Derived.Test.YtbkbnfgjkefcmaaGreatBt
import Derived.WalkKit
import Derived.WalkSpells
import Derived.WalkLawsBesides
namespace Go.Proofs.YtbkbnfgjkefcmaaGreat
open Go.RowKit

theorem run_bits (b : Nat) (w : World) : (callFunc 67 #[.float .f64 b]).run Tryz.prog w = .ok (.value (.int .u64 (b : Int))) w := by kernel_rfl
theorem run_frombits (n : Int) (w : World) : (callFunc 88 #[.int .u64 n]).run Tryz.prog w = .ok (.value (.float .f64 n.toNat)) w := by kernel_rfl
theorem ret_f {a b : Nat} (h : a = b) : Ending.returned (.float .f64 a) = .returned (.float .f64 b) := by rw [h]
theorem ret_i {k : IntKind} {a b : Int} (h : a = b) : Ending.returned (.int k a) = .returned (.int k b) := by rw [h]
theorem ret_b {a b : Bool} (h : a = b) : Ending.returned (.bool a) = .returned (.bool b) := by rw [h]
theorem hid {p : Prop} (h : p) : Hid p := h

attribute [local go_sem] run_bits run_frombits

set_option maxHeartbeats 400000 in
set_option maxRecDepth 20000 in
theorem isNaN_any (b : Nat) (hb : Fl.W b) (w : World) :
    Calls Tryz.prog 76 #[.float .f64 b] w fun e w' => e = .returned (.bool (Fl.nan b)) ∧ w' = w := by
  by_cases hn : Fl.nan b = true
  · have h := Fl.ord_nan_l b b hn
    rw [hn]; clear hn
    go_enter Tryz.func76, Tryz.ntmps76
    go_wp2
    go_ret
    exact ⟨rfl, rfl⟩
  · have h := Fl.ord_self b hb (Fl.nf b hn)
    rw [Fl.nf b hn]; clear hn
    go_enter Tryz.func76, Tryz.ntmps76
    go_wp2
    go_ret
    exact ⟨rfl, rfl⟩

set_option maxHeartbeats 400000 in
set_option maxRecDepth 20000 in
theorem canon_any (b : Nat) (hb : Fl.W b) (w : World) :
    Calls Tryz.prog 102 #[.float .f64 b] w fun e w' => e = .returned (.float .f64 (Fl.canon b)) ∧ w' = w := by
  rcases Fl.kinds b hb with hn | ⟨hn, hz⟩ | ⟨hn, h1, h2⟩ | ⟨hn, h1, h2⟩
  · have h := Fl.ord_nan_l b b hn
    rw [Fl.canon_nan b hn]; clear hn
    go_enter Tryz.func102, Tryz.ntmps102
    go_wp2
    go_ret
    exact ⟨rfl, rfl⟩
  · have h := Fl.ord_self b hb hn
    have h0 := Fl.ord_zero b hb hz
    rw [Fl.canon_zero b hz]; clear hn hz
    go_enter Tryz.func102, Tryz.ntmps102
    go_wp2
    go_ret
    exact ⟨rfl, rfl⟩
  · have h := Fl.ord_self b hb hn
    have h0 := Fl.ord_pos b h1 h2
    rw [Fl.canon_else b hn (by unfold Fl.S Fl.INF at *; omega)]; clear hn h1 h2
    go_enter Tryz.func102, Tryz.ntmps102
    go_wp2
    go_ret
    exact ⟨rfl, rfl⟩
  · have h := Fl.ord_self b hb hn
    have h0 := Fl.ord_neg b h1 h2
    rw [Fl.canon_else b hn (by omega)]; clear hn h1 h2
    go_enter Tryz.func102, Tryz.ntmps102
    go_wp2
    go_ret
    exact ⟨rfl, rfl⟩

set_option maxHeartbeats 400000 in
set_option maxRecDepth 20000 in
theorem refNan_any (b : Nat) (hb : Fl.W b) (w : World) :
    Calls Tryz.prog 63 #[.float .f64 b] w fun e w' => e = .returned (.bool (Fl.nan b)) ∧ w' = w := by
  have h := andNot_top b hb
  go_enter Tryz.func63, Tryz.ntmps63
  go_wp2
  go_ret
  refine ⟨ret_b ?_, rfl⟩
  unfold Fl.nan Fl.INF Fl.S
  rw [Bool.eq_iff_iff]; simp; omega

set_option maxHeartbeats 400000 in
set_option maxRecDepth 20000 in
theorem refBits_any (b : Nat) (hb : Fl.W b) (w : World) :
    Calls Tryz.prog 87 #[.float .f64 b] w fun e w' => e = .returned (.int .u64 (Fl.canon b : Nat)) ∧ w' = w := by
  go_enter Tryz.func87, Tryz.ntmps87
  go_wp2_with (go_at_call 63; refine (refNan_any _ ‹_› _).mono ?_; rintro e w' ⟨rfl, rfl⟩)
  all_goals go_ret
  · exact ⟨ret_i (by rw [Fl.canon_nan _ ‹_›]; rfl), rfl⟩
  · have h1 : b = Fl.S := by have := beq_iff_eq.1 ‹((b : Int) == 9223372036854775808) = true›; unfold Fl.S; omega
    exact ⟨ret_i (by rw [Fl.canon_zero _ (.inr h1)]; rfl), rfl⟩
  · have h1 : b ≠ Fl.S := by have := beq_eq_false_iff_ne.1 ‹((b : Int) == 9223372036854775808) = false›; unfold Fl.S; omega
    exact ⟨ret_i (by rw [Fl.canon_else _ ‹_› h1]), rfl⟩

set_option maxHeartbeats 400000 in
set_option maxRecDepth 20000 in
theorem refCode_any (b : Nat) (hb : Fl.W b) (w : World) :
    Calls Tryz.prog 65 #[.float .f64 b] w fun e w' => e = .returned (.int .u64 (Fl.code b : Nat)) ∧ w' = w := by
  have HB := fun w => refBits_any b hb w
  rcases Fl.code_cases b hb with ⟨_, h1, h2⟩ | ⟨c, _, h1, h3, h2⟩ | ⟨c, _, h1, h3, h4, h2⟩
  · rw [h1] at HB; rw [h2]; clear h1 h2
    have H : Hid _ := HB; clear HB
    go_enter Tryz.func65, Tryz.ntmps65
    go_wp2_with (go_at_call 87; refine (H.out _).mono ?_; rintro e w' ⟨rfl, rfl⟩)
    go_ret
    exact ⟨rfl, rfl⟩
  · rw [h1] at HB; rw [h2]; clear h1 h2
    have H : Hid _ := HB; clear HB
    have t1 : ((c : Int) == 9221120237041090561) = false := beq_eq_false_iff_ne.2 (by omega)
    have t2 : decide ((9223372036854775808 : Int) ≤ (c : Int)) = false := by simp; omega
    have g := hid h3; clear h3
    go_enter Tryz.func65, Tryz.ntmps65
    go_wp2_with (go_at_call 87; refine (H.out _).mono ?_; rintro e w' ⟨rfl, rfl⟩)
    go_ret
    have g' := g.out
    exact ⟨ret_i (by rw [IntKind.wrap_u64]; omega), rfl⟩
  · rw [h1] at HB; rw [h2]; clear h1 h2
    have H : Hid _ := HB; clear HB
    have t1 : ((c : Int) == 9221120237041090561) = false := beq_eq_false_iff_ne.2 (by omega)
    have t2 : decide ((9223372036854775808 : Int) ≤ (c : Int)) = true := by simp; omega
    have g := hid h4; clear h3 h4
    go_enter Tryz.func65, Tryz.ntmps65
    go_wp2_with (go_at_call 87; refine (H.out _).mono ?_; rintro e w' ⟨rfl, rfl⟩)
    go_ret
    have g' := g.out
    exact ⟨ret_i (by rw [IntKind.wrap_u64]; omega), rfl⟩


end Go.Proofs.YtbkbnfgjkefcmaaGreat
