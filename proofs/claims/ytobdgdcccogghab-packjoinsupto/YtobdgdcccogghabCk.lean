/- What the first functions of flo and of its reference return at every float64: IsNaN, Canon, Code, Nan, Bits, Same, Form; no condition. -/
import Derived.Test.YtobdgdcccogghabBa
import Derived.Test.YtobdgdcccogghabFl
import Derived.Test.YtobdgdcccogghabBt
import Derived.WalkKit
import Derived.WalkSpells
import Derived.WalkLawsBesides
namespace Go.Proofs.Ytobdgdcccogghab
open Go.RowKit

theorem run_bits (b : Nat) (w : World) : (callFunc 37 #[.float .f64 b]).run Try.prog w = .ok (.value (.int .u64 (b : Int))) w := by kernel_rfl
theorem run_frombits (n : Int) (w : World) : (callFunc 43 #[.int .u64 n]).run Try.prog w = .ok (.value (.float .f64 n.toNat)) w := by kernel_rfl
theorem ret_f {a b : Nat} (h : a = b) : Ending.returned (.float .f64 a) = .returned (.float .f64 b) := by rw [h]

attribute [local go_sem] run_bits run_frombits

set_option maxHeartbeats 400000 in
theorem isNaN_any (b : Nat) (hb : Fl.W b) (w : World) :
    Calls Try.prog 36 #[.float .f64 b] w fun e w' => e = .returned (.bool (Fl.nan b)) ∧ w' = w := by
  by_cases hn : Fl.nan b = true
  · have h := Fl.ord_nan_l b b hn
    rw [hn]; clear hn
    go_enter Try.func36, Try.ntmps36
    go_wp2
    go_ret
    exact ⟨rfl, rfl⟩
  · have h := Fl.ord_self b hb (Fl.nf b hn)
    rw [Fl.nf b hn]; clear hn
    go_enter Try.func36, Try.ntmps36
    go_wp2
    go_ret
    exact ⟨rfl, rfl⟩

set_option maxHeartbeats 400000 in
theorem canon_any (b : Nat) (hb : Fl.W b) (w : World) :
    Calls Try.prog 38 #[.float .f64 b] w fun e w' => e = .returned (.float .f64 (Fl.canon b)) ∧ w' = w := by
  rcases Fl.kinds b hb with hn | ⟨hn, hz⟩ | ⟨hn, h1, h2⟩ | ⟨hn, h1, h2⟩
  · have h := Fl.ord_nan_l b b hn
    rw [Fl.canon_nan b hn]; clear hn
    go_enter Try.func38, Try.ntmps38
    go_wp2
    go_ret
    exact ⟨rfl, rfl⟩
  · have h := Fl.ord_self b hb hn
    have h0 := Fl.ord_zero b hb hz
    rw [Fl.canon_zero b hz]; clear hn hz
    go_enter Try.func38, Try.ntmps38
    go_wp2
    go_ret
    exact ⟨rfl, rfl⟩
  · have h := Fl.ord_self b hb hn
    have h0 := Fl.ord_pos b h1 h2
    rw [Fl.canon_else b hn (by unfold Fl.S Fl.INF at *; omega)]; clear hn h1 h2
    go_enter Try.func38, Try.ntmps38
    go_wp2
    go_ret
    exact ⟨rfl, rfl⟩
  · have h := Fl.ord_self b hb hn
    have h0 := Fl.ord_neg b h1 h2
    rw [Fl.canon_else b hn (by omega)]; clear hn h1 h2
    go_enter Try.func38, Try.ntmps38
    go_wp2
    go_ret
    exact ⟨rfl, rfl⟩

set_option maxHeartbeats 400000 in
theorem code_any (b : Nat) (hb : Fl.W b) (w : World) :
    Calls Try.prog 28 #[.float .f64 b] w fun e w' => e = .returned (.int .u64 (Fl.code b : Nat)) ∧ w' = w := by
  go_enter Try.func28, Try.ntmps28
  go_wp2_with (first | (go_at_call 36; refine (isNaN_any _ ‹_› _).mono ?_; rintro e w' ⟨rfl, rfl⟩) | (go_at_call 38; refine (canon_any _ ‹_› _).mono ?_; rintro e w' ⟨rfl, rfl⟩))
  all_goals go_ret
  · exact ⟨ret_i (by rw [Fl.code_nan _ ‹_›]; rfl), rfl⟩
  · have hc := Fl.canon_lt b hb
    have h1 := lo_of_and _ hc ‹_›
    exact ⟨ret_i (by rw [or_top _ h1, Fl.code_lo b hb ‹_› h1]), rfl⟩
  · have hc := Fl.canon_lt b hb
    have h1 := hi_of_and _ ‹_›
    exact ⟨ret_i (by rw [xor_max _ hc, Fl.code_hi b hb ‹_› h1]), rfl⟩


end Go.Proofs.Ytobdgdcccogghab
