/- What Nextafter towards an infinity, flo.Next and flo.Prev return at every float64; no condition but those of the call. -/
import Derived.Test.YtbkbnfgjkefcmaaGreatCp
namespace Go.Proofs.YtbkbnfgjkefcmaaGreat
open Go.RowKit
attribute [local go_sem] run_bits run_frombits

set_option maxHeartbeats 400000 in
set_option maxRecDepth 20000 in
theorem copysign_tiny_pos (w : World) : Calls Tryz.prog 120 #[.float .f64 1, .float .f64 9218868437227405312] w fun e w' => e = .returned (.float .f64 1) ∧ w' = w := by
  have k1 : bits .andNot .u64 1 9223372036854775808 = 1 := by decide +kernel
  have k2 : bits .and .u64 9218868437227405312 9223372036854775808 = 0 := by decide +kernel
  have k3 : bits .or .u64 1 0 = 1 := by decide +kernel
  go_enter Tryz.func120, Tryz.ntmps120
  go_wp2
  go_ret
  exact ⟨rfl, rfl⟩
set_option maxHeartbeats 400000 in
set_option maxRecDepth 20000 in
theorem copysign_tiny_neg (w : World) : Calls Tryz.prog 120 #[.float .f64 1, .float .f64 18442240474082181120] w fun e w' => e = .returned (.float .f64 9223372036854775809) ∧ w' = w := by
  have k1 : bits .andNot .u64 1 9223372036854775808 = 1 := by decide +kernel
  have k2 : bits .and .u64 18442240474082181120 9223372036854775808 = 9223372036854775808 := by decide +kernel
  have k3 : bits .or .u64 1 9223372036854775808 = 9223372036854775809 := by decide +kernel
  go_enter Tryz.func120, Tryz.ntmps120
  go_wp2
  go_ret
  exact ⟨rfl, rfl⟩

set_option maxHeartbeats 400000 in
set_option maxRecDepth 20000 in
theorem nextafter_up (b : Nat) (hb : Fl.W b) (hn : Fl.nan b = false) (w : World) :
    Calls Tryz.prog 112 #[.float .f64 b, .float .f64 9218868437227405312] w fun e w' => e = .returned (.float .f64 (Fl.upB b)) ∧ w' = w := by
  have o2 := Fl.ord_ii
  have o1 := Fl.ord_self b hb hn
  have hb' : b < 18446744073709551616 := hb
  by_cases hi : b = Fl.INF
  · have e : Fl.upB b = b := by unfold Fl.upB; rw [if_pos hi]; exact hi.symm
    have o3 : FloatKind.f64.format.order b 9218868437227405312 = some .eq := by rw [hi]; exact o2
    rw [e]; clear e hi hn hb hb'
    go_enter Tryz.func112, Tryz.ntmps112
    go_wp2_with (first | (go_at_call 120; refine (copysign_tiny_pos _).mono ?_; rintro e w' ⟨rfl, rfl⟩) | go_in)
    go_ret
    exact ⟨rfl, rfl⟩
  have o3 := (Fl.ord_inf b hb hn hi).1
  have o4 := (Fl.ord_inf b hb hn hi).2
  rcases Fl.kinds b hb with hn' | ⟨_, hz⟩ | ⟨_, h1, h2⟩ | ⟨_, h1, h2⟩
  · rw [hn] at hn'; cases hn'
  · have e : Fl.upB b = 1 := by unfold Fl.upB; rw [if_neg hi, if_pos hz]
    have o5 := Fl.ord_zero b hb hz
    rw [e]; clear e hi hn hb hz hb'
    go_enter Tryz.func112, Tryz.ntmps112
    go_wp2_with (first | (go_at_call 120; refine (copysign_tiny_pos _).mono ?_; rintro e w' ⟨rfl, rfl⟩) | go_in)
    go_ret
    exact ⟨rfl, rfl⟩
  · have e : Fl.upB b = b + 1 := by unfold Fl.upB; rw [if_neg hi, if_neg (by unfold Fl.S Fl.INF at *; omega), if_pos (by unfold Fl.S Fl.INF at *; omega)]
    have o5 := Fl.ord_pos b h1 h2
    have g := hid h2
    rw [e]; clear e hi hn hb h1 h2 hb'
    go_enter Tryz.func112, Tryz.ntmps112
    go_wp2_with (first | (go_at_call 120; refine (copysign_tiny_pos _).mono ?_; rintro e w' ⟨rfl, rfl⟩) | go_in)
    go_ret
    have g' := g.out
    exact ⟨ret_f (by rw [IntKind.wrap_u64]; unfold Fl.INF at g'; omega), rfl⟩
  · have e : Fl.upB b = b - 1 := by unfold Fl.upB; rw [if_neg hi, if_neg (by unfold Fl.S Fl.INF at *; omega), if_neg (by unfold Fl.S Fl.INF at *; omega)]
    have o5 := Fl.ord_neg b h1 h2
    have g := hid (show Fl.S < b ∧ b < 18446744073709551616 from ⟨h1, hb'⟩)
    rw [e]; clear e hi hn hb h1 h2 hb'
    go_enter Tryz.func112, Tryz.ntmps112
    go_wp2_with (first | (go_at_call 120; refine (copysign_tiny_pos _).mono ?_; rintro e w' ⟨rfl, rfl⟩) | go_in)
    go_ret
    have g' := g.out
    exact ⟨ret_f (by rw [IntKind.wrap_u64]; unfold Fl.S at g'; omega), rfl⟩

set_option maxHeartbeats 400000 in
set_option maxRecDepth 20000 in
theorem nextafter_down (b : Nat) (hb : Fl.W b) (hn : Fl.nan b = false) (hi : b ≠ Fl.S + Fl.INF) (w : World) :
    Calls Tryz.prog 112 #[.float .f64 b, .float .f64 18442240474082181120] w fun e w' => e = .returned (.float .f64 (Fl.downB b)) ∧ w' = w := by
  have o2 := Fl.ord_nn
  have o1 := Fl.ord_self b hb hn
  have hb' : b < 18446744073709551616 := hb
  have o3 := (Fl.ord_ninf b hb hn hi).1
  have o4 := (Fl.ord_ninf b hb hn hi).2
  rcases Fl.kinds b hb with hn' | ⟨_, hz⟩ | ⟨_, h1, h2⟩ | ⟨_, h1, h2⟩
  · rw [hn] at hn'; cases hn'
  · have e : Fl.downB b = 9223372036854775809 := by unfold Fl.downB; rw [if_neg hi, if_pos hz]; rfl
    have o5 := Fl.ord_zero b hb hz
    rw [e]; clear e hi hn hb hz hb'
    go_enter Tryz.func112, Tryz.ntmps112
    go_wp2_with (first | (go_at_call 120; refine (copysign_tiny_neg _).mono ?_; rintro e w' ⟨rfl, rfl⟩) | go_in)
    go_ret
    exact ⟨rfl, rfl⟩
  · have e : Fl.downB b = b - 1 := by unfold Fl.downB; rw [if_neg hi, if_neg (by unfold Fl.S Fl.INF at *; omega), if_pos (by unfold Fl.S Fl.INF at *; omega)]
    have o5 := Fl.ord_pos b h1 h2
    have g := hid (show 0 < b ∧ b < 18446744073709551616 from ⟨h1, hb'⟩)
    rw [e]; clear e hi hn hb h1 h2 hb'
    go_enter Tryz.func112, Tryz.ntmps112
    go_wp2_with (first | (go_at_call 120; refine (copysign_tiny_neg _).mono ?_; rintro e w' ⟨rfl, rfl⟩) | go_in)
    go_ret
    have g' := g.out
    exact ⟨ret_f (by rw [IntKind.wrap_u64]; omega), rfl⟩
  · have e : Fl.downB b = b + 1 := by unfold Fl.downB; rw [if_neg hi, if_neg (by unfold Fl.S Fl.INF at *; omega), if_neg (by unfold Fl.S Fl.INF at *; omega)]
    have o5 := Fl.ord_neg b h1 h2
    have g := hid h2
    rw [e]; clear e hi hn hb h1 h2 hb'
    go_enter Tryz.func112, Tryz.ntmps112
    go_wp2_with (first | (go_at_call 120; refine (copysign_tiny_neg _).mono ?_; rintro e w' ⟨rfl, rfl⟩) | go_in)
    go_ret
    have g' := g.out
    exact ⟨ret_f (by rw [IntKind.wrap_u64]; unfold Fl.S Fl.INF at g'; omega), rfl⟩

set_option maxHeartbeats 400000 in
set_option maxRecDepth 20000 in
theorem next_any (b : Nat) (hb : Fl.W b) (w : World) :
    Calls Tryz.prog 101 #[.float .f64 b] w fun e w' => e = .returned (.float .f64 (Fl.nextB b)) ∧ w' = w := by
  by_cases hn : Fl.nan b = true
  · have e : Fl.nextB b = 18442240474082181120 := by unfold Fl.nextB; rw [if_pos hn]; rfl
    rw [e]; clear e
    go_enter Tryz.func101, Tryz.ntmps101
    go_wp2_with (first | (go_at_call 76; refine (isNaN_any _ ‹_› _).mono ?_; rintro e w' ⟨rfl, rfl⟩) | (go_at_call 111; refine (inf_neg _).mono ?_; rintro e w' ⟨rfl, rfl⟩))
    go_ret
    exact ⟨rfl, rfl⟩
  · have hn' := Fl.nf b hn
    have c := Fl.canon_up b hb hn'
    have hu : Fl.W (Fl.upB b) := c.2
    rw [← c.1]; clear c hn
    go_enter Tryz.func101, Tryz.ntmps101
    go_wp2_with (first | (go_at_call 76; refine (isNaN_any _ ‹_› _).mono ?_; rintro e w' ⟨rfl, rfl⟩) | (go_at_call 111; refine (inf_pos _).mono ?_; rintro e w' ⟨rfl, rfl⟩) | (go_at_call 112; refine (nextafter_up b ‹_› ‹_› _).mono ?_; rintro e w' ⟨rfl, rfl⟩) | (go_at_call 102; refine (canon_any (Fl.upB b) ‹_› _).mono ?_; rintro e w' ⟨rfl, rfl⟩))
    go_ret
    exact ⟨rfl, rfl⟩

set_option maxHeartbeats 400000 in
set_option maxRecDepth 20000 in
theorem prev_any (b : Nat) (hb : Fl.W b) (w : World) :
    Calls Tryz.prog 103 #[.float .f64 b] w fun e w' => e = .returned (.float .f64 (Fl.prevB b)) ∧ w' = w := by
  by_cases hn : Fl.nan b = true
  · have e : Fl.prevB b = 9221120237041090561 := by unfold Fl.prevB; rw [if_pos (.inl hn)]
    have hi : Hid (b ≠ Fl.S + Fl.INF) := by rintro rfl; exact absurd hn (by decide +kernel)
    rw [e]; clear e
    go_enter Tryz.func103, Tryz.ntmps103
    go_wp2_with (first | (go_at_call 76; refine (isNaN_any _ ‹_› _).mono ?_; rintro e w' ⟨rfl, rfl⟩) | (go_at_call 92; refine (isInf_neg _ ‹_› _).mono ?_; rintro e w' ⟨rfl, rfl⟩) | (go_at_call 111; refine (inf_neg _).mono ?_; rintro e w' ⟨rfl, rfl⟩) | (go_at_call 112; refine (nextafter_down b ‹_› ‹_› hi.out _).mono ?_; rintro e w' ⟨rfl, rfl⟩) | (go_at_call 102; refine (canon_any (Fl.downB b) ‹_› _).mono ?_; rintro e w' ⟨rfl, rfl⟩) | (go_at_call 113; go_in))
    go_ret
    exact ⟨rfl, rfl⟩
  · have hn' := Fl.nf b hn
    by_cases h : b = Fl.S + Fl.INF
    · have e : Fl.prevB b = 9221120237041090561 := by unfold Fl.prevB; rw [if_pos (.inr h)]
      have t : decide (b = Fl.S + Fl.INF) = true := by simpa using h
      have hi : Hid True := trivial
      rw [e]; clear e h hn
      go_enter Tryz.func103, Tryz.ntmps103
      go_wp2_with (first | (go_at_call 76; refine (isNaN_any _ ‹_› _).mono ?_; rintro e w' ⟨rfl, rfl⟩) | (go_at_call 92; refine (isInf_neg _ ‹_› _).mono ?_; rintro e w' ⟨rfl, rfl⟩) | (go_at_call 111; refine (inf_neg _).mono ?_; rintro e w' ⟨rfl, rfl⟩) | (go_at_call 112; refine (nextafter_down b ‹_› ‹_› hi.out _).mono ?_; rintro e w' ⟨rfl, rfl⟩) | (go_at_call 102; refine (canon_any (Fl.downB b) ‹_› _).mono ?_; rintro e w' ⟨rfl, rfl⟩) | (go_at_call 113; go_in))
      go_ret
      exact ⟨rfl, rfl⟩
    · have c := Fl.canon_down b hb hn' h
      have hu : Fl.W (Fl.downB b) := c.2
      have t : decide (b = Fl.S + Fl.INF) = false := by simpa using h
      have hi : Hid (b ≠ Fl.S + Fl.INF) := h
      rw [← c.1]; clear c hn h
      go_enter Tryz.func103, Tryz.ntmps103
      go_wp2_with (first | (go_at_call 76; refine (isNaN_any _ ‹_› _).mono ?_; rintro e w' ⟨rfl, rfl⟩) | (go_at_call 92; refine (isInf_neg _ ‹_› _).mono ?_; rintro e w' ⟨rfl, rfl⟩) | (go_at_call 111; refine (inf_neg _).mono ?_; rintro e w' ⟨rfl, rfl⟩) | (go_at_call 112; refine (nextafter_down b ‹_› ‹_› hi.out _).mono ?_; rintro e w' ⟨rfl, rfl⟩) | (go_at_call 102; refine (canon_any (Fl.downB b) ‹_› _).mono ?_; rintro e w' ⟨rfl, rfl⟩) | (go_at_call 113; go_in))
      go_ret
      exact ⟨rfl, rfl⟩

end Go.Proofs.YtbkbnfgjkefcmaaGreat
