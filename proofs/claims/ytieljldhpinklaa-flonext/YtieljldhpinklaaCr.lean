/- What the reference of Next and Prev returns at every float64; no condition. -/
import Derived.Test.YtieljldhpinklaaCp
namespace Go.Proofs.Ytieljldhpinklaa
open Go.RowKit
attribute [local go_sem] run_bits run_frombits

set_option maxHeartbeats 400000 in
theorem rnext_any (b : Nat) (hb : Fl.W b) (w : World) :
    Calls Try.prog 22 #[.float .f64 b] w fun e w' => e = .returned (.float .f64 (Fl.nextB b)) ∧ w' = w := by
  by_cases hn : Fl.nan b = true
  · have e : Fl.nextB b = Fl.of 4503599627370495 := by unfold Fl.nextB; rw [if_pos hn]; decide +kernel
    have HC := fun w => refCode_any b hb w
    rw [Fl.code_nan b hn] at HC
    have H : Hid _ := HC
    have HO : Hid _ := fun w => of_any 4503599627370495 (by unfold Fl.W; decide) w
    rw [e]; clear e HC hn
    go_enter Try.func22, Try.ntmps22
    go_wp2_with (first | (go_at_call 14; refine (H.out _).mono ?_; rintro e w' ⟨rfl, rfl⟩) | (go_at_call 34; refine (HO.out _).mono ?_; rintro e w' ⟨rfl, rfl⟩))
    go_ret
    exact ⟨rfl, rfl⟩
  have hn' := Fl.nf b hn
  by_cases hi : b = Fl.INF
  · have e : Fl.nextB b = b := by unfold Fl.nextB; rw [if_neg hn, if_pos hi]; exact hi.symm
    have HC := fun w => refCode_any b hb w
    rw [(Fl.code_inf_iff b hb).2 hi] at HC
    have H : Hid _ := HC
    rw [e]; clear e HC hn hn' hi
    go_enter Try.func22, Try.ntmps22
    go_wp2_with (go_at_call 14; refine (H.out _).mono ?_; rintro e w' ⟨rfl, rfl⟩)
    go_ret
    exact ⟨rfl, rfl⟩
  have HC := fun w => refCode_any b hb w
  have hcl := Fl.code_le b hb
  have hpos := Fl.code_pos b hb hn'
  have i1 := Fl.code_inf_iff b hb
  have sp := Fl.of_next b hb hn' hi
  generalize Fl.code b = c at *
  have t1 : ((c : Int) == 18442240474082181120) = false := beq_eq_false_iff_ne.2 (by intro h; exact hi (i1.1 (by omega)))
  have t2 : ((c : Int) == 0) = false := beq_eq_false_iff_ne.2 (by omega)
  have H : Hid _ := HC
  clear HC
  rcases sp with ⟨s1, s2⟩ | ⟨s1, s2, s3⟩
  · have hlt : c + 1 < 18446744073709551616 := by have := (Fl.isCode_iff _).1 s1; omega
    have HI := fun w => isCode_any (c + 1) hlt w
    have HO := fun w => of_any (c + 1) hlt w
    rw [s1] at HI
    rw [s2] at HO
    have ec : ((c + 1 : Nat) : Int) = IntKind.u64.wrap ((c : Int) + 1) := by rw [IntKind.wrap_u64]; omega
    rw [ec] at HI HO
    have HI' : Hid _ := HI
    have HO' : Hid _ := HO
    clear HI HO s1 s2 ec hlt i1 hpos hcl hi hn' hn
    go_enter Try.func22, Try.ntmps22
    go_wp2_with (first | (go_at_call 14; refine (H.out _).mono ?_; rintro e w' ⟨rfl, rfl⟩) | (go_at_call 16; refine (HI'.out _).mono ?_; rintro e w' ⟨rfl, rfl⟩) | (go_at_call 34; refine (HO'.out _).mono ?_; rintro e w' ⟨rfl, rfl⟩))
    go_ret
    exact ⟨rfl, rfl⟩
  · have HI := fun w => isCode_any (c + 1) (show c + 1 < 18446744073709551616 by omega) w
    have HO := fun w => of_any (c + 2) s3 w
    rw [s1] at HI
    rw [s2] at HO
    have ec : ((c + 1 : Nat) : Int) = IntKind.u64.wrap ((c : Int) + 1) := by rw [IntKind.wrap_u64]; omega
    have ec2 : ((c + 2 : Nat) : Int) = IntKind.u64.wrap (IntKind.u64.wrap ((c : Int) + 1) + 1) := by rw [← ec, IntKind.wrap_u64]; omega
    rw [ec] at HI
    rw [ec2] at HO
    have HI' : Hid _ := HI
    have HO' : Hid _ := HO
    clear HI HO s1 s2 s3 ec ec2 i1 hpos hcl hi hn' hn
    go_enter Try.func22, Try.ntmps22
    go_wp2_with (first | (go_at_call 14; refine (H.out _).mono ?_; rintro e w' ⟨rfl, rfl⟩) | (go_at_call 16; refine (HI'.out _).mono ?_; rintro e w' ⟨rfl, rfl⟩) | (go_at_call 34; refine (HO'.out _).mono ?_; rintro e w' ⟨rfl, rfl⟩))
    go_ret
    exact ⟨rfl, rfl⟩

set_option maxHeartbeats 400000 in
theorem rprev_any (b : Nat) (hb : Fl.W b) (w : World) :
    Calls Try.prog 24 #[.float .f64 b] w fun e w' => e = .returned (.float .f64 (Fl.prevB b)) ∧ w' = w := by
  have HZ : Hid _ := fun w => of_any 0 (by unfold Fl.W; decide) w
  by_cases hn : Fl.nan b = true
  · have e : Fl.prevB b = Fl.of 0 := by unfold Fl.prevB; rw [if_pos (.inl hn)]; decide +kernel
    have HC := fun w => refCode_any b hb w
    rw [Fl.code_nan b hn] at HC
    have H : Hid _ := HC
    rw [e]; clear e HC hn
    go_enter Try.func24, Try.ntmps24
    go_wp2_with (first | (go_at_call 14; refine (H.out _).mono ?_; rintro e w' ⟨rfl, rfl⟩) | (go_at_call 34; refine (HZ.out _).mono ?_; rintro e w' ⟨rfl, rfl⟩))
    go_ret
    exact ⟨rfl, rfl⟩
  have hn' := Fl.nf b hn
  by_cases hi : b = Fl.S + Fl.INF
  · have e : Fl.prevB b = Fl.of 0 := by unfold Fl.prevB; rw [if_pos (.inr hi)]; decide +kernel
    have HC := fun w => refCode_any b hb w
    rw [(Fl.code_ninf_iff b hb).2 hi] at HC
    have H : Hid _ := HC
    rw [e]; clear e HC hn hn' hi
    go_enter Try.func24, Try.ntmps24
    go_wp2_with (first | (go_at_call 14; refine (H.out _).mono ?_; rintro e w' ⟨rfl, rfl⟩) | (go_at_call 34; refine (HZ.out _).mono ?_; rintro e w' ⟨rfl, rfl⟩))
    go_ret
    exact ⟨rfl, rfl⟩
  have HC := fun w => refCode_any b hb w
  have hcl := Fl.code_le b hb
  have hpos := Fl.code_pos b hb hn'
  have i1 := Fl.code_ninf_iff b hb
  have sp := Fl.of_prev b hb hn' hi
  generalize Fl.code b = c at *
  have t1 : ((c : Int) == 4503599627370495) = false := beq_eq_false_iff_ne.2 (by intro h; exact hi (i1.1 (by omega)))
  have t2 : ((c : Int) == 0) = false := beq_eq_false_iff_ne.2 (by omega)
  have H : Hid _ := HC
  clear HC
  rcases sp with ⟨s1, s2⟩ | ⟨s1, s2, s3⟩
  · have hlt : c - 1 < 18446744073709551616 := by omega
    have HI := fun w => isCode_any (c - 1) hlt w
    have HO := fun w => of_any (c - 1) hlt w
    rw [s1] at HI
    rw [s2] at HO
    have ec : ((c - 1 : Nat) : Int) = IntKind.u64.wrap ((c : Int) - 1) := by rw [IntKind.wrap_u64]; omega
    rw [ec] at HI HO
    have HI' : Hid _ := HI
    have HO' : Hid _ := HO
    clear HI HO s1 s2 ec hlt i1 hpos hcl hi hn' hn
    go_enter Try.func24, Try.ntmps24
    go_wp2_with (first | (go_at_call 14; refine (H.out _).mono ?_; rintro e w' ⟨rfl, rfl⟩) | (go_at_call 16; refine (HI'.out _).mono ?_; rintro e w' ⟨rfl, rfl⟩) | (go_at_call 34; refine (HO'.out _).mono ?_; rintro e w' ⟨rfl, rfl⟩))
    go_ret
    exact ⟨rfl, rfl⟩
  · have HI := fun w => isCode_any (c - 1) (show c - 1 < 18446744073709551616 by omega) w
    have HO := fun w => of_any (c - 2) (show c - 2 < 18446744073709551616 by omega) w
    rw [s1] at HI
    rw [s2] at HO
    have ec : ((c - 1 : Nat) : Int) = IntKind.u64.wrap ((c : Int) - 1) := by rw [IntKind.wrap_u64]; omega
    have ec2 : ((c - 2 : Nat) : Int) = IntKind.u64.wrap (IntKind.u64.wrap ((c : Int) - 1) - 1) := by rw [← ec, IntKind.wrap_u64]; omega
    rw [ec] at HI
    rw [ec2] at HO
    have HI' : Hid _ := HI
    have HO' : Hid _ := HO
    clear HI HO s1 s2 s3 ec ec2 i1 hpos hcl hi hn' hn
    go_enter Try.func24, Try.ntmps24
    go_wp2_with (first | (go_at_call 14; refine (H.out _).mono ?_; rintro e w' ⟨rfl, rfl⟩) | (go_at_call 16; refine (HI'.out _).mono ?_; rintro e w' ⟨rfl, rfl⟩) | (go_at_call 34; refine (HO'.out _).mono ?_; rintro e w' ⟨rfl, rfl⟩))
    go_ret
    exact ⟨rfl, rfl⟩

end Go.Proofs.Ytieljldhpinklaa
