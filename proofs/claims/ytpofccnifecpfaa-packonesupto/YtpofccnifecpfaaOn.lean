/- The walk of PackOnes; conditions: at most 1048576 kinds. -/
import Derived.Test.YtpofccnifecpfaaRy
namespace Go.Proofs.Ytpofccnifecpfaa
open Go.RowKit
set_option linter.unusedVariables false
attribute [local go_sem] run_bits run_frombits run_store_float
theorem byL_row {B : Nat} {w : World} {v : Value} {L : List Nat} {n : Nat} {x : Nat → Nat} (h : OwnL B w v L) (e : L = byL n x) : ByRow w v n x := by
  subst e
  have h2 := OwnB.row h
  rw [byL_len] at h2
  rcases h2 with h2 | ⟨hn, hm, b, off, cap, hv, hc, hcp⟩
  · exact .inl h2
  · exact .inr ⟨hn, hm, b, off, cap, hv, fun i hi => by have := hc i hi; rw [gd_byL n x i hi] at this; exact this, hcp⟩
set_option maxHeartbeats 2000000 in
theorem ones_walk (v0 : Value) (n : Nat) (x : Nat → Nat) (v1 : Value) (m : Nat) (ks : Nat → Int) (w : World) (w0 : ByRow w v0 n x) (w1 : KRow w v1 m ks) (b1 : m ≤ 1048576) :
    Calls Try.prog 3 #[v0, v1] w fun e w' => e = .returned (.bool true) ∧ Up w w' := by
  obtain ⟨a, c, rfl⟩ := w0.slice
  obtain ⟨ka, kc, rfl, hka⟩ := w1
  have HG := hid (fun (W : World) (hW : Up w W) => get_any a n c m kc ka x ks W (w0.up hW) (hka.up hW) (by omega))
  have HW0 := hid w0
  have hx := hid w0.lt
  clear w0 hka
  go_enter Try.func3, Try.ntmps3
  go_wp2_with (first | (go_at_call 7; refine (putting_any _).mono ?_; rintro e w1 ⟨rfl, u1⟩; have U1 := hid u1; clear u1) | (go_at_call 8; refine (getting_any _).mono ?_; rintro e w2 ⟨rfl, u2⟩; have U2 := hid (Up.trans U1.out u2); clear u2) | (go_at_call 9; fail))
  refine (HG.out _ U2.out).mono ?_
  rintro e w3 ⟨⟨_, rfl⟩ | ⟨hu, hz, hp, v, f, rfl, ho, he⟩ | ⟨_, _, rfl⟩, u3⟩
  · have U3 := hid (Up.trans U2.out u3)
    clear u3 HG
    go_wp2
    go_ret
    exact ⟨rfl, U3.out⟩
  · have U3 := hid (Up.trans U2.out u3)
    have hq : ∀ i, i < m → 1 ≤ ks i ∧ ks i ≤ 4 := fun i hi => by
      by_cases h : ks i < 1 ∨ 4 < ks i
      · exact absurd ⟨i, hi, h⟩ hu
      · omega
    obtain ⟨h1, h2⟩ := rows_back ks x n m f hx.out hq (fun i hi => ⟨hz i hi, (he i hi).1⟩) m (Nat.le_refl _)
    rw [hp] at h1
    obtain ⟨va, vc, rfl, hs⟩ := ho.shape
    have HP := hid (put_row va m vc f (by omega) w3 (fun i hi => by obtain ⟨b, off, q1, q2⟩ := hs i hi; exact ⟨b, off, q1, q2, (he i hi).2.1⟩))
    rw [h2] at HP
    have H1 := hid h1
    clear u3 HG hu hz hp ho he hs hq h1 h2
    go_wp2_with (first | (go_at_call 10; refine HP.out.mono ?_; rintro e w4 ⟨v4, L4, rfl, o4, p4, q4, u4⟩; have HS := hid (sameBytes_eq _ _ n x x w4 (HW0.out.up (Up.trans U3.out u4)) (byL_row o4 ((p4 (by first | trivial | rfl)).trans H1.out)) (fun _ _ => rfl)); have U4 := hid (Up.trans U3.out u4); clear o4 p4 q4 u4) | (go_at_call 11; refine HS.out.mono ?_; rintro e w5 ⟨rfl, dn, rfl⟩))
    go_ret
    exact ⟨rfl, U4.out.drewN _⟩
  · have U3 := hid (Up.trans U2.out u3)
    clear u3 HG
    go_wp2
    go_ret
    exact ⟨rfl, U3.out⟩
end Go.Proofs.Ytpofccnifecpfaa
