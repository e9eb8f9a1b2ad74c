/- The walk of PackPuts; conditions: at most 1048576 values. -/
import Derived.Test.YtbmbjadmojehiaaRp
import Derived.Test.YtbmbjadmojehiaaPo
namespace Go.Proofs.Ytbmbjadmojehiaa
open Go.RowKit
set_option linter.unusedVariables false
attribute [local go_sem] run_bits run_frombits run_store_float
theorem putL_same (f : Nat → PV) (n : Nat) (L M : List Nat) (a : firstE f n = 0 → L = putL encV f n) (b : firstE f n ≠ 0 → L = []) (c : firstE f n = 0 → M = putL encV f n) (d : firstE f n ≠ 0 → M = []) : L = M := by
  by_cases h : firstE f n = 0
  · rw [a h, c h]
  · rw [b h, d h]
set_option maxHeartbeats 2000000 in
theorem puts_walk (v0 : Value) (n : Nat) (f : Nat → PV) (w : World) (h0 : VRow w v0 n f) (b0 : n ≤ 1048576) :
    Calls Try.prog 3 #[v0] w fun e w' => e = .returned (.bool true) ∧ Up w w' := by
  obtain ⟨a, c, rfl, hc⟩ := h0.open
  have HP := hid (fun (W : World) (hW : Up w W) => put_row a n c f (by omega) W (fun i hi => by obtain ⟨b, off, q1, q2, q3⟩ := hc i hi; exact ⟨b, off, q1, q2.up hW, q3.up hW⟩))
  have HO := hid (fun (W : World) (hW : Up w W) => of_any a n c f b0 W (fun i hi => by obtain ⟨b, off, q1, q2, q3⟩ := hc i hi; exact ⟨b, off, q1, q2.up hW, q3.up hW⟩))
  have HR := hid (fun (B : Nat) (W : World) (v : Value) (hW : Up w W) (hv : OwnR B W v n f) => show Calls Try.prog 6 #[v] W fun e w' => ∃ v' L', e = .returned (.tuple #[v', .int .i64 (firstE f n : Nat)]) ∧ OwnL W.heap.size w' v' L' ∧ (firstE f n = 0 → L' = putL encV f n) ∧ (firstE f n ≠ 0 → L' = []) ∧ Up W w' from by
    obtain ⟨a2, c2, rfl, hc2⟩ := hv.shape
    exact refPut_row a2 n c2 f b0 W (fun i hi => by obtain ⟨b, off, q1, q2⟩ := hc2 i hi; obtain ⟨_, _, _, _, q3⟩ := hc i hi; exact ⟨b, off, q1, q2, q3.up hW⟩))
  have HE := hid (putL_same f n)
  clear hc h0 b0
  generalize firstE f n = E at *
  generalize putL encV f n = PL at *
  go_enter Try.func3, Try.ntmps3
  go_wp2_with (first | (go_at_call 4; refine (putting_any _).mono ?_; rintro e w1 ⟨rfl, u1⟩; have U1 := hid u1; clear u1) | (go_at_call 5; refine (HP.out _ U1.out).mono ?_; rintro e w2 ⟨v2, L2, rfl, o2, p2, q2, u2⟩; have O2 := hid o2; have P2 := hid p2; have Q2 := hid q2; have U2 := hid (Up.trans U1.out u2); clear o2 p2 q2 u2) | (go_at_call 7; refine (HO.out _ U2.out).mono ?_; rintro e w3 ⟨v3, rfl, o3, u3⟩; have O3 := hid o3; have V3 := hid u3; have U3 := hid (Up.trans U2.out u3); clear o3 u3) | (go_at_call 6; refine (HR.out _ _ _ U3.out O3.out).mono ?_; rintro e w4 ⟨v4, L4, rfl, o4, p4, q4, u4⟩; have O4 := hid o4; have V4 := hid (Up.trans V3.out u4); have U4 := hid (Up.trans U3.out u4); have hL := hid (HE.out _ _ P2.out Q2.out p4 q4); clear o4 p4 q4 u4) | (go_at_call 8; refine (sameBytes_eq _ _ L4.length (gd L4) (gd L4) _ (OwnB.row (by have := O2.out; rw [hL.out] at this; exact OwnB.up this V4.out)) (OwnB.row O4.out) (fun _ _ => rfl)).mono ?_; rintro e w5 ⟨rfl, k5, rfl⟩))
  go_ret
  exact ⟨rfl, U4.out.drewN _⟩
end Go.Proofs.Ytbmbjadmojehiaa
