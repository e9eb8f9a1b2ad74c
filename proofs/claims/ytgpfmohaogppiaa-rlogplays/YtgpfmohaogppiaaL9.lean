/- The example that the laws of layer 16 begin with, and the law RlogNewer; no condition. -/
import Derived.Test.YtgpfmohaogppiaaL8
namespace Go.Proofs.Ytgpfmohaogppiaa
open Go.RowKit Go.Lib
set_option linter.unusedVariables false
set_option linter.unusedSimpArgs false
set_option maxRecDepth 20000
set_option maxHeartbeats 2000000 in
set_option maxRecDepth 20000 in
theorem sameInts_eq (u v : Value) (n : Nat) (f : Nat → Int) (w : World) (hu : NRowL w u n f) (hv : NRowL w v n f) :
    Calls Try.prog 36 #[u, v] w fun e w' => e = .returned (.bool true) ∧ Old w w' := by
  obtain ⟨hn, p, c, rfl, h1, h2, hc⟩ := hu
  obtain ⟨_, p2, c2, rfl, h3, h4, hc2⟩ := hv
  have HX := hid hc
  have HY := hid hc2
  have hmm : (n : Int) ≤ 17592186044000 := by omega
  clear hc hc2
  go_enter Try.func36, Try.ntmps36
  go_wp2
  go_loopw [5] (fun i wx => ∃ k : Nat, k ≤ n ∧ i = .int .i64 k ∧ Old w wx) (fun i _ => n - (intOf i).toNat)
  case atStart => exact ⟨0, Nat.zero_le _, rfl, Old.refl _⟩
  case round =>
    obtain ⟨k, hk, rfl, hup⟩ := hrel
    by_cases hlt : k < n
    · obtain ⟨b1, o1, e1, cx0⟩ := HX.out k hlt
      obtain ⟨b2, o2, e2, cy0⟩ := HY.out k hlt
      subst e1 e2
      have cx := hup.keep cx0
      have cy := hup.keep cy0
      have l1 : (0 : Int) ≤ (k : Int) := by omega
      have l2 : (k : Int) < (n : Int) := by omega
      generalize f k = x at *
      have t : (x != x) = false := by simp
      clear HX HY cx0 cy0
      go_wp2
      go_quiet (fail)
      go_wp2
      exact ⟨⟨k + 1, hlt, by go_num, hup.drewN _⟩, by simp [intOf]; omega⟩
    · obtain rfl : n = k := by omega
      go_wp2
      go_ret
      exact ⟨rfl, hup⟩
set_option maxHeartbeats 2000000 in
set_option maxRecDepth 20000 in
theorem same_eq (u1 u2 v1 v2 : Value) (n1 n2 : Nat) (f1 f2 : Nat → Int) (w : World) (hu1 : NRowL w u1 n1 f1) (hu2 : NRowL w u2 n2 f2) (hv1 : NRowL w v1 n1 f1) (hv2 : NRowL w v2 n2 f2) :
    Calls Try.prog 19 #[.agg #[u1, u2], .agg #[v1, v2]] w fun e w' => e = .returned (.bool true) ∧ Old w w' := by
  have H1 := hid (fun (W : World) (u : Old w W) => sameInts_eq u1 v1 n1 f1 W (hu1.old u) (hv1.old u))
  have H2 := hid (fun (W : World) (u : Old w W) => sameInts_eq u2 v2 n2 f2 W (hu2.old u) (hv2.old u))
  obtain ⟨_, p1, c1, rfl, _⟩ := hu1
  obtain ⟨_, p2, c2, rfl, _⟩ := hu2
  obtain ⟨_, q1, d1, rfl, _⟩ := hv1
  obtain ⟨_, q2, d2, rfl, _⟩ := hv2
  have tok1 : True := trivial
  go_enter Try.func19, Try.ntmps19
  go_upto_region 1 with (fail)
  generalize hw1 : ((w.alloc (.cells #[.slice p1 n1 c1, .slice p2 n2 c2] 24)).alloc (.cells #[.slice q1 n1 d1, .slice q2 n2 d2] 24)) = w1
  have O1 := hid (show Old w w1 from by rw [← hw1]; exact ((Old.refl _).alloc _).alloc _)
  have x0 : w1.cell? ⟨w.heap.size, 0, none⟩ = some (.slice p1 n1 c1) := by rw [← hw1]; exact ((Old.refl _).alloc _).keep (by simp)
  have x1 : w1.cell? ⟨w.heap.size, 1, none⟩ = some (.slice p2 n2 c2) := by rw [← hw1]; exact ((Old.refl _).alloc _).keep (by simp)
  have y0 : w1.cell? ⟨w.heap.size + 1, 0, none⟩ = some (.slice q1 n1 d1) := by rw [← hw1]; simp
  have y1 : w1.cell? ⟨w.heap.size + 1, 1, none⟩ = some (.slice q2 n2 d2) := by rw [← hw1]; simp
  clear hw1
  generalize w.heap.size + 1 = b2 at *
  generalize w.heap.size = b1 at *
  go_wp2_with (first | (go_at_call 36; have _t := tok1; clear tok1 _t; refine (H1.out _ O1.out).mono ?_; rintro e w2 ⟨rfl, o2⟩; have O2 := hid (O1.out.trans o2); have x1' := o2.keep x1; have y1' := o2.keep y1; clear o2) | (go_at_call 36; refine (H2.out _ O2.out).mono ?_; rintro e w3 ⟨rfl, o3⟩; have O3 := hid (O2.out.trans o3); clear o3))
  go_ret
  exact ⟨rfl, O3.out⟩
end Go.Proofs.Ytgpfmohaogppiaa
