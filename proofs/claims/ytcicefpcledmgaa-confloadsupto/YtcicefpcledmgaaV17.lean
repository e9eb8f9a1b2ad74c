/- The parts of the example that the laws of layer 15 begin with; no condition. -/
import Derived.Test.YtcicefpcledmgaaV11
import Derived.Test.YtcicefpcledmgaaV13
import Derived.Test.YtcicefpcledmgaaV16
namespace Go.Proofs.Ytcicefpcledmgaa
open Go.RowKit Go.Lib
set_option linter.unusedVariables false
set_option linter.unusedSimpArgs false
set_option maxRecDepth 20000
def iota1 : Nat → Int := fun i => (i : Int) + 1
def iota4 : Nat → Int := fun i => (i : Int) + 4
set_option maxHeartbeats 2000000 in
set_option maxRecDepth 20000 in
theorem sameInts_eq (u v : Value) (n : Nat) (f : Nat → Int) (w : World) (hu : NRowL w u n f) (hv : NRowL w v n f) :
    Calls Try.prog 17 #[u, v] w fun e w' => e = .returned (.bool true) ∧ Old w w' := by
  obtain ⟨hn, p, c, rfl, h1, h2, hc⟩ := hu
  obtain ⟨_, p2, c2, rfl, h3, h4, hc2⟩ := hv
  have HX := hid hc
  have HY := hid hc2
  have hmm : (n : Int) ≤ 17592186044000 := by omega
  clear hc hc2
  go_enter Try.func17, Try.ntmps17
  go_wp2
  go_loopw [5] (fun i wx => ∃ k : Nat, k ≤ n ∧ i = .int .i64 k ∧ Old w wx) (fun i _ => n - (intOf i).toNat)
  case atStart => exact ⟨0, Nat.zero_le _, rfl, Old.refl _⟩
  case round =>
    obtain ⟨k, hk, rfl, hup⟩ := hrel
    by_cases hlt : k < n
    · obtain ⟨b1, o1, e1, cx0⟩ := HX.out k hlt
      obtain ⟨b2, o2, e2, cy0⟩ := HY.out k hlt
      subst e1 e2
      have cx := hup.keep cx0
      have cy := hup.keep cy0
      have l1 : (0 : Int) ≤ (k : Int) := by omega
      have l2 : (k : Int) < (n : Int) := by omega
      generalize f k = x at *
      have t : (x != x) = false := by simp
      clear HX HY cx0 cy0
      go_wp2
      go_quiet (fail)
      go_wp2
      exact ⟨⟨k + 1, hlt, by go_num, hup.drewN _⟩, by simp [intOf]; omega⟩
    · obtain rfl : n = k := by omega
      go_wp2
      go_ret
      exact ⟨rfl, hup⟩
set_option maxHeartbeats 2000000 in
set_option maxRecDepth 20000 in
theorem same_eq (u1 u2 v1 v2 : Value) (n1 n2 : Nat) (f1 f2 : Nat → Int) (w : World) (hu1 : NRowL w u1 n1 f1) (hu2 : NRowL w u2 n2 f2) (hv1 : NRowL w v1 n1 f1) (hv2 : NRowL w v2 n2 f2) :
    Calls Try.prog 16 #[.agg #[u1, u2], .agg #[v1, v2]] w fun e w' => e = .returned (.bool true) ∧ Old w w' := by
  have H1 := hid (fun (W : World) (u : Old w W) => sameInts_eq u1 v1 n1 f1 W (hu1.old u) (hv1.old u))
  have H2 := hid (fun (W : World) (u : Old w W) => sameInts_eq u2 v2 n2 f2 W (hu2.old u) (hv2.old u))
  obtain ⟨_, p1, c1, rfl, _⟩ := hu1
  obtain ⟨_, p2, c2, rfl, _⟩ := hu2
  obtain ⟨_, q1, d1, rfl, _⟩ := hv1
  obtain ⟨_, q2, d2, rfl, _⟩ := hv2
  have tok1 : True := trivial
  go_enter Try.func16, Try.ntmps16
  go_upto_region 1 with (fail)
  generalize hw1 : ((w.alloc (.cells #[.slice p1 n1 c1, .slice p2 n2 c2] 24)).alloc (.cells #[.slice q1 n1 d1, .slice q2 n2 d2] 24)) = w1
  have O1 := hid (show Old w w1 from by rw [← hw1]; exact ((Old.refl _).alloc _).alloc _)
  have x0 : w1.cell? ⟨w.heap.size, 0, none⟩ = some (.slice p1 n1 c1) := by rw [← hw1]; exact ((Old.refl _).alloc _).keep (by simp)
  have x1 : w1.cell? ⟨w.heap.size, 1, none⟩ = some (.slice p2 n2 c2) := by rw [← hw1]; exact ((Old.refl _).alloc _).keep (by simp)
  have y0 : w1.cell? ⟨w.heap.size + 1, 0, none⟩ = some (.slice q1 n1 d1) := by rw [← hw1]; simp
  have y1 : w1.cell? ⟨w.heap.size + 1, 1, none⟩ = some (.slice q2 n2 d2) := by rw [← hw1]; simp
  clear hw1
  generalize w.heap.size + 1 = b2 at *
  generalize w.heap.size = b1 at *
  go_wp2_with (first | (go_at_call 17; have _t := tok1; clear tok1 _t; refine (H1.out _ O1.out).mono ?_; rintro e w2 ⟨rfl, o2⟩; have O2 := hid (O1.out.trans o2); have x1' := o2.keep x1; have y1' := o2.keep y1; clear o2) | (go_at_call 17; refine (H2.out _ O2.out).mono ?_; rintro e w3 ⟨rfl, o3⟩; have O3 := hid (O2.out.trans o3); clear o3))
  go_ret
  exact ⟨rfl, O3.out⟩
set_option maxHeartbeats 2000000 in
set_option maxRecDepth 20000 in
theorem threeB_any (w : World) : Calls Try.prog 28 #[] w fun e w' => ∃ b1 b2, e = .returned (.agg #[.slice (some ⟨b1, 0, none⟩) 3 3, .slice (some ⟨b2, 0, none⟩) 1 1]) ∧ NRowL w' (.slice (some ⟨b1, 0, none⟩) 3 3) 3 iota1 ∧ NRowL w' (.slice (some ⟨b2, 0, none⟩) 1 1) 1 iota4 ∧ Old w w' := by
  go_enter Try.func28, Try.ntmps28
  go_wp2
  refine bodyPost_ret (v := .agg #[.slice (some ⟨w.heap.size + 1, 0, none⟩) 3 3, .slice (some ⟨w.heap.size + 1 + 1, 0, none⟩) 1 1]) (by simp [results, Try.results28, go_sem]) rfl ⟨w.heap.size + 1, w.heap.size + 1 + 1, rfl, ⟨by omega, _, 3, rfl, by omega, by omega, fun i hi => ⟨w.heap.size + 1, 0, rfl, ?_⟩⟩, ⟨by omega, _, 1, rfl, by omega, by omega, fun i hi => ⟨w.heap.size + 1 + 1, 0, rfl, ?_⟩⟩, ((((Old.refl w).alloc _).alloc _).alloc _)⟩
  · refine ((Old.refl _).alloc _).keep ?_
    match i, hi with
    | 0, _ => simp [iota1]
    | 1, _ => simp [iota1]
    | 2, _ => simp [iota1]
  · obtain rfl : i = 0 := by omega
    exact cell_oneI _ 4 _ (by simp)
theorem right3 : rightB 3 iota1 1 iota4 = true := by decide +kernel
theorem quo13 : decide (3 / 2 < cntK iota1 (fun x => (lsI (fun i => if i = 0 then 1 else 3) 2).contains x) 3) = true := by decide +kernel
theorem quo2 : decide (3 / 2 < cntK iota1 (fun x => (lsI (fun _ => 2) 1).contains x) 3) = false := by decide +kernel
theorem oth2 : othL (lsI iota1 3) (lsI iota4 1) 2 = [1, 3, 4] := by
  have e : srt (lsI iota1 3 ++ lsI iota4 1) = [1, 2, 3, 4] := by
    unfold srt
    rw [show lsI iota1 3 ++ lsI iota4 1 = [1, 2, 3, 4] from by decide]
    exact List.mergeSort_of_pairwise (by decide)
  unfold othL
  rw [e]
  decide +kernel
end Go.Proofs.Ytcicefpcledmgaa
