/- conf.Quorum at every configuration and every row; conditions: the rows lie in memory. -/
import Derived.Test.YtcicefpcledmgaaV12
import Derived.Test.YtcicefpcledmgaaV5
namespace Go.Proofs.Ytcicefpcledmgaa
open Go.RowKit Go.Lib Go.Sort Go.Shelf
set_option linter.unusedVariables false
set_option linter.unusedSimpArgs false
set_option maxRecDepth 20000
/-- How many of the first so many are such. -/
def cntK (f : Nat → Int) (q : Int → Bool) : Nat → Nat | 0 => 0 | k + 1 => cntK f q k + (if q (f k) = true then 1 else 0)
theorem cntK_le (f : Nat → Int) (q : Int → Bool) : ∀ n, cntK f q n ≤ n
  | 0 => Nat.le_refl _
  | n + 1 => by have := cntK_le f q n; unfold cntK; split <;> omega
theorem srt_has (L : List Int) (x : Int) : (srt L).contains x = L.contains x := by
  have := (srt_perm L).mem_iff (a := x)
  rw [Bool.eq_iff_iff, List.contains_iff_mem, List.contains_iff_mem, this]
set_option maxHeartbeats 4000000 in
set_option maxRecDepth 20000 in
theorem quorum_any (v1 v2 v3 : Value) (n m k : Nat) (f g h : Nat → Int) (w : World) (h1 : NRowL w v1 n f) (h2 : NRowL w v2 m g) (h3 : NRowL w v3 k h) :
    Calls Try.prog 13 #[.agg #[v1, v2], v3] w fun e w' => e = .returned (.bool (decide (n / 2 < cntK f (fun x => (lsI h k).contains x) n))) ∧ Old w w' := by
  have hk3 := h3.1
  obtain ⟨hn1, p1, c1, rfl, _, _, hc1⟩ := h1
  obtain ⟨_, p2, c2, rfl, _⟩ := h2
  obtain ⟨hn3, p3, c3, rfl, _, _, hc3⟩ := h3
  have HV := hid (fun (W : World) => (callsIn_wide (n := 4)).1 (values_in 4 p3 k c3 W))
  have HSo := hid (fun (W : World) (Bs : Nat) (u : Old w W) (hx : W.cell? ⟨Bs, 0, none⟩ = some (.slice p3 k c3)) => sorted_any Bs p3 k c3 h W ⟨hn3, hx, fun i hi => by
    obtain ⟨b, off, e, hc⟩ := hc3 i hi
    exact ⟨b, off, e, u.keep hc⟩⟩)
  have hLn := lsI_len h k
  have HL := hid (show (srt (lsI h k)).length ≤ 17592186044416 by rw [srt_len]; omega)
  have HQ := hid (fun x => srt_has (lsI h k) x)
  have HP := hid (srt_pw (lsI h k))
  clear hc3 hk3 hLn
  generalize hT : srt (lsI h k) = T at *
  clear hT
  have HC := hid hc1
  clear hc1
  generalize hq : (fun x => (lsI h k).contains x) = q
  have HQ' := hid (show ∀ x, T.contains x = q x from fun x => by rw [← hq]; exact HQ.out x)
  clear HQ hq
  have HLe := hid (cntK_le f q)
  go_enter Try.func13, Try.ntmps13
  go_upto_region 3 with (first | (go_at_call 37; refine (HV.out _).mono ?_; rintro e w1 ⟨rfl, rfl⟩) | (go_at_call 36; refine (HSo.out _ _ (((Old.refl _).alloc _).alloc _) (by simp)).mono ?_; rintro e w1 ⟨va, rfl, o1, u1⟩; have O1 := hid o1; have U1 := hid ((((Old.refl w).alloc _).alloc _).trans u1); have x0 : w1.cell? ⟨w.heap.size, 0, none⟩ = some (.slice p1 n c1) := u1.keep (by simp); clear o1 u1))
  have HSe := hid (fun (W : World) (x : Int) (u : Old w1 W) => search_any _ va T x W HL.out (O1.out.up u) HP.out)
  obtain ⟨pa, ca, eva⟩ := O1.out.len
  subst eva
  generalize hTl : T.length = tl at *
  clear hTl O1 HV HSo HP HL
  go_upto_region 4 with (fail)
  go_loopw [6, 17] (fun y i wr => ∃ j : Nat, j ≤ n ∧ i = .int .i64 (j : Nat) ∧ y = .int .i64 (cntK f q j : Nat) ∧ Old w1 wr) (fun _ i _ => n - (intOf i).toNat)
  case atStart => exact ⟨0, Nat.zero_le _, rfl, rfl, Old.refl _⟩
  case round =>
    obtain ⟨j, hj, rfl, rfl, hu⟩ := hrel
    have HU := hid hu
    clear hu
    have z0 := HU.out.keep x0
    have hle := HLe.out j
    by_cases hlt : j < n
    · obtain ⟨b, off, ha, c0⟩ := HC.out j hlt
      subst ha
      have y0 := (U1.out.trans HU.out).keep c0
      have l1 : (0 : Int) ≤ (j : Int) := by omega
      have l2 : (j : Int) < (n : Int) := by omega
      clear c0
      have HST := hid (show cntK f q (j + 1) = cntK f q j + (if q (f j) = true then 1 else 0) from rfl)
      have HB := hid (HSe.out wr (f j) HU.out)
      have HQx := hid (HQ'.out (f j))
      generalize f j = x at *
      generalize hcc : cntK f q j = cc at *
      generalize T.countP (fun y => decide (y < x)) = tk at *
      generalize T.contains x = tb at *
      clear hcc
      cases tb with
      | true =>
        go_wp2_with (go_at_call 38; refine HB.out.mono ?_; rintro e w3 ⟨rfl, u3⟩; have U3 := hid u3; clear u3)
        go_roundw
        case rel => exact ⟨j + 1, hlt, by go_num, by rw [HST.out, if_pos HQx.out.symm]; go_num, HU.out.trans U3.out⟩
        case measure => simp [intOf]; omega
      | false =>
        go_wp2_with (go_at_call 38; refine HB.out.mono ?_; rintro e w3 ⟨rfl, u3⟩; have U3 := hid u3; clear u3)
        go_roundw
        case rel => exact ⟨j + 1, hlt, by go_num, by rw [HST.out, ← HQx.out]; simp, HU.out.trans U3.out⟩
        case measure => simp [intOf]; omega
    · obtain rfl : j = n := by omega
      go_wp2
      go_ret
      refine ⟨ret_b ?_, U1.out.trans HU.out⟩
      rw [decide_eq_decide]
      omega
end Go.Proofs.Ytcicefpcledmgaa
