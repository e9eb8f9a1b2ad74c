/- slices.Concat of two rows of int; conditions: the rows lie in memory, and are not long. -/
import Derived.Test.YtcicefpcledmgaaV14
namespace Go.Proofs.Ytcicefpcledmgaa
open Go.RowKit Go.Lib Go.Sort Go.Shelf
set_option linter.unusedVariables false
set_option linter.unusedSimpArgs false
set_option maxRecDepth 20000
def lenC (n m : Nat) : Nat → Nat | 0 => 0 | 1 => n | _ => n + m
def catC (L M : List Int) : Nat → List Int | 0 => [] | 1 => L | _ => L ++ M
set_option maxHeartbeats 4000000 in
set_option maxRecDepth 20000 in
theorem concat_any (B : Nat) (v1 v2 : Value) (n m : Nat) (f g : Nat → Int) (w : World) (h1 : NRowL w v1 n f) (s1 : Sh v1) (h2 : NRowL w v2 m g) (s2 : Sh v2) (hn : n ≤ 1000) (hm : m ≤ 1000) (c0 : w.cell? ⟨B, 0, none⟩ = some v1) (c1 : w.cell? ⟨B, 1, none⟩ = some v2) :
    Calls Try.prog 49 #[.slice (some ⟨B, 0, none⟩) 2 2] w fun e w' => ∃ v, e = .returned v ∧ OwnI w.heap.size w' v (lsI f n ++ lsI g m) ∧ Old w w' := by
  have HROW := hid (show ∀ k : Nat, k < 2 → ∃ p q c h, w.cell? ⟨B, k, none⟩ = some (.slice p q c) ∧ NRowL w (.slice p q c) q h ∧ Sh (.slice p q c) ∧ lenC n m (k + 1) = lenC n m k + q ∧ q ≤ 1000 ∧ catC (lsI f n) (lsI g m) (k + 1) = catC (lsI f n) (lsI g m) k ++ lsI h q from fun k hk => by
    obtain rfl | rfl : k = 0 ∨ k = 1 := by omega
    · obtain ⟨_, p, c, rfl, _⟩ := id h1
      exact ⟨p, n, c, f, c0, h1, s1, by simp [lenC], hn, by simp [catC]⟩
    · obtain ⟨_, p, c, rfl, _⟩ := id h2
      exact ⟨p, m, c, g, c1, h2, s2, by simp [lenC], hm, by simp [catC]⟩)
  have HLe := hid (show ∀ k, lenC n m k ≤ 2000 from fun k => by unfold lenC; split <;> omega)
  have HCl := hid (show ∀ k, (catC (lsI f n) (lsI g m) k).length ≤ 2000 from fun k => by unfold catC; split <;> simp [lsI_len] <;> omega)
  have HG := hid (grow_any (lenC n m 2) (by have := HLe.out 2; omega) w)
  have HE := hid (show lsI f n ++ lsI g m = catC (lsI f n) (lsI g m) 2 from rfl)
  rw [HE.out]
  have HC0 := hid (show catC (lsI f n) (lsI g m) 0 = [] from rfl)
  have HLC := hid (show lenC n m 0 = 0 from rfl)
  generalize catC (lsI f n) (lsI g m) = CC at *
  generalize lenC n m = LC at *
  clear h1 h2 s1 s2 c0 c1 HE
  go_enter Try.func49, Try.ntmps49
  go_upto_region 3 with (fail)
  go_loopw [3, 11] (fun y i wr => ∃ k : Nat, k ≤ 2 ∧ i = .int .i64 (k : Nat) ∧ y = .int .i64 (LC k : Nat) ∧ wr = w) (fun _ i _ => 2 - (intOf i).toNat)
  case atStart => exact ⟨0, by omega, rfl, by rw [HLC.out]; rfl, rfl⟩
  case round =>
    obtain ⟨k, hk, rfl, rfl, hw⟩ := hrel
    have hw' := hw.symm
    clear hw
    subst hw'
    by_cases hlt : k < 2
    · obtain ⟨p, q, c, h, y0, _, _, e1, hq, _⟩ := HROW.out k hlt
      have l1 : (0 : Int) ≤ (k : Int) := by omega
      have l2 : (k : Int) < 2 := by omega
      have hs := HLe.out k
      have HS := hid e1
      clear e1
      generalize LC k = sl at *
      have b1 : ¬ ((sl : Int) + (q : Int) < 0) := by omega
      have b2 : (sl : Int) + (q : Int) ≤ 9223372036854775807 := by omega
      go_wp2
      go_roundw
      case rel => exact ⟨k + 1, by omega, by go_num, by rw [HS.out]; go_num, by first | rfl | trivial⟩
      case measure => simp [intOf]; omega
    · obtain rfl : k = 2 := by omega
      go_upto_region 10 with (go_at_call 72; refine HG.out.mono ?_; rintro e w1 ⟨va, rfl, o1, u1⟩; have O1 := hid o1; have U1 := hid u1; clear o1 u1)
      clear HG
      go_upto_region 11 with (fail)
      go_loopw [6, 27] (fun o i w2 => ∃ k : Nat, k ≤ 2 ∧ i = .int .i64 (k : Nat) ∧ OwnI w.heap.size w2 o (CC k) ∧ Old w w2) (fun _ i _ => 2 - (intOf i).toNat)
      case atStart => exact ⟨0, by omega, rfl, by rw [HC0.out]; exact O1.out, U1.out⟩
      case round =>
        obtain ⟨k, hk, rfl, ho, hu⟩ := hrel
        have HU := hid hu
        have HO := hid ho
        clear hu ho O1 U1
        by_cases hlt : k < 2
        · obtain ⟨p, q, c, h, y0, hrow, hsh, _, hq, e2⟩ := HROW.out k hlt
          have l1 : (0 : Int) ≤ (k : Int) := by omega
          have l2 : (k : Int) < 2 := by omega
          have z0 := HU.out.keep y0
          have HRW := hid (hrow.old HU.out)
          have HSH := hid hsh
          have HS := hid e2
          have HK := hid (HCl.out k)
          clear e2 hrow hsh y0
          generalize CC k = CK at *
          go_wp2_with (at_builtin; refine wp_appIs rfl (.tmp 31) (.tmp 32) rfl w.heap.size _ _ CK q h rfl rfl HO.out HRW.out HSH.out (by have := HK.out; omega) HU.out.size ?_; intro v8 w8 o8 g8; have O8 := hid o8; have G8 := hid (HU.out.below g8); clear o8 g8)
          go_roundw
          case rel => exact ⟨k + 1, by omega, by go_num, by rw [HS.out]; exact O8.out, G8.out⟩
          case measure => simp [intOf]; omega
        · obtain rfl : k = 2 := by omega
          go_wp2
          go_ret
          exact ⟨_, rfl, HO.out, HU.out⟩
end Go.Proofs.Ytcicefpcledmgaa
