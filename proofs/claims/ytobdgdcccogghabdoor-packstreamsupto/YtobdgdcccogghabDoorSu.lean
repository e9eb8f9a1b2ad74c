/- What pack.Sum and the document's Sum return at every row of bytes: the CRC-32C of them; condition: the table of sixteen words lies where its initialiser lays it. -/
import Derived.Test.YtobdgdcccogghabDoorBa
import Derived.Test.YtobdgdcccogghabDoorCc
namespace Go.Proofs.YtobdgdcccogghabDoor
open Go.RowKit
/-- The table lies in memory. -/
def Tab (w : World) : Prop := ∀ j, j < 16 → w.cell? ⟨0, j, none⟩ = some (.int .u32 (Crc.tab j : Nat))
theorem Tab.up {w w' : World} (h : Tab w) (u : Up w w') : Tab w' := fun j hj => u.keep (h j hj)
theorem u32_shr4 (s : Nat) : (s : Int) / 16 = ((s / 16 : Nat) : Int) := by omega
theorem xor_max32 (b : Nat) (hb : b < 4294967296) : bits .xor .u32 IntKind.u32.max (b : Int) = ((4294967295 - b : Nat) : Int) := by
  have := u32_xor_nat 4294967295 b (by omega) hb
  rw [show IntKind.u32.max = ((4294967295 : Nat) : Int) by decide +kernel, this]
  congr 1
  have e : (BitVec.allOnes 32 ^^^ BitVec.ofNat 32 b).toNat = 4294967295 - b := by
    rw [BitVec.allOnes_xor, BitVec.toNat_not, BitVec.toNat_ofNat, Nat.mod_eq_of_lt (by omega)]
  rw [← e, BitVec.toNat_xor, BitVec.toNat_allOnes, BitVec.toNat_ofNat, Nat.mod_eq_of_lt (by omega)]
set_option maxHeartbeats 400000 in
theorem sum_some (b off n cap : Nat) (x : Nat → Nat) (hm : n ≤ maxLen) (w : World) (ht : Tab w) (hc : ∀ i, i < n → x i < 256 ∧ w.cell? ⟨b, off + i, none⟩ = some (.int .u8 (x i : Int))) :
    Calls Tryd.prog 7 #[.slice (some ⟨b, off, none⟩) n cap] w fun e w' => e = .returned (.int .u32 (Crc.sum x n : Nat)) ∧ w' = w := by
  unfold maxLen at hm
  have HC := hid hc
  have HT := hid ht
  have HL := hid (Crc.run_lt x n (fun i hi => (hc i hi).1))
  clear hc ht
  go_enter Tryd.func7, Tryd.ntmps7
  go_wp2
  go_loop [3, 8] (fun s i => ∃ k : Nat, k ≤ n ∧ i = .int .i64 (k : Nat) ∧ s = .int .u32 (Crc.run x k : Nat)) (fun _ i => n - (intOf i).toNat)
  case atStart => exact ⟨0, by omega, rfl, rfl⟩
  case round =>
    obtain ⟨k, hk, rfl, rfl⟩ := hrel
    by_cases hlt : k < n
    · obtain ⟨hx, hcell⟩ := HC.out k hlt
      have hl := HL.out k hk
      have e1 : bits .xor .u32 (Crc.run x k : Int) (x k : Int) = ((Crc.run x k ^^^ x k : Nat) : Int) := u32_xor_nat _ _ hl (by omega)
      have hs1 : Crc.run x k ^^^ x k < 4294967296 := Nat.xor_lt_two_pow (n := 32) hl (by omega)
      have HU : Hid (Crc.run x (k + 1) = Crc.st4 (Crc.st4 (Crc.run x k ^^^ x k))) := rfl
      generalize hS : Crc.run x k ^^^ x k = S at *
      have e2 : bits .and .u32 (S : Int) 15 = ((S % 16 : Nat) : Int) := by have := u32_and_nat S 15 hs1 (by omega); rw [nat_mask4] at this; exact this
      have t2 := HT.out (S % 16) (Nat.mod_lt _ (by omega))
      have b2 : S % 16 < 16 := Nat.mod_lt _ (by omega)
      have e3 : bits .xor .u32 ((S : Int) / 16) (Crc.tab (S % 16) : Nat) = ((Crc.st4 S : Nat) : Int) := by rw [u32_shr4]; exact u32_xor_nat _ _ (by omega) (Crc.tab_lt _)
      have hs2 := Crc.st4_lt S hs1
      generalize hS2 : Crc.st4 S = S2 at *
      have e4 : bits .and .u32 (S2 : Int) 15 = ((S2 % 16 : Nat) : Int) := by have := u32_and_nat S2 15 hs2 (by omega); rw [nat_mask4] at this; exact this
      have t4 := HT.out (S2 % 16) (Nat.mod_lt _ (by omega))
      have b4 : S2 % 16 < 16 := Nat.mod_lt _ (by omega)
      have e5 : bits .xor .u32 ((S2 : Int) / 16) (Crc.tab (S2 % 16) : Nat) = ((Crc.st4 S2 : Nat) : Int) := by rw [u32_shr4]; exact u32_xor_nat _ _ (by omega) (Crc.tab_lt _)
      clear HT HC HL
      go_wp2
      go_round
      case rel => exact ⟨k + 1, hlt, by go_num, by rw [HU.out]⟩
      case measure => simp [intOf]; omega
    · have hkn : k = n := by omega
      subst hkn
      go_wp2
      go_ret
      exact ⟨ret_i (xor_max32 _ (HL.out k hk)), rfl⟩
set_option maxHeartbeats 400000 in
theorem sum_none (a : Option Addr) (c : Nat) (w : World) :
    Calls Tryd.prog 7 #[.slice a 0 c] w fun e w' => e = .returned (.int .u32 0) ∧ w' = w := by
  go_enter Tryd.func7, Tryd.ntmps7
  go_wp2
  refine wp_loop_rounds 1 ?_
  rw [rounds_succ]
  go_wp2
  go_ret
  exact ⟨rfl, rfl⟩
set_option maxHeartbeats 400000 in
theorem sum_any (v : Value) (n : Nat) (x : Nat → Nat) (w : World) (ht : Tab w) (hv : ByRow w v n x) :
    Calls Tryd.prog 7 #[v] w fun e w' => e = .returned (.int .u32 (Crc.sum x n : Nat)) ∧ w' = w := by
  rcases hv with ⟨rfl, a, c, rfl, _⟩ | ⟨hn, hm, b, off, cap, rfl, hc, _⟩
  · rw [show Crc.sum x 0 = 0 by simp [Crc.sum, Crc.run]]; exact sum_none a c w
  · exact sum_some b off n cap x hm w ht hc
set_option maxHeartbeats 400000 in
theorem refSum_some (b off n cap : Nat) (x : Nat → Nat) (hm : n ≤ maxLen) (w : World) (hc : ∀ i, i < n → x i < 256 ∧ w.cell? ⟨b, off + i, none⟩ = some (.int .u8 (x i : Int))) :
    Calls Tryd.prog 8 #[.slice (some ⟨b, off, none⟩) n cap] w fun e w' => e = .returned (.int .u32 (Crc.sum x n : Nat)) ∧ w' = w := by
  unfold maxLen at hm
  have HC := hid hc
  have HL := hid (Crc.run_lt x n (fun i hi => (hc i hi).1))
  clear hc
  go_enter Tryd.func8, Tryd.ntmps8
  go_wp2
  go_loop [3, 4] (fun s i => ∃ k : Nat, k ≤ n ∧ i = .int .i64 (k : Nat) ∧ s = .int .u32 (Crc.run x k : Nat)) (fun _ i => n - (intOf i).toNat)
  case atStart => exact ⟨0, by omega, rfl, rfl⟩
  case round =>
    obtain ⟨k, hk, rfl, rfl⟩ := hrel
    by_cases hlt : k < n
    · obtain ⟨hx, hcell⟩ := HC.out k hlt
      have hl := HL.out k hk
      have HU : Hid (Crc.run x (k + 1) = Crc.bits8 (Crc.run x k) (x k) 8) := (Crc.bits8_step _ _ hx).symm
      have HB := hid (Crc.bits8_lt (Crc.run x k) (x k) hl)
      generalize hS : Crc.run x k = S at *
      clear HC HL hS hl
      go_wp2
      go_loop [3, 5] (fun s i => ∃ j : Nat, j ≤ 8 ∧ i = .int .i64 (j : Nat) ∧ s = .int .u32 (Crc.bits8 S (x k) j : Nat)) (fun _ i => 8 - (intOf i).toNat)
      case atStart => exact ⟨0, by omega, rfl, rfl⟩
      case round =>
        obtain ⟨j, hj, rfl, rfl⟩ := hrel
        by_cases hlt2 : j < 8
        · have hb := HB.out j
          have HV : Hid (Crc.bits8 S (x k) (j + 1) = if (Crc.bits8 S (x k) j) % 2 ≠ (x k / 2 ^ j) % 2 then (Crc.bits8 S (x k) j / 2) ^^^ Crc.poly else Crc.bits8 S (x k) j / 2) := rfl
          generalize hR : Crc.bits8 S (x k) j = R at *
          clear HB
          have hp : ((x k : Int) / 2 ^ j % 2) = ((x k / 2 ^ j % 2 : Nat) : Int) := by simp
          by_cases ht : R % 2 = x k / 2 ^ j % 2
          · have t1 : ((R : Int) % 2 != (x k : Int) / 2 ^ j % 2) = false := by rw [hp, bne_eq_false_iff_eq]; omega
            rw [if_neg (by omega)] at HV
            clear hp ht
            go_wp2
            go_round
            case rel => exact ⟨j + 1, hlt2, by go_num, by rw [HV.out]; rfl⟩
            case measure => simp [intOf]; omega
          · have t1 : ((R : Int) % 2 != (x k : Int) / 2 ^ j % 2) = true := by rw [hp, bne_iff_ne]; omega
            have e1 : bits .xor .u32 ((R : Int) / 2) 2197175160 = ((R / 2 ^^^ Crc.poly : Nat) : Int) := u32_xor_nat (R / 2) 2197175160 (by omega) (by omega)
            rw [if_pos ht] at HV
            clear hp ht
            go_wp2
            go_round
            case rel => exact ⟨j + 1, hlt2, by go_num, by rw [HV.out]⟩
            case measure => simp [intOf]; omega
        · have hj8 : j = 8 := by omega
          subst hj8
          rw [← HU.out]
          go_wp2
          go_round
          case rel => exact ⟨k + 1, hlt, by go_num, rfl⟩
          case measure => simp [intOf]; omega
    · have hkn : k = n := by omega
      subst hkn
      have hl := HL.out k hk
      go_wp2
      go_ret
      exact ⟨ret_i (by unfold Crc.sum; omega), rfl⟩
set_option maxHeartbeats 400000 in
theorem refSum_none (a : Option Addr) (c : Nat) (w : World) :
    Calls Tryd.prog 8 #[.slice a 0 c] w fun e w' => e = .returned (.int .u32 0) ∧ w' = w := by
  go_enter Tryd.func8, Tryd.ntmps8
  go_wp2
  refine wp_loop_rounds 1 ?_
  rw [rounds_succ]
  go_wp2
  go_ret
  exact ⟨rfl, rfl⟩
set_option maxHeartbeats 400000 in
theorem refSum_any (v : Value) (n : Nat) (x : Nat → Nat) (w : World) (hv : ByRow w v n x) :
    Calls Tryd.prog 8 #[v] w fun e w' => e = .returned (.int .u32 (Crc.sum x n : Nat)) ∧ w' = w := by
  rcases hv with ⟨rfl, a, c, rfl, _⟩ | ⟨hn, hm, b, off, cap, rfl, hc, _⟩
  · rw [show Crc.sum x 0 = 0 by simp [Crc.sum, Crc.run]]; exact refSum_none a c w
  · exact refSum_some b off n cap x hm w hc
end Go.Proofs.YtobdgdcccogghabDoor
