/- The document's bytes of a number and of a key; bytes behind bytes; conditions: the lengths fit. -/
import Derived.Test.YtefffjlcfghniaaPkC
namespace Go.Proofs.Ytefffjlcfghniaa.Pk
set_option maxRecDepth 20000
open Go.RowKit
set_option linter.unusedVariables false
attribute [local go_sem] run_bits run_frombits run_store_float
theorem row1 (w : World) (A : Int) (x : Nat → Nat) (h0 : A = (x 0 : Int)) (hl : x 0 < 256) :
    OwnB w.heap.size (w.alloc (.cells #[.int .u8 A] 5)) (.slice (some ⟨w.heap.size, 0, none⟩) 1 1) 1 x := by
  subst h0
  refine ⟨?_, fun i hi => by obtain rfl : i = 0 := by omega
                             exact hl⟩
  have h := World.ownsRow_lit (base := w.heap.size) (e := 5) (size := 1) w #[.int .u8 (x 0 : Int)] 1 (Nat.le_refl _) (by unfold maxLen; omega) rfl
  exact h
set_option maxHeartbeats 400000 in
set_option maxRecDepth 20000 in
theorem join_some (base : Nat) (v : Value) (n b off m cap : Nat) (X Y : Nat → Nat) (hnm : n + m ≤ 140737488355328) (w : World) (hown : OwnB base w v n X) (hbase : base ≤ w.heap.size) (hc : ∀ i, i < m → Y i < 256 ∧ w.cell? ⟨b, off + i, none⟩ = some (.int .u8 (Y i : Int))) (hne : some b ≠ v.ownBlock) :
    Calls Try.prog 57 #[v, .slice (some ⟨b, off, none⟩) m cap] w fun e w' => ∃ v', e = .returned v' ∧ OwnB base w' v' (n + m) (cat n X Y) ∧ Grew w v w' v' := by
  have HC := hid hc
  have HO := hid hown
  have HB := hid hne
  clear hc hown hne
  go_enter Try.func57, Try.ntmps57
  go_wp2
  go_loopw [0, 5] (fun a i wr => ∃ k : Nat, k ≤ m ∧ i = .int .i64 (k : Nat) ∧ OwnB base wr a (n + k) (cat n X Y) ∧ Grew w v wr a) (fun _ i _ => m - (intOf i).toNat)
  case atStart => exact ⟨0, Nat.zero_le _, rfl, HO.out.congr (fun i hi => by simp [cat, hi]), Grew.refl _ _⟩
  case round =>
    rename_i a i
    obtain ⟨k, hk, rfl, ho, hg⟩ := hrel
    by_cases hlt : k < m
    · have hcell := hg.by_.cell (HC.out k hlt).2 HB.out
      have hy := (HC.out k hlt).1
      have HOk := hid ho
      have HR := hid (row1 wr (Y k) (fun _ => Y k) rfl hy)
      have hbs := hid (Nat.le_trans hbase hg.by_.size)
      clear ho HC
      go_wp2_with (at_builtin; refine wp_app rfl (.tmp 12) (.tmp 17) rfl base _ _ (n + k) 1 (cat n X Y) (fun _ => Y k) rfl rfl (HOk.out.alloc _) HR.out.row (by omega) (by have := hbs.out; simp; omega) ?_; intro v' w1 hown hgr hbel)
      go_roundw
      case rel => exact ⟨k + 1, hlt, by go_num, (show OwnB base w1 v' (n + (k + 1)) (cat (n + k) (cat n X Y) fun _ => Y k) from hown).congr (fun i hi => by unfold cat; by_cases h1 : i < n + k <;> by_cases h2 : i < n <;> simp [h1, h2] <;> first | omega | (congr 1; omega)), hg.trans (((Grew.refl _ _).alloc _).trans hgr)⟩
      case measure => simp [intOf]; omega
    · obtain rfl : k = m := by omega
      go_wp2
      go_ret
      exact ⟨_, rfl, ho, hg⟩
set_option maxHeartbeats 400000 in
set_option maxRecDepth 20000 in
theorem join_none (base : Nat) (v : Value) (n : Nat) (a : Option Addr) (c : Nat) (X Y : Nat → Nat) (w : World) (hown : OwnB base w v n X) :
    Calls Try.prog 57 #[v, .slice a 0 c] w fun e w' => ∃ v', e = .returned v' ∧ OwnB base w' v' (n + 0) (cat n X Y) ∧ Grew w v w' v' := by
  have HO := hid hown
  clear hown
  go_enter Try.func57, Try.ntmps57
  go_wp2
  refine wp_loop_rounds 1 ?_
  rw [rounds_succ]
  go_wp2
  go_ret
  exact ⟨_, rfl, HO.out.congr (fun i hi => by simp [cat, hi]), Grew.refl _ _⟩
set_option maxHeartbeats 400000 in
set_option maxRecDepth 20000 in
theorem join_any (base : Nat) (v u : Value) (n m : Nat) (X Y : Nat → Nat) (hnm : n + m ≤ 140737488355328) (w : World) (hown : OwnB base w v n X) (hbase : base ≤ w.heap.size) (hu : ByRow w u m Y) (hne : m = 0 ∨ u.ownBlock ≠ v.ownBlock) :
    Calls Try.prog 57 #[v, u] w fun e w' => ∃ v', e = .returned v' ∧ OwnB base w' v' (n + m) (cat n X Y) ∧ Grew w v w' v' := by
  rcases hu with ⟨rfl, a, c, rfl, _⟩ | ⟨hm, _, b, off, cap, rfl, hc, _⟩
  · exact join_none base v n a c X Y w hown
  · refine join_some base v n b off m cap X Y hnm w hown hbase hc ?_
    rcases hne with h | h
    · omega
    · exact h
set_option maxRecDepth 20000 in
set_option maxHeartbeats 1000000 in
set_option maxRecDepth 20000 in
theorem refNum_any (z : Int) (h1 : -9223372036854775808 ≤ z) (h2 : z ≤ 9223372036854775807) (w : World) :
    Calls Try.prog 39 #[.int .i64 z] w fun e w' => ∃ v', e = .returned v' ∧ OwnL w.heap.size w' v' (numL z) ∧ Up w w' := by
  have hl := hid (fold_lt z h1 h2)
  have HG : Hid (numL z = grp 10 (fold z)) := rfl
  generalize hN : numL z = N at *
  clear hN
  by_cases hz : z < 0
  all_goals
    have HF := hid (show fold z = _ from rfl)
    go_enter Try.func39, Try.ntmps39
    go_wp2
    go_loopw [3, 4] (fun u a wr => ∃ (M : List Nat) (U f : Nat), u = .int .u64 (U : Int) ∧ U < 18446744073709551616 ∧ U < 128 ^ (f + 1) ∧ M.length + f ≤ 10 ∧ M ++ grp f U = N ∧ OwnL w.heap.size wr a M ∧ Up w wr) (fun u _ _ => (intOf u).toNat)
    case atStart => exact ⟨[], fold z, 10, by congr 1; unfold fold; split <;> omega, hl.out, Nat.lt_of_lt_of_le hl.out (by decide), by simp, HG.out.symm, OwnB.empty (Nat.le_refl _) rfl, (Up.refl w).alloc _⟩
    case round =>
      obtain ⟨M, U, f, rfl, hU, hUf, hMf, hgr, ho, hg⟩ := hrel
      have hUU := hid hU
      clear hU HF hz
      have HOk := hid ho
      have HGr := hid hgr
      have hbs := hid hg.size
      clear ho hgr
      by_cases hlt : U < 128
      · have HR := hid (row1L wr (U : Int) U rfl (by omega))
        have hsm := hid (grp_small f U hlt)
        have hN : M ++ [U] = N := by rw [← hsm.out]; exact HGr.out
        have HN := hid hN
        clear hN hUf
        go_wp2_with (at_builtin; refine wp_app rfl (.tmp 28) (.tmp 31) rfl w.heap.size _ _ M.length [U].length (gd M) (gd [U]) rfl rfl (HOk.out.alloc _) HR.out (by simp; omega) (by have := hbs.out; simp; omega) ?_; intro v' w1 hown hgr1 hbel)
        go_ret
        exact ⟨_, rfl, by rw [← HN.out]; exact OwnL.app hown, Below.trans (hg.alloc _) hbel⟩
      · have hr : (U : Int) % 128 + 128 = ((U % 128 + 128 : Nat) : Int) := by omega
        have HR := hid (row1L wr _ (U % 128 + 128) hr (by omega))
        have hf : f ≠ 0 := by intro h; subst h; simp at hUf; omega
        obtain ⟨f', rfl⟩ : ∃ f', f = f' + 1 := ⟨f - 1, by omega⟩
        have hN : (M ++ [U % 128 + 128]) ++ grp f' (U / 128) = N := by rw [List.append_assoc, List.singleton_append, ← grp_big f' U hlt]; exact HGr.out
        have HN := hid hN
        have hU2 : U / 128 < 128 ^ (f' + 1) := by rw [Nat.pow_succ] at hUf; exact Nat.div_lt_of_lt_mul (by omega)
        have HU2 := hid hU2
        have hU3 := hUU.out
        clear hN hUf hU2 hf hr
        go_wp2_with (at_builtin; refine wp_app rfl (.tmp 19) (.tmp 24) rfl w.heap.size _ _ M.length [U % 128 + 128].length (gd M) (gd [U % 128 + 128]) rfl rfl (HOk.out.alloc _) HR.out (by simp; omega) (by have := hbs.out; simp; omega) ?_; intro v' w1 hown hgr1 hbel)
        go_roundw
        case rel => exact ⟨M ++ [U % 128 + 128], U / 128, f', by go_num, by have := hUU.out; omega, HU2.out, by simp; omega, HN.out, OwnL.app hown, Below.trans (hg.alloc _) hbel⟩
        case measure => simp [intOf]; omega
end Go.Proofs.Ytefffjlcfghniaa.Pk
