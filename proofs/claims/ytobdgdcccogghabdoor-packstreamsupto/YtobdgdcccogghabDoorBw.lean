/- What the functions of words and of joined rows return: word and unword, appendWord, the document's word and Join; conditions: the lengths fit. -/
import Derived.Test.YtobdgdcccogghabDoorBy
namespace Go.Proofs.YtobdgdcccogghabDoor
open Go.RowKit
theorem row4 (w : World) (A B C D : Int) (x : Nat → Nat) (h0 : A = (x 0 : Int)) (h1 : B = (x 1 : Int)) (h2 : C = (x 2 : Int)) (h3 : D = (x 3 : Int)) (hl : ∀ i, i < 4 → x i < 256) :
    OwnB w.heap.size (w.alloc (.cells #[.int .u8 A, .int .u8 B, .int .u8 C, .int .u8 D] 5)) (.slice (some ⟨w.heap.size, 0, none⟩) 4 4) 4 x := by
  subst h0 h1 h2 h3
  refine ⟨?_, hl⟩
  have h := World.ownsRow_lit (base := w.heap.size) (e := 5) (size := 1) w #[.int .u8 (x 0 : Int), .int .u8 (x 1 : Int), .int .u8 (x 2 : Int), .int .u8 (x 3 : Int)] 4 (Nat.le_refl _) (by unfold maxLen; omega) rfl
  exact h
theorem row1 (w : World) (A : Int) (x : Nat → Nat) (h0 : A = (x 0 : Int)) (hl : x 0 < 256) :
    OwnB w.heap.size (w.alloc (.cells #[.int .u8 A] 5)) (.slice (some ⟨w.heap.size, 0, none⟩) 1 1) 1 x := by
  subst h0
  refine ⟨?_, fun i hi => by obtain rfl : i = 0 := by omega
                             exact hl⟩
  have h := World.ownsRow_lit (base := w.heap.size) (e := 5) (size := 1) w #[.int .u8 (x 0 : Int)] 1 (Nat.le_refl _) (by unfold maxLen; omega) rfl
  exact h
theorem wd_lt (u : Nat) : ∀ i, i < 4 → wd u i < 256 := fun i _ => Nat.mod_lt _ (by omega)
theorem or_bits (a b c d : Nat) (ha : a < 256) (hb : b < 256) (hc : c < 256) (hd : d < 256) :
    bits .or .u32 (bits .or .u32 (bits .or .u32 (a : Int) ((b : Int) * 256)) ((c : Int) * 65536)) ((d : Int) * 16777216) = ((a + b * 256 + c * 65536 + d * 16777216 : Nat) : Int) := by
  have e1 : ((b : Int) * 256) = ((b * 256 : Nat) : Int) := by simp
  have e2 : ((c : Int) * 65536) = ((c * 65536 : Nat) : Int) := by simp
  have e3 : ((d : Int) * 16777216) = ((d * 16777216 : Nat) : Int) := by simp
  rw [e1, e2, e3, u32_or_nat _ _ (by omega) (by omega), u32_or_nat _ _ (Nat.or_lt_two_pow (n := 32) (by omega) (by omega)) (by omega), u32_or_nat _ _ (Nat.or_lt_two_pow (n := 32) (Nat.or_lt_two_pow (n := 32) (by omega) (by omega)) (by omega)) (by omega), or_word a b c d ha hb hc hd]
set_option maxHeartbeats 400000 in
theorem word_any (b off n cap : Nat) (y : Nat → Nat) (h4 : 4 ≤ n) (w : World) (hc : ∀ i, i < n → y i < 256 ∧ w.cell? ⟨b, off + i, none⟩ = some (.int .u8 (y i : Int))) :
    Calls Tryd.prog 18 #[.slice (some ⟨b, off, none⟩) n cap] w fun e w' => e = .returned (.int .u32 (w32 y : Nat)) ∧ ∃ m, w' = w.drewN m := by
  obtain ⟨l0, c0⟩ := hc 0 (by omega)
  obtain ⟨l1, c1⟩ := hc 1 (by omega)
  obtain ⟨l2, c2⟩ := hc 2 (by omega)
  obtain ⟨l3, c3⟩ := hc 3 (by omega)
  rw [Nat.add_zero] at c0
  have HW := hid (or_bits (y 0) (y 1) (y 2) (y 3) l0 l1 l2 l3)
  have e0 : (0 : Int) < (n : Int) := by omega
  have e1 : (1 : Int) < (n : Int) := by omega
  have e2 : (2 : Int) < (n : Int) := by omega
  have e3 : (3 : Int) < (n : Int) := by omega
  have HR : Hid (w32 y = y 0 + y 1 * 256 + y 2 * 65536 + y 3 * 16777216) := rfl
  clear hc h4
  generalize y 0 = a at *
  generalize y 1 = b' at *
  generalize y 2 = c at *
  generalize y 3 = d at *
  go_enter Tryd.func18, Tryd.ntmps18
  go_wp2
  go_quiet (fail)
  go_wp2
  go_ret
  exact ⟨ret_i (by rw [HR.out]; exact HW.out), _, rfl⟩
set_option maxHeartbeats 400000 in
theorem unword_any (b off n cap : Nat) (y : Nat → Nat) (h4 : 4 ≤ n) (w : World) (hc : ∀ i, i < n → y i < 256 ∧ w.cell? ⟨b, off + i, none⟩ = some (.int .u8 (y i : Int))) :
    Calls Tryd.prog 20 #[.slice (some ⟨b, off, none⟩) n cap] w fun e w' => e = .returned (.int .u32 (w32 y : Nat)) ∧ ∃ m, w' = w.drewN m := by
  obtain ⟨l0, c0⟩ := hc 0 (by omega)
  obtain ⟨l1, c1⟩ := hc 1 (by omega)
  obtain ⟨l2, c2⟩ := hc 2 (by omega)
  obtain ⟨l3, c3⟩ := hc 3 (by omega)
  rw [Nat.add_zero] at c0
  have e0 : (0 : Int) < (n : Int) := by omega
  have e1 : (1 : Int) < (n : Int) := by omega
  have e2 : (2 : Int) < (n : Int) := by omega
  have e3 : (3 : Int) < (n : Int) := by omega
  have HR : Hid (w32 y = y 0 + y 1 * 256 + y 2 * 65536 + y 3 * 16777216) := rfl
  clear hc h4
  generalize y 0 = a at *
  generalize y 1 = b' at *
  generalize y 2 = c at *
  generalize y 3 = d at *
  go_enter Tryd.func20, Tryd.ntmps20
  go_wp2
  go_quiet (fail)
  go_wp2
  go_ret
  exact ⟨ret_i (by rw [HR.out]; simp), _, rfl⟩
set_option maxHeartbeats 400000 in
theorem appendWord_any (base : Nat) (v : Value) (n : Nat) (X : Nat → Nat) (u : Nat) (hu : u < 4294967296) (hn : n ≤ 1000000) (w : World) (hown : OwnB base w v n X) (hbase : base ≤ w.heap.size) :
    Calls Tryd.prog 15 #[v, .int .u32 (u : Int)] w fun e w' => ∃ v', e = .returned v' ∧ OwnB base w' v' (n + 4) (cat n X (wd u)) ∧ Grew w v w' v' := by
  have HO := hid hown
  clear hown
  have HR := hid (row4 w ((u : Int) % 256) ((u : Int) / 256 % 256) ((u : Int) / 65536 % 256) ((u : Int) / 16777216) (wd u) (by simp [wd]) (by simp [wd]) (by simp [wd]) (by simp [wd]; omega) (wd_lt u))
  go_enter Tryd.func15, Tryd.ntmps15
  go_wp2_with (at_builtin; refine wp_app rfl (.tmp 5) (.tmp 17) rfl base v _ n 4 X (wd u) rfl rfl (HO.out.alloc _) HR.out.row (by omega) (by simp; omega) ?_; intro v' w1 hown hgr hbel)
  go_ret
  exact ⟨_, rfl, hown, ((Grew.refl w v).alloc _).trans hgr⟩
set_option maxHeartbeats 400000 in
theorem refWord_any (u : Nat) (hu : u < 4294967296) (w : World) :
    Calls Tryd.prog 17 #[.int .u32 (u : Int)] w fun e w' => e = .returned (.slice (some ⟨w.heap.size, 0, none⟩) 4 4) ∧ OwnB w.heap.size w' (.slice (some ⟨w.heap.size, 0, none⟩) 4 4) 4 (wd u) ∧ Up w w' := by
  have HR := hid (row4 w ((u : Int) % 256) ((u : Int) / 256 % 256) ((u : Int) / 65536 % 256) ((u : Int) / 16777216) (wd u) (by simp [wd]) (by simp [wd]) (by simp [wd]) (by simp [wd]; omega) (wd_lt u))
  go_enter Tryd.func17, Tryd.ntmps17
  go_wp2
  go_ret
  exact ⟨rfl, HR.out, (Up.refl w).alloc _⟩
set_option maxHeartbeats 400000 in
theorem join_some (base : Nat) (v : Value) (n b off m cap : Nat) (X Y : Nat → Nat) (hnm : n + m ≤ 140737488355328) (w : World) (hown : OwnB base w v n X) (hbase : base ≤ w.heap.size) (hc : ∀ i, i < m → Y i < 256 ∧ w.cell? ⟨b, off + i, none⟩ = some (.int .u8 (Y i : Int))) (hne : some b ≠ v.ownBlock) :
    Calls Tryd.prog 16 #[v, .slice (some ⟨b, off, none⟩) m cap] w fun e w' => ∃ v', e = .returned v' ∧ OwnB base w' v' (n + m) (cat n X Y) ∧ Grew w v w' v' := by
  have HC := hid hc
  have HO := hid hown
  have HB := hid hne
  clear hc hown hne
  go_enter Tryd.func16, Tryd.ntmps16
  go_wp2
  go_loopw [0, 5] (fun a i wr => ∃ k : Nat, k ≤ m ∧ i = .int .i64 (k : Nat) ∧ OwnB base wr a (n + k) (cat n X Y) ∧ Grew w v wr a) (fun _ i _ => m - (intOf i).toNat)
  case atStart => exact ⟨0, Nat.zero_le _, rfl, HO.out.congr (fun i hi => by simp [cat, hi]), Grew.refl _ _⟩
  case round =>
    rename_i a i
    obtain ⟨k, hk, rfl, ho, hg⟩ := hrel
    by_cases hlt : k < m
    · have hcell := hg.by_.cell (HC.out k hlt).2 HB.out
      have hy := (HC.out k hlt).1
      have HOk := hid ho
      have HR := hid (row1 wr (Y k) (fun _ => Y k) rfl hy)
      have hbs := hid (Nat.le_trans hbase hg.by_.size)
      clear ho HC
      go_wp2_with (at_builtin; refine wp_app rfl (.tmp 12) (.tmp 17) rfl base _ _ (n + k) 1 (cat n X Y) (fun _ => Y k) rfl rfl (HOk.out.alloc _) HR.out.row (by omega) (by have := hbs.out; simp; omega) ?_; intro v' w1 hown hgr hbel)
      go_roundw
      case rel => exact ⟨k + 1, hlt, by go_num, (show OwnB base w1 v' (n + (k + 1)) (cat (n + k) (cat n X Y) fun _ => Y k) from hown).congr (fun i hi => by unfold cat; by_cases h1 : i < n + k <;> by_cases h2 : i < n <;> simp [h1, h2] <;> first | omega | (congr 1; omega)), hg.trans (((Grew.refl _ _).alloc _).trans hgr)⟩
      case measure => simp [intOf]; omega
    · obtain rfl : k = m := by omega
      go_wp2
      go_ret
      exact ⟨_, rfl, ho, hg⟩
set_option maxHeartbeats 400000 in
theorem join_none (base : Nat) (v : Value) (n : Nat) (a : Option Addr) (c : Nat) (X Y : Nat → Nat) (w : World) (hown : OwnB base w v n X) :
    Calls Tryd.prog 16 #[v, .slice a 0 c] w fun e w' => ∃ v', e = .returned v' ∧ OwnB base w' v' (n + 0) (cat n X Y) ∧ Grew w v w' v' := by
  have HO := hid hown
  clear hown
  go_enter Tryd.func16, Tryd.ntmps16
  go_wp2
  refine wp_loop_rounds 1 ?_
  rw [rounds_succ]
  go_wp2
  go_ret
  exact ⟨_, rfl, HO.out.congr (fun i hi => by simp [cat, hi]), Grew.refl _ _⟩
set_option maxHeartbeats 400000 in
theorem join_any (base : Nat) (v u : Value) (n m : Nat) (X Y : Nat → Nat) (hnm : n + m ≤ 140737488355328) (w : World) (hown : OwnB base w v n X) (hbase : base ≤ w.heap.size) (hu : ByRow w u m Y) (hne : m = 0 ∨ u.ownBlock ≠ v.ownBlock) :
    Calls Tryd.prog 16 #[v, u] w fun e w' => ∃ v', e = .returned v' ∧ OwnB base w' v' (n + m) (cat n X Y) ∧ Grew w v w' v' := by
  rcases hu with ⟨rfl, a, c, rfl, _⟩ | ⟨hm, _, b, off, cap, rfl, hc, _⟩
  · exact join_none base v n a c X Y w hown
  · refine join_some base v n b off m cap X Y hnm w hown hbase hc ?_
    rcases hne with h | h
    · omega
    · exact h
end Go.Proofs.YtobdgdcccogghabDoor
