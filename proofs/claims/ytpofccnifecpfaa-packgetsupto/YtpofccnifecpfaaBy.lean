/- What the small functions over rows of bytes return: SameBytes at equal rows, bytes.Clone, Join, words of 32 bits as bytes and back; conditions: the lengths fit. -/
import Derived.Test.YtpofccnifecpfaaOb
import Derived.Deep.QuietTactic
import Derived.BigQuiet
import Derived.Deep.Draws
namespace Go.Proofs.Ytpofccnifecpfaa
open Go.RowKit
/-- The four bytes of a word, the least first. -/
def wd (u : Nat) : Nat → Nat := fun i => u / 256 ^ i % 256
/-- The word of four bytes. -/
def w32 (y : Nat → Nat) : Nat := y 0 + y 1 * 256 + y 2 * 65536 + y 3 * 16777216
theorem w32_wd (u : Nat) (h : u < 4294967296) : w32 (wd u) = u := by unfold w32 wd; simp; omega
theorem w32_lt (y : Nat → Nat) (h : ∀ i, i < 4 → y i < 256) : w32 y < 4294967296 := by
  have := h 0 (by omega); have := h 1 (by omega); have := h 2 (by omega); have := h 3 (by omega)
  unfold w32; omega
theorem or_word (a b c d : Nat) (ha : a < 256) (hb : b < 256) (hc : c < 256) (_hd : d < 256) : a ||| b * 256 ||| c * 65536 ||| d * 16777216 = a + b * 256 + c * 65536 + d * 16777216 := by
  rw [Nat.or_comm a, nat_join 8 (b * 256) a (by omega) (by omega)]
  rw [Nat.or_comm (b * 256 + a), nat_join 16 (c * 65536) _ (by omega) (by omega)]
  rw [Nat.or_comm (c * 65536 + _), nat_join 24 (d * 16777216) _ (by omega) (by omega)]
  omega
set_option maxHeartbeats 400000 in
theorem sameBytes_some (b1 o1 c1 b2 o2 c2 n : Nat) (x : Nat → Nat) (hm : n ≤ maxLen) (w : World) (hx : ∀ i, i < n → w.cell? ⟨b1, o1 + i, none⟩ = some (.int .u8 (x i : Int))) (hy : ∀ i, i < n → w.cell? ⟨b2, o2 + i, none⟩ = some (.int .u8 (x i : Int))) :
    Calls Try.prog 11 #[.slice (some ⟨b1, o1, none⟩) n c1, .slice (some ⟨b2, o2, none⟩) n c2] w fun e w' => e = .returned (.bool true) ∧ ∃ m, w' = w.drewN m := by
  unfold maxLen at hm
  have HX := hid hx
  have HY := hid hy
  clear hx hy
  go_enter Try.func11, Try.ntmps11
  go_wp2
  go_loopw [5] (fun i wx => ∃ k m : Nat, k ≤ n ∧ i = .int .i64 k ∧ wx = w.drewN m) (fun i _ => n - (intOf i).toNat)
  case atStart => exact ⟨0, 0, Nat.zero_le _, rfl, rfl⟩
  case round =>
    obtain ⟨k, m, hk, rfl, rfl⟩ := hrel
    by_cases hlt : k < n
    · have cx := HX.out k hlt
      have cy := HY.out k hlt
      have l1 : (0 : Int) ≤ (k : Int) := by omega
      have l2 : (k : Int) < (n : Int) := by omega
      have t : ((x k : Int) != (x k : Int)) = false := by simp
      go_wp2
      go_quiet (fail)
      go_wp2
      exact ⟨⟨k + 1, _, hlt, by go_num, rfl⟩, by simp [intOf]; omega⟩
    · go_wp2
      go_ret
      exact ⟨rfl, m, rfl⟩
set_option maxHeartbeats 400000 in
theorem sameBytes_none (a b : Option Addr) (c d : Nat) (w : World) :
    Calls Try.prog 11 #[.slice a 0 c, .slice b 0 d] w fun e w' => e = .returned (.bool true) ∧ ∃ m, w' = w.drewN m := by
  go_enter Try.func11, Try.ntmps11
  go_wp2
  refine wp_loop_rounds 1 ?_
  rw [rounds_succ]
  go_wp2
  go_ret
  exact ⟨rfl, 0, rfl⟩
set_option maxHeartbeats 400000 in
theorem sameBytes_eq (u v : Value) (n : Nat) (x y : Nat → Nat) (w : World) (hu : ByRow w u n x) (hv : ByRow w v n y) (he : ∀ i, i < n → x i = y i) :
    Calls Try.prog 11 #[u, v] w fun e w' => e = .returned (.bool true) ∧ ∃ m, w' = w.drewN m := by
  rcases hu with ⟨rfl, a, c, rfl, _⟩ | ⟨hn, hm, b, off, cap, rfl, hc, _⟩
  · rcases hv with ⟨_, b, d, rfl, _⟩ | ⟨hn, _⟩
    · exact sameBytes_none a b c d w
    · omega
  · rcases hv with ⟨h0, _⟩ | ⟨_, _, b2, off2, cap2, rfl, hc2, _⟩
    · omega
    · exact sameBytes_some _ _ _ _ _ _ _ x hm w (fun i hi => (hc i hi).2) (fun i hi => by rw [he i hi]; exact (hc2 i hi).2)
set_option maxHeartbeats 400000 in
theorem clone_any (v : Value) (n : Nat) (x : Nat → Nat) (w : World) (hv : ByRow w v n x) (hb : n ≤ 140737488355328) :
    Calls Try.prog 39 #[v] w fun e w' => ∃ v', e = .returned v' ∧ OwnB w.heap.size w' v' n x ∧ Up w w' := by
  have hval : ∃ a c, v = .slice a n c ∧ (a = none → n = 0) := by
    rcases hv with ⟨rfl, a, c, rfl, _⟩ | ⟨_, _, b, off, cap, rfl, _⟩
    · exact ⟨a, c, rfl, fun _ => rfl⟩
    · exact ⟨_, _, rfl, fun h => by cases h⟩
  obtain ⟨a, c, rfl, hnone⟩ := hval
  have HV := hid hv
  clear hv
  have heq := fun w => Lib.run_eql_slice_nil (P := Try.prog) w 22 5 a n c 0 0 Try.underlying22
  cases a with
  | none =>
    obtain rfl := hnone rfl
    go_enter Try.func39, Try.ntmps39
    go_wp2
    go_ret
    exact ⟨_, rfl, OwnB.nil _ _ _, Up.refl _⟩
  | some ad =>
    clear hnone
    go_enter Try.func39, Try.ntmps39
    go_wp2_with (at_builtin; refine wp_app rfl (.tmp 5) (.tmp 6) rfl w.heap.size _ _ 0 n (fun _ => 0) x rfl rfl (OwnB.empty (Nat.le_refl _) rfl) (HV.out.up ((Up.refl w).alloc _)) (by omega) (by simp) ?_; intro v' w1 hown hgr hbel)
    go_ret
    exact ⟨_, rfl, by rw [Nat.zero_add] at hown; exact hown.congr (fun i _ => by simp [cat]), Below.trans ((Up.refl w).alloc _) hbel⟩
end Go.Proofs.Ytpofccnifecpfaa
