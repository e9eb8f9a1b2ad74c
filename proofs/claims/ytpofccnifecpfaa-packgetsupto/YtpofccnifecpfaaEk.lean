/- Keys and bytes as pack appends them, and appendVal at every value that is right; conditions: the rows lie in memory, the lengths fit. -/
import Derived.Test.YtpofccnifecpfaaVa
import Derived.Test.YtpofccnifecpfaaCk
import Derived.Deep.AppendLies
import Derived.Deep.RegionLaw
namespace Go.Proofs.Ytpofccnifecpfaa
open Go.RowKit
set_option linter.unusedVariables false
attribute [local go_sem] run_bits run_frombits run_store_float
/-- The eight bytes of a code, the greatest first: the first k of them. -/
def keyL (c : Nat) : Nat → List Nat | 0 => [] | k + 1 => keyL c k ++ [c / 2 ^ (56 - 8 * k) % 256]
theorem keyL_len (c : Nat) : ∀ k, (keyL c k).length = k | 0 => rfl | k + 1 => by simp [keyL, keyL_len c k]
set_option maxRecDepth 20000 in
set_option maxHeartbeats 1000000 in
theorem appendKey_any (base : Nat) (v : Value) (L : List Nat) (x : Nat) (hx : Fl.W x) (hn : L.length ≤ 70368744177664) (w : World) (hown : OwnL base w v L) (hbase : base ≤ w.heap.size) :
    Calls Try.prog 45 #[v, .float .f64 x] w fun e w' => ∃ v', e = .returned v' ∧ OwnL base w' v' (L ++ keyL (Fl.code x) 8) ∧ Grew w v w' v' := by
  have HO := hid hown
  have hnn := hid hn
  have HC := hid (code_any x hx w)
  have hcl := hid (Fl.code_le x hx)
  clear hown hn hx
  generalize Fl.code x = c at *
  go_enter Try.func45, Try.ntmps45
  go_wp2_with (go_at_call 55; refine HC.out.mono ?_; rintro e w' ⟨rfl, hw⟩; have hw2 := hw.symm; subst hw2)
  go_loopw [0, 6] (fun a s wr => ∃ k : Nat, k ≤ 8 ∧ s = .int .i64 (56 - 8 * (k : Int)) ∧ OwnL base wr a (L ++ keyL c k) ∧ Grew w v wr a) (fun _ s _ => (intOf s + 8).toNat)
  case atStart => exact ⟨0, by omega, rfl, by simpa [keyL] using HO.out, Grew.refl _ _⟩
  case round =>
    obtain ⟨k, hk, rfl, ho, hg⟩ := hrel
    have HOk := hid ho
    have hbs := hid (Nat.le_trans hbase hg.by_.size)
    have hkl := hid (keyL_len c k)
    clear ho
    by_cases hlt : k < 8
    · have t0 : (0 : Int) ≤ 56 - 8 * (k : Int) := by omega
      have hcast : ((c : Int) / 2 ^ (56 - 8 * k) % 256) = ((c / 2 ^ (56 - 8 * k) % 256 : Nat) : Int) := by simp
      have HR := hid (row1L wr _ (c / 2 ^ (56 - 8 * k) % 256) hcast (Nat.mod_lt _ (by omega)))
      clear hcast
      have HK : Hid (keyL c (k + 1) = keyL c k ++ [c / 2 ^ (56 - 8 * k) % 256]) := rfl
      go_wp2_with (at_builtin; refine wp_app rfl (.tmp 13) (.tmp 18) rfl base _ _ (L ++ keyL c k).length [c / 2 ^ (56 - 8 * k) % 256].length (gd (L ++ keyL c k)) (gd [c / 2 ^ (56 - 8 * k) % 256]) rfl rfl (HOk.out.alloc _) HR.out (by have := hnn.out; have := hkl.out; simp; omega) (by have := hbs.out; simp; omega) ?_; intro v' w1 hown hgr1 hbel)
      go_roundw
      case rel => exact ⟨k + 1, hlt, by go_num, by rw [HK.out, ← List.append_assoc]; exact OwnL.app hown, hg.trans (((Grew.refl _ _).alloc _).trans hgr1)⟩
      case measure => simp [intOf]; omega
    · obtain rfl : k = 8 := by omega
      go_wp2
      go_ret
      exact ⟨_, rfl, HOk.out, hg⟩
set_option maxHeartbeats 400000 in
theorem appendVal_key (base : Nat) (v : Value) (L : List Nat) (p : PV) (hk : p.k = 2) (hn : L.length ≤ 70368744177664) (w : World) (hp : PV.In w p) (hown : OwnL base w v L) (hbase : base ≤ w.heap.size) :
    Calls Try.prog 30 #[v, p.agg] w fun e w' => ∃ v', e = .returned v' ∧ OwnL base w' v' (L ++ keyL (Fl.code p.x) 8) ∧ Grew w v w' v' := by
  obtain ⟨a, c, hb⟩ := PV.slice hp
  have HN := hid (fun (W : World) (hW : OwnL base W v L) (hb : base ≤ W.heap.size) => appendKey_any base v L p.x (by unfold Fl.W; exact hp.xin) hn W hW hb)
  obtain ⟨k, n, x, b, bn, bx, on⟩ := p
  simp only at hb hk
  subst hb hk
  have HO := hid hown
  clear hp hown hn
  unfold PV.agg
  simp only at HN ⊢
  generalize keyL (Fl.code x) 8 = K at *
  go_enter Try.func30, Try.ntmps30
  go_wp2_with (go_at_call 45; refine (HN.out _ (HO.out.alloc _) (by simp; omega)).mono ?_; rintro e w1 ⟨v1, rfl, o1, g1⟩; have H1 := hid o1; clear o1)
  go_ret
  exact ⟨_, rfl, H1.out, ((Grew.refl _ _).alloc _).trans g1⟩
end Go.Proofs.Ytpofccnifecpfaa
