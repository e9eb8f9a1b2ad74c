/- Numbers, flags and keys as bytes, as pack appends them: in plain lists and as contracts; conditions: the lengths fit. -/
import Derived.Test.YtpofccnifecpfaaLn
namespace Go.Proofs.Ytpofccnifecpfaa
open Go.RowKit
set_option linter.unusedVariables false
def gd (L : List Nat) : Nat → Nat := fun i => L.getD i 0
theorem gd_cat (L M : List Nat) (i : Nat) (h : i < (L ++ M).length) : cat L.length (gd L) (gd M) i = gd (L ++ M) i := by
  unfold cat gd
  by_cases hi : i < L.length
  · simp [hi, List.getD, List.getElem?_append_left hi]
  · simp [hi, List.getD, List.getElem?_append_right (by omega : L.length ≤ i)]
/-- The slice value v owns the bytes L. -/
def OwnL (base : Nat) (w : World) (v : Value) (L : List Nat) : Prop := OwnB base w v L.length (gd L)
theorem OwnL.app {base : Nat} {w : World} {v : Value} {L M : List Nat} (h : OwnB base w v (L.length + M.length) (cat L.length (gd L) (gd M))) : OwnL base w v (L ++ M) := by
  unfold OwnL
  rw [List.length_append]
  exact h.congr (fun i hi => gd_cat L M i (by rw [List.length_append]; exact hi))
theorem row1L (w : World) (A : Int) (c : Nat) (h0 : A = (c : Int)) (hl : c < 256) :
    ByRow (w.alloc (.cells #[.int .u8 A] 5)) (.slice (some ⟨w.heap.size, 0, none⟩) 1 1) [c].length (gd [c]) := by
  subst h0
  refine .inr ⟨by simp, by unfold maxLen; simp, w.heap.size, 0, 1, rfl, fun i hi => ?_, by simp, by unfold maxLen; omega⟩
  obtain rfl : i = 0 := by simpa using hi
  exact ⟨hl, cell_new _ _ _ _ _ _ rfl⟩
def fold (z : Int) : Nat := if 0 ≤ z then (2 * z).toNat else (-2 * z - 1).toNat
theorem fold_lt (z : Int) (h1 : -9223372036854775808 ≤ z) (h2 : z ≤ 9223372036854775807) : fold z < 18446744073709551616 := by unfold fold; split <;> omega
theorem unf_fold (z : Int) : unf (fold z) = z := by
  unfold unf fold
  split
  · split <;> omega
  · split <;> omega
theorem fold_unf (u : Nat) : fold (unf u) = u := by
  unfold unf fold
  split
  · split <;> omega
  · split <;> omega
def grp : Nat → Nat → List Nat
  | 0, u => [u]
  | f + 1, u => if u < 128 then [u] else (u % 128 + 128) :: grp f (u / 128)
def numL (z : Int) : List Nat := grp 10 (fold z)
theorem grp_small (f u : Nat) (h : u < 128) : grp f u = [u] := by cases f with
  | zero => rfl
  | succ f => unfold grp; rw [if_pos h]
theorem grp_big (f u : Nat) (h : ¬ u < 128) : grp (f + 1) u = (u % 128 + 128) :: grp f (u / 128) := by
  conv => lhs; unfold grp
  rw [if_neg h]
theorem grp_len (f : Nat) : ∀ u, (grp f u).length ≤ f + 1 := by
  induction f with
  | zero => intro u; simp [grp]
  | succ f ih => intro u; unfold grp; split; simp; simp; exact ih _
theorem folded_bits (z : Int) (h1 : -9223372036854775808 ≤ z) (h2 : z ≤ 9223372036854775807) :
    bits .xor .u64 (IntKind.u64.wrap (IntKind.u64.wrap z * 2)) (IntKind.u64.wrap (z / 9223372036854775808)) = (fold z : Int) := by
  have ew : ∀ y : Int, IntKind.u64.wrap y = y % 18446744073709551616 := fun y => by simp [IntKind.wrap, IntKind.bits, IntKind.signed]
  rw [ew, ew, ew]
  unfold fold
  by_cases hz : 0 ≤ z
  · rw [if_pos hz, show z / 9223372036854775808 = 0 by omega, show (0 : Int) % 18446744073709551616 = ((0 : Nat) : Int) by rfl]
    rw [show (z % 18446744073709551616 * 2) % 18446744073709551616 = (((2 * z).toNat : Nat) : Int) by omega, u64_xor_nat _ 0 (by omega) (by omega), Nat.xor_zero]
  · rw [if_neg hz, show z / 9223372036854775808 = -1 by omega, show (-1 : Int) % 18446744073709551616 = ((18446744073709551615 : Nat) : Int) by decide]
    rw [show (z % 18446744073709551616 * 2) % 18446744073709551616 = (((18446744073709551616 + 2 * z).toNat : Nat) : Int) by omega, u64_xor_nat _ _ (by omega) (by omega)]
    congr 1
    have hb : (18446744073709551616 + 2 * z).toNat < 18446744073709551616 := by omega
    have e : ((BitVec.ofNat 64 (18446744073709551616 + 2 * z).toNat) ^^^ BitVec.allOnes 64).toNat = 18446744073709551615 - (18446744073709551616 + 2 * z).toNat := by
      rw [BitVec.xor_allOnes, BitVec.toNat_not, BitVec.toNat_ofNat, Nat.mod_eq_of_lt (by omega)]
    rw [BitVec.toNat_xor, BitVec.toNat_allOnes, BitVec.toNat_ofNat, Nat.mod_eq_of_lt (by omega)] at e
    rw [show (18446744073709551615 : Nat) = 2 ^ 64 - 1 by decide, e]
    omega
set_option maxHeartbeats 400000 in
theorem folded_any (z : Int) (h1 : -9223372036854775808 ≤ z) (h2 : z ≤ 9223372036854775807) (w : World) :
    Calls Try.prog 54 #[.int .i64 z] w fun e w' => e = .returned (.int .u64 (fold z : Int)) ∧ w' = w := by
  go_enter Try.func54, Try.ntmps54
  go_wp2
  go_ret
  exact ⟨ret_i (folded_bits z h1 h2), rfl⟩
theorem or128 (u : Nat) : bits .or .u8 ((u : Int) % 256) 128 = ((u % 128 + 128 : Nat) : Int) := by
  rw [show ((u : Int) % 256) = ((u % 256 : Nat) : Int) by omega]
  have := u8_or_nat (u % 256) 128 (by omega) (by omega)
  rw [show ((128 : Nat) : Int) = 128 from rfl] at this
  rw [this]
  congr 1
  by_cases h : u % 256 < 128
  · rw [Nat.or_comm, nat_join 7 128 (u % 256) rfl (by omega)]; omega
  · have e : u % 256 = 128 ||| (u % 128) := by rw [nat_join 7 128 (u % 128) rfl (by omega)]; omega
    rw [e, Nat.or_comm, ← Nat.or_assoc, Nat.or_self, nat_join 7 128 (u % 128) rfl (by omega)]; omega
set_option maxRecDepth 20000 in
set_option maxHeartbeats 1000000 in
theorem appendNum_any (base : Nat) (v : Value) (L : List Nat) (z : Int) (h1 : -9223372036854775808 ≤ z) (h2 : z ≤ 9223372036854775807) (hn : L.length ≤ 70368744177664) (w : World) (hown : OwnL base w v L) (hbase : base ≤ w.heap.size) :
    Calls Try.prog 44 #[v, .int .i64 z] w fun e w' => ∃ v', e = .returned v' ∧ OwnL base w' v' (L ++ numL z) ∧ Grew w v w' v' := by
  have HO := hid hown
  have HF := hid (folded_any z h1 h2)
  have hl := hid (fold_lt z h1 h2)
  have hnn := hid hn
  have HG : Hid (numL z = grp 10 (fold z)) := rfl
  clear hown h1 h2 hn
  generalize fold z = u0 at *
  generalize numL z = N at *
  go_enter Try.func44, Try.ntmps44
  go_wp2_with (go_at_call 54; refine (HF.out _).mono ?_; rintro e w' ⟨rfl, hw⟩; have hw2 := hw.symm; subst hw2)
  go_loopw [0, 5] (fun a u wr => ∃ (M : List Nat) (U f : Nat), u = .int .u64 (U : Int) ∧ U < 18446744073709551616 ∧ U < 128 ^ (f + 1) ∧ M.length + f ≤ 10 ∧ M ++ grp f U = N ∧ OwnL base wr a (L ++ M) ∧ Grew w v wr a) (fun _ u _ => (intOf u).toNat)
  case atStart => exact ⟨[], u0, 10, rfl, hl.out, Nat.lt_of_lt_of_le hl.out (by decide), by simp, HG.out.symm, by simpa using HO.out, Grew.refl _ _⟩
  case round =>
    obtain ⟨M, U, f, rfl, hU, hUf, hMf, hgr, ho, hg⟩ := hrel
    have hUU := hid hU
    clear hU
    have HOk := hid ho
    have HGr := hid hgr
    have hbs := hid (Nat.le_trans hbase hg.by_.size)
    clear ho hgr
    by_cases hlt : U < 128
    · have HR := hid (row1L wr (U : Int) U rfl (by omega))
      have hsm := hid (grp_small f U hlt)
      have hN : M ++ [U] = N := by rw [← hsm.out]; exact HGr.out
      have HN := hid hN
      clear hN hUf
      go_wp2_with (at_builtin; refine wp_app rfl (.tmp 18) (.tmp 21) rfl base _ _ (L ++ M).length [U].length (gd (L ++ M)) (gd [U]) rfl rfl (HOk.out.alloc _) HR.out (by have := hnn.out; simp; omega) (by have := hbs.out; simp; omega) ?_; intro v' w1 hown hgr1 hbel)
      go_ret
      exact ⟨_, rfl, by rw [← HN.out, ← List.append_assoc]; exact OwnL.app hown, hg.trans (((Grew.refl _ _).alloc _).trans hgr1)⟩
    · have HR := hid (row1L wr _ (U % 128 + 128) (or128 U) (by omega))
      have hf : f ≠ 0 := by intro h; subst h; simp at hUf; omega
      obtain ⟨f', rfl⟩ : ∃ f', f = f' + 1 := ⟨f - 1, by omega⟩
      have hN : (M ++ [U % 128 + 128]) ++ grp f' (U / 128) = N := by rw [List.append_assoc, List.singleton_append, ← grp_big f' U hlt]; exact HGr.out
      have HN := hid hN
      have hU2 : U / 128 < 128 ^ (f' + 1) := by rw [Nat.pow_succ] at hUf; exact Nat.div_lt_of_lt_mul (by omega)
      have HU2 := hid hU2
      clear hN hUf hU2 hf
      go_wp2_with (at_builtin; refine wp_app rfl (.tmp 10) (.tmp 14) rfl base _ _ (L ++ M).length [U % 128 + 128].length (gd (L ++ M)) (gd [U % 128 + 128]) rfl rfl (HOk.out.alloc _) HR.out (by have := hnn.out; simp; omega) (by have := hbs.out; simp; omega) ?_; intro v' w1 hown hgr1 hbel)
      go_roundw
      case rel => exact ⟨M ++ [U % 128 + 128], U / 128, f', by go_num, by have := hUU.out; omega, HU2.out, by simp; omega, HN.out, by rw [← List.append_assoc]; exact OwnL.app hown, hg.trans (((Grew.refl _ _).alloc _).trans hgr1)⟩
      case measure => simp [intOf]; omega
set_option maxHeartbeats 400000 in
theorem appendFlag_any (base : Nat) (v : Value) (L : List Nat) (on : Bool) (fl : Nat) (hfl : fl = if on then 1 else 0) (hn : L.length ≤ 70368744177664) (w : World) (hown : OwnL base w v L) (hbase : base ≤ w.heap.size) :
    Calls Try.prog 46 #[v, .bool on] w fun e w' => ∃ v', e = .returned v' ∧ OwnL base w' v' (L ++ [fl]) ∧ Grew w v w' v' := by
  have HO := hid hown
  clear hown
  cases on
  · obtain rfl : fl = 0 := hfl
    have HR := hid (row1L w 0 0 rfl (by omega))
    go_enter Try.func46, Try.ntmps46
    go_wp2_with (at_builtin; refine wp_app rfl (.tmp 9) (.tmp 10) rfl base v _ L.length [0].length (gd L) (gd [0]) rfl rfl (HO.out.alloc _) HR.out (by simp; omega) (by simp; omega) ?_; intro v' w1 hown hgr1 hbel)
    go_ret
    exact ⟨_, rfl, OwnL.app hown, ((Grew.refl _ _).alloc _).trans hgr1⟩
  · obtain rfl : fl = 1 := hfl
    have HR := hid (row1L w 1 1 rfl (by omega))
    go_enter Try.func46, Try.ntmps46
    go_wp2_with (at_builtin; refine wp_app rfl (.tmp 6) (.tmp 7) rfl base v _ L.length [1].length (gd L) (gd [1]) rfl rfl (HO.out.alloc _) HR.out (by simp; omega) (by simp; omega) ?_; intro v' w1 hown hgr1 hbel)
    go_ret
    exact ⟨_, rfl, OwnL.app hown, ((Grew.refl _ _).alloc _).trans hgr1⟩
end Go.Proofs.Ytpofccnifecpfaa
