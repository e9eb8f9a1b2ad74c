/- Two rows of numbers held against each other, and a row copied; flo.Sort at no number; conditions: the rows lie in memory. -/
import Derived.Test.YtbkbnfgjkefcmaaGreatFom
import Derived.Deep.QuietTactic
import Derived.BigQuiet
namespace Go.Proofs.YtbkbnfgjkefcmaaGreat
open Go.Shelf Go.RowKit Go.Lib Go.Sort
set_option linter.unusedVariables false
attribute [local go_sem] run_bits run_frombits run_store_float eqF
set_option maxHeartbeats 1000000 in
set_option maxRecDepth 20000 in
theorem sameKeys_eq (b1 o1 c1 b2 o2 c2 n : Nat) (x : Nat → Nat) (hm : n ≤ maxLen) (w : World) (hx : ∀ i, i < n → w.cell? ⟨b1, o1 + i, none⟩ = some (.float .f64 (x i))) (hy : ∀ i, i < n → w.cell? ⟨b2, o2 + i, none⟩ = some (.float .f64 (x i))) :
    Calls Tryz.prog 40 #[.slice (some ⟨b1, o1, none⟩) n c1, .slice (some ⟨b2, o2, none⟩) n c2] w fun e w' => e = .returned (.bool true) ∧ Old w w' := by
  unfold maxLen at hm
  have HX := hid hx
  have HY := hid hy
  clear hx hy
  go_enter Tryz.func40, Tryz.ntmps40
  go_wp2
  go_loopw [5] (fun i wx => ∃ k : Nat, k ≤ n ∧ i = .int .i64 k ∧ Old w wx) (fun i _ => n - (intOf i).toNat)
  case atStart => exact ⟨0, Nat.zero_le _, rfl, Old.refl _⟩
  case round =>
    obtain ⟨k, hk, rfl, hup⟩ := hrel
    by_cases hlt : k < n
    · have cx := hup.keep (HX.out k hlt)
      have cy := hup.keep (HY.out k hlt)
      have l1 : (0 : Int) ≤ (k : Int) := by omega
      have l2 : (k : Int) < (n : Int) := by omega
      have t : ((x k : Int) != (x k : Int)) = false := by simp
      clear HX HY
      go_wp2
      go_quiet (fail)
      go_wp2
      exact ⟨⟨k + 1, hlt, by go_num, hup.drewN _⟩, by simp [intOf]; omega⟩
    · obtain rfl : n = k := by omega
      go_wp2
      go_ret
      exact ⟨rfl, hup⟩
set_option maxHeartbeats 400000 in
set_option maxRecDepth 20000 in
theorem sameKeys_none (a b : Option Addr) (c d : Nat) (w : World) :
    Calls Tryz.prog 40 #[.slice a 0 c, .slice b 0 d] w fun e w' => e = .returned (.bool true) ∧ w' = w := by
  go_enter Tryz.func40, Tryz.ntmps40
  go_wp2
  refine wp_loop_rounds 1 ?_
  rw [rounds_succ]
  go_wp2
  go_ret
  exact ⟨rfl, rfl⟩
set_option maxHeartbeats 400000 in
set_option maxRecDepth 20000 in
theorem floSort_none (a : Option Addr) (c : Nat) (w : World) :
    Calls Tryz.prog 96 #[.slice a 0 c] w fun e w' => (∃ g c2, e = .returned (.slice g 0 c2)) ∧ Old w w' := by
  obtain ⟨i0, hi, hz0, hz1, hz2⟩ := info_parts infoFloat
  have HS := hid (fun (W : World) (p : Option Addr) (cc : Nat) (fv : Value) => sort_noneF p cc fv W)
  have HC := hid (fun (W : World) (p : Option Addr) (cc : Nat) (fv : Value) => compact_short p 0 cc fv (by omega) W)
  go_enter Tryz.func96, Tryz.ntmps96
  go_wp2_with (refine wpList_make_own w rfl (.const (.int .i64 0)) (.tmp 7) 28 rfl w.heap.size 43 i0 (.float .f64 0) 1 Tryz.underlying28 hi hz0 hz1 .i64 .i64 _ 0 rfl rfl (by omega) (by omega) (by unfold maxLen; omega) (Nat.le_refl _) ?_; intro w1 ho1 hg1; have u1 : Old w w1 := Below.grown (Below.refl _ _) hg1 (Nat.le_refl _) (fun k hk => by cases hk); have U1 := hid u1; clear ho1 hg1 u1)
  refine wp_loop_rounds 1 ?_
  rw [rounds_succ]
  go_wp2_with (first | (go_at_call 104; refine (HS.out _ _ _ _).mono ?_; rintro e w2 ⟨rfl, hw⟩; have hw2 := hw.symm; subst hw2) | (go_at_call 105; refine (HC.out _ _ _ _).mono ?_; rintro e w3 ⟨rfl, hw⟩; have hw2 := hw.symm; subst hw2))
  go_ret
  exact ⟨⟨_, _, rfl⟩, U1.out⟩
set_option maxHeartbeats 400000 in
set_option maxRecDepth 20000 in
theorem refSort_none (a : Option Addr) (c : Nat) (w : World) :
    Calls Tryz.prog 41 #[.slice a 0 c] w fun e w' => (∃ g c2, e = .returned (.slice g 0 c2)) ∧ Old w w' := by
  go_enter Tryz.func41, Tryz.ntmps41
  go_wp2
  refine wp_loop_rounds 1 ?_
  rw [rounds_succ]
  go_wp2
  go_ret
  exact ⟨⟨_, _, rfl⟩, (Old.refl w).alloc _⟩
/-- 'append(s, x...)' of a row of numbers to an empty one of the call's own. -/
theorem wp_appFs {ops : Array Oper} {rest : List Oper} {o : Oper} {a : Act} {Q : Exit → Act → World → Prop} {w : World} (hgd : o.guard = none) (s x : Operand)
    (ho : o.op = .call { callee := .builtin .append, args := #[s, x], argTypes := #[28, 28] }) (base : Nat) (v : Value) (b off n c : Nat) (y : Nat → Nat)
    (hs : a.eval s = v) (hx : a.eval x = .slice (some ⟨b, off, none⟩) n c) (hown : OwnF base w v []) (hc : ∀ i, i < n → w.cell? ⟨b, off + i, none⟩ = some (.float .f64 (y i))) (hb : n ≤ 17592186044000) (hbase : base ≤ w.heap.size)
    (h : ∀ v' w', OwnF base w' v' ((List.range n).map y) → Below base w w' → wpList Tryz.prog ops Q rest (a.put o.dst v') w') : wpList Tryz.prog ops Q (o :: rest) a w := by
  obtain ⟨i0, hi, hz0, hz1, hz2⟩ := info_parts infoFloat
  refine wpList_append_own w hgd s x 28 ho base 43 i0 _ 1 8 Tryz.underlying28 hi hz0 hz1 hz2 rfl (by decide) v 0 [] hs hown ⟨b, off, none⟩ n c (fls ((List.range n).map y)) hx (by simp [fls]) ?_ ?_ (by unfold maxLen; omega) (by omega) hbase ?_
  · intro j u hj
    by_cases hjn : j < n
    · simp [fls, hjn] at hj
      subst hj
      rw [Go.WideShapes.add_plain]; exact hc j hjn
    · simp [fls, hjn] at hj
  · intro u hu; simp [fls] at hu; obtain ⟨i, _, rfl⟩ := hu; rfl
  · intro v' w' h1 h2 h3
    refine h v' w' ?_ (Below.grown (Below.refl _ _) h2 hbase (fun k hk => (World.ownsRow.lt hown k hk).1))
    unfold OwnF
    simpa using h1
end Go.Proofs.YtbkbnfgjkefcmaaGreat
