/- What the three calls of Read in the law PackFails answer; conditions: the row and the variables lie in memory. -/
import Derived.Test.YtobdgdcccogghaaRg2
namespace Go.Proofs.Ytobdgdcccogghaa
open Go.RowKit
set_option linter.unusedVariables false
theorem enter_1 (args : Array Value) (w : World) : (callFunc 28 args).run Try.prog w = .ok (.enter 28 args) w := by kernel_rfl
theorem enter_2 (args : Array Value) (w : World) : (callFunc 29 args).run Try.prog w = .ok (.enter 29 args) w := by kernel_rfl
theorem enter_3 (args : Array Value) (w : World) : (callFunc 31 args).run Try.prog w = .ok (.enter 31 args) w := by kernel_rfl
set_option maxHeartbeats 400000 in
theorem read1 (bc : Nat) (t : TypeId) (code : Int) (v : Value) (n : Nat) (x : Nat → Nat) (w : World) (hv : ByRow w v n x) (hc : Var w bc t code) (E : Int) (hE : E = if code = 0 then 30 else code) :
    Calls Try.prog 21 #[v, .func (.func 28) #[] #[.pointer (some ⟨bc, 0, none⟩)]] w fun e W4 => e = .returned (.int .i64 E) ∧ Chg [] w W4 := by
  have hval : ∃ a c, v = .slice a n c := by
    rcases hv with ⟨rfl, a, c, rfl, _⟩ | ⟨_, _, b, off, cap, rfl, _⟩
    · exact ⟨a, c, rfl⟩
    · exact ⟨_, _, rfl⟩
  obtain ⟨a, c, rfl⟩ := hval
  refine (read_of 28 _ enter_1 w a n c [] (fun k hk => by simp at hk) (fun _ _ => False) (fun _ cd => cd = E) ?_).mono ?_
  · refine (fails1 (w.heap.size + 1) bc t code n x _ (RS.opened hv) (hc.up (opened_up _ _)) E hE).mono ?_
    rintro e W2 ⟨rfl, hr, hg⟩
    exact ⟨hg, .inr ⟨rfl, E, by rw [hE]; split <;> omega, hr, rfl⟩⟩
  · rintro e W4 ⟨hg, W2, hb, ⟨_, h, _⟩ | ⟨cd, rfl, rfl⟩⟩
    · exact h.elim
    · exact ⟨rfl, hg⟩
set_option maxHeartbeats 400000 in
theorem read2_ok (bs bn bb : Nat) (t0 t1 t2 : TypeId) (most m0 b0 : Int) (v : Value) (n : Nat) (x : Nat → Nat) (w : World) (hv : ByRow w v n x) (hs : Var w bs t0 most) (hm : Var w bn t1 m0) (hb : Var w bb t2 b0) (h3 : bn ≠ bb) (hb0 : 0 ≤ b0) (hb1 : b0 ≤ 100) (hk : lnK x n ≠ 0) (hv0 : 0 ≤ lnV x n) (hv1 : lnV x n ≤ most) (hmx : most ≤ 9223372036854775807) :
    Calls Try.prog 21 #[v, .func (.func 29) #[] #[.pointer (some ⟨bs, 0, none⟩), .pointer (some ⟨bn, 0, none⟩), .pointer (some ⟨bb, 0, none⟩)]] w fun e W4 => e = .returned (.int .i64 (if 0 < n - lnK x n then 30 else 0)) ∧ Var W4 bn t1 (lnV x n) ∧ Var W4 bb t2 (b0 + 1) ∧ Chg [bn, bb] w W4 := by
  have hval : ∃ a c, v = .slice a n c := by
    rcases hv with ⟨rfl, a, c, rfl, _⟩ | ⟨_, _, b, off, cap, rfl, _⟩
    · exact ⟨a, c, rfl⟩
    · exact ⟨_, _, rfl⟩
  obtain ⟨a, c, rfl⟩ := hval
  have l1 := hm.lt
  have l2 := hb.lt
  refine (read_of 29 _ enter_2 w a n c [bn, bb] (fun k hk => by simp at hk; omega) (fun W k => k = n - lnK x n ∧ Var W bn t1 (lnV x n) ∧ Var W bb t2 (b0 + 1)) (fun _ cd => False) ?_).mono ?_
  · refine (fails2_ok (w.heap.size + 1) bs bn bb t0 t1 t2 most m0 b0 n x _ (RS.opened hv) (hs.up (opened_up _ _)) (hm.up (opened_up _ _)) (hb.up (opened_up _ _)) (by omega) (by omega) h3 hb0 hb1 hk hv0 hv1 hmx).mono ?_
    rintro e W2 ⟨rfl, hr, q1, q2, hg⟩
    exact ⟨hg, .inl ⟨rfl, _, hr, rfl, q1, q2⟩⟩
  · rintro e W4 ⟨hg, W2, hbl, ⟨k, ⟨rfl, q1, q2⟩, rfl⟩ | ⟨cd, h, _⟩⟩
    · exact ⟨rfl, (hbl.block _ l1).trans q1, (hbl.block _ l2).trans q2, hg⟩
    · exact h.elim
set_option maxHeartbeats 400000 in
theorem read2_no (bs bn bb : Nat) (t0 : TypeId) (most : Int) (v : Value) (n : Nat) (x : Nat → Nat) (w : World) (hv : ByRow w v n x) (hs : Var w bs t0 most) (hk : lnK x n = 0 ∨ lnV x n < 0 ∨ most < lnV x n) :
    Calls Try.prog 21 #[v, .func (.func 29) #[] #[.pointer (some ⟨bs, 0, none⟩), .pointer (some ⟨bn, 0, none⟩), .pointer (some ⟨bb, 0, none⟩)]] w fun e W4 => e = .returned (.int .i64 30) ∧ Chg [] w W4 := by
  have hval : ∃ a c, v = .slice a n c := by
    rcases hv with ⟨rfl, a, c, rfl, _⟩ | ⟨_, _, b, off, cap, rfl, _⟩
    · exact ⟨a, c, rfl⟩
    · exact ⟨_, _, rfl⟩
  obtain ⟨a, c, rfl⟩ := hval
  refine (read_of 29 _ enter_2 w a n c [] (fun k hk => by simp at hk) (fun _ _ => False) (fun _ cd => cd = 30) ?_).mono ?_
  · refine (fails2_no (w.heap.size + 1) bs bn bb t0 most n x _ (RS.opened hv) (hs.up (opened_up _ _)) hk).mono ?_
    rintro e W2 ⟨rfl, hr, hg⟩
    exact ⟨hg, .inr ⟨rfl, 30, by omega, hr, rfl⟩⟩
  · rintro e W4 ⟨hg, W2, hb, ⟨_, h, _⟩ | ⟨cd, rfl, rfl⟩⟩
    · exact h.elim
    · exact ⟨rfl, hg⟩
set_option maxHeartbeats 400000 in
theorem read3_ok (bm bb : Nat) (t1 t2 : TypeId) (m0 b0 : Int) (v : Value) (n : Nat) (x : Nat → Nat) (w : World) (hv : ByRow w v n x) (hm : Var w bm t1 m0) (hb : Var w bb t2 b0) (h3 : bm ≠ bb) (hb0 : 0 ≤ b0) (hb1 : b0 ≤ 100) (hk : lnK x n ≠ 0) :
    Calls Try.prog 21 #[v, .func (.func 31) #[] #[.pointer (some ⟨bm, 0, none⟩), .pointer (some ⟨bb, 0, none⟩)]] w fun e W4 => e = .returned (.int .i64 (if 0 < n - lnK x n then 30 else 0)) ∧ Var W4 bm t1 (lnV x n) ∧ Var W4 bb t2 (b0 + 1) ∧ Chg [bm, bb] w W4 := by
  have hval : ∃ a c, v = .slice a n c := by
    rcases hv with ⟨rfl, a, c, rfl, _⟩ | ⟨_, _, b, off, cap, rfl, _⟩
    · exact ⟨a, c, rfl⟩
    · exact ⟨_, _, rfl⟩
  obtain ⟨a, c, rfl⟩ := hval
  have l1 := hm.lt
  have l2 := hb.lt
  refine (read_of 31 _ enter_3 w a n c [bm, bb] (fun k hk => by simp at hk; omega) (fun W k => k = n - lnK x n ∧ Var W bm t1 (lnV x n) ∧ Var W bb t2 (b0 + 1)) (fun _ cd => False) ?_).mono ?_
  · refine (fails3_ok (w.heap.size + 1) bm bb t1 t2 m0 b0 n x _ (RS.opened hv) (hm.up (opened_up _ _)) (hb.up (opened_up _ _)) (by omega) (by omega) h3 hb0 hb1 hk).mono ?_
    rintro e W2 ⟨rfl, hr, q1, q2, hg⟩
    exact ⟨hg, .inl ⟨rfl, _, hr, rfl, q1, q2⟩⟩
  · rintro e W4 ⟨hg, W2, hbl, ⟨k, ⟨rfl, q1, q2⟩, rfl⟩ | ⟨cd, h, _⟩⟩
    · exact ⟨rfl, (hbl.block _ l1).trans q1, (hbl.block _ l2).trans q2, hg⟩
    · exact h.elim
set_option maxHeartbeats 400000 in
theorem read3_no (bm bb : Nat) (v : Value) (n : Nat) (x : Nat → Nat) (w : World) (hv : ByRow w v n x) (hk : lnK x n = 0) :
    Calls Try.prog 21 #[v, .func (.func 31) #[] #[.pointer (some ⟨bm, 0, none⟩), .pointer (some ⟨bb, 0, none⟩)]] w fun e W4 => e = .returned (.int .i64 30) ∧ Chg [] w W4 := by
  have hval : ∃ a c, v = .slice a n c := by
    rcases hv with ⟨rfl, a, c, rfl, _⟩ | ⟨_, _, b, off, cap, rfl, _⟩
    · exact ⟨a, c, rfl⟩
    · exact ⟨_, _, rfl⟩
  obtain ⟨a, c, rfl⟩ := hval
  refine (read_of 31 _ enter_3 w a n c [] (fun k hk => by simp at hk) (fun _ _ => False) (fun _ cd => cd = 30) ?_).mono ?_
  · refine (fails3_no (w.heap.size + 1) bm bb n x _ (RS.opened hv) hk).mono ?_
    rintro e W2 ⟨rfl, hr, hg⟩
    exact ⟨hg, .inr ⟨rfl, 30, by omega, hr, rfl⟩⟩
  · rintro e W4 ⟨hg, W2, hb, ⟨_, h, _⟩ | ⟨cd, rfl, rfl⟩⟩
    · exact h.elim
    · exact ⟨rfl, hg⟩
end Go.Proofs.Ytobdgdcccogghaa
