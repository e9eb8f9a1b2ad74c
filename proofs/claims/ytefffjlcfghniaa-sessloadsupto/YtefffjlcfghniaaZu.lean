/- The example that the laws of layer 13 begin with; Put as the laws call it; no condition. -/
import Derived.Test.YtefffjlcfghniaaZt
import Derived.Deep.QuietTactic
namespace Go.Proofs.Ytefffjlcfghniaa
open Go.RowKit Go.Lib
set_option linter.unusedVariables false
set_option linter.unusedSimpArgs false
set_option maxRecDepth 20000
/-- A row of int64. -/
def NRow (w : World) (v : Value) (L : List Int) : Prop := L.length ≤ 1099511627776 ∧ ∃ (p : Option Addr) (c : Nat), v = .slice p L.length c ∧ ∀ i, i < L.length → ∃ g off, p = some ⟨g, off, none⟩ ∧ w.cell? ⟨g, off + i, none⟩ = some (.int .i64 (L.getD i 0))
theorem NRow.old {w w' : World} {v : Value} {L : List Int} (h : NRow w v L) (u : Old w w') : NRow w' v L := by
  obtain ⟨hm, p, c, e, hc⟩ := h
  exact ⟨hm, p, c, e, fun i hi => by obtain ⟨g, off, e2, h3⟩ := hc i hi; exact ⟨g, off, e2, u.keep h3⟩⟩
theorem OwnN.nrow {base : Nat} {w : World} {v : Value} {L : List Int} (h : OwnN base w v L) (hl : L.length ≤ 1000000) : NRow w v L := by
  have h2 := h
  unfold OwnN at h2
  rcases h2.2 with ⟨e1, e⟩ | ⟨g, cap, cur, rfl, hb, hg, hnc, hcm, hcs, htk⟩
  · exact ⟨by omega, none, 0, by rw [e1, e], fun i hi => by omega⟩
  · refine ⟨by omega, _, cap, rfl, fun i hi => ⟨g, 0, rfl, ?_⟩⟩
    rw [Nat.zero_add, h2.cellAt i (by omega)]
    simp [ils, List.getD_eq_getElem?_getD, hi]
theorem NRow.one (w : World) (x : Int) (w1 : World) (e : w.alloc (.cells #[.int .i64 x] 2) = w1) (m : Nat) (hm : w.heap.size = m) : NRow w1 (.slice (some ⟨m, 0, none⟩) 1 1) [x] ∧ Old w w1 := by
  subst e hm
  refine ⟨⟨by simp, _, 1, rfl, fun i hi => ⟨w.heap.size, 0, rfl, ?_⟩⟩, (Old.refl w).alloc _⟩
  match i, hi with
  | 0, _ => simp
/-- A table of a law's own: all its blocks are new since a world, and there. -/
structure Tab (w0 w : World) (tb : Nat) (Bs : List Nat) (ks : List Int) (L : Int → List It) : Prop where
  old : Old w0 w
  tab : TabIs w tb Bs ks L
  ok : TOk ks L
  new : ∀ b ∈ Bs, w0.heap.size ≤ b
  lt : ∀ b ∈ Bs, b < w.heap.size
theorem Tab.up {w0 w w' : World} {tb : Nat} {Bs : List Nat} {ks : List Int} {L : Int → List It} (h : Tab w0 w tb Bs ks L) (u : Old w w') : Tab w0 w' tb Bs ks L := ⟨h.old.trans u, h.tab.old u, h.ok, h.new, fun b hb => Nat.lt_of_lt_of_le (h.lt b hb) u.size⟩
/-- A box that no table has is as it was behind a Put. -/
def Apart (w : World) (m : Nat) (Bs : List Nat) : Prop := m < w.heap.size ∧ m ∉ Bs
theorem Tab.put {w0 w w' : World} {tb : Nat} {Bs : List Nat} {ks ks' : List Int} {L L' : Int → List It} (h : Tab w0 w tb Bs ks L) (hok : TOk ks' L') (hp : PutPost w tb Bs ks' L' w') : ∃ Bs', Tab w0 w' tb Bs' ks' L' ∧ Chg Bs w w' ∧ ∀ m, Apart w m Bs → Apart w' m Bs' := by
  obtain ⟨Bs', h1, h2, h3⟩ := hp
  refine ⟨Bs', ⟨?_, h1, hok, fun b hb => ?_, fun b hb => ?_⟩, h2, fun m hm => ⟨Nat.lt_of_lt_of_le hm.1 h2.size, fun hb => ?_⟩⟩
  · exact Old.below h.old (h2.below w0.heap.size h.new h.old.size)
  · rcases h3 b hb with q | q
    · exact h.new b q
    · have := h.old.size; omega
  · rcases h3 b hb with q | q
    · have := h.lt b q; have := h2.size; omega
    · exact q.2
  · rcases h3 m hb with q | q
    · exact hm.2 q
    · have := hm.1; omega
theorem Apart.new {w : World} {tb : Nat} {Bs : List Nat} {ks : List Int} {L : Int → List It} {w0 : World} (h : Tab w0 w tb Bs ks L) (o : Obj) : Apart (w.alloc o) w.heap.size Bs := ⟨by simp, fun hb => by have := h.lt _ hb; omega⟩
theorem Apart.up {w w' : World} {m : Nat} {Bs : List Nat} (h : Apart w m Bs) (u : Old w w') : Apart w' m Bs := ⟨Nat.lt_of_lt_of_le h.1 u.size, h.2⟩
set_option maxHeartbeats 1000000 in
set_option maxRecDepth 20000 in
theorem sameNums_eq (u v : Value) (L : List Int) (w : World) (hu : NRow w u L) (hv : NRow w v L) :
    Calls Try.prog 22 #[u, v] w fun e w' => e = .returned (.bool true) ∧ Old w w' := by
  obtain ⟨hm, p, c, rfl, hc⟩ := hu
  obtain ⟨_, p2, c2, rfl, hc2⟩ := hv
  have HX := hid hc
  have HY := hid hc2
  have hmm : (L.length : Int) ≤ 1099511627776 := by omega
  generalize L.length = n at *
  clear hc hc2
  go_enter Try.func22, Try.ntmps22
  go_wp2
  go_loopw [5] (fun i wx => ∃ k : Nat, k ≤ n ∧ i = .int .i64 k ∧ Old w wx) (fun i _ => n - (intOf i).toNat)
  case atStart => exact ⟨0, Nat.zero_le _, rfl, Old.refl _⟩
  case round =>
    obtain ⟨k, hk, rfl, hup⟩ := hrel
    by_cases hlt : k < n
    · obtain ⟨b1, o1, e1, cx0⟩ := HX.out k hlt
      obtain ⟨b2, o2, e2, cy0⟩ := HY.out k hlt
      subst e1 e2
      have cx := hup.keep cx0
      have cy := hup.keep cy0
      have l1 : (0 : Int) ≤ (k : Int) := by omega
      have l2 : (k : Int) < (n : Int) := by omega
      generalize L.getD k 0 = x at *
      have t : (x != x) = false := by simp
      clear HX HY cx0 cy0
      go_wp2
      go_quiet (fail)
      go_wp2
      exact ⟨⟨k + 1, hlt, by go_num, hup.drewN _⟩, by simp [intOf]; omega⟩
    · obtain rfl : n = k := by omega
      go_wp2
      go_ret
      exact ⟨rfl, hup⟩
set_option maxHeartbeats 400000 in
set_option maxRecDepth 20000 in
theorem newT_any (w : World) : Calls Try.prog 6 #[] w fun e w' => ∃ tb mb, e = .returned (.pointer (some ⟨tb, 0, none⟩)) ∧ Tab w w' tb [tb, mb] [] (fun _ => []) := by
  refine (new_any w).mono ?_
  rintro e w' ⟨tb, mb, rfl, h1, h2, h3, h4⟩
  refine ⟨tb, mb, rfl, h4, h3, TOk.none, fun b hb => ?_, fun b hb => ?_⟩
  · simp at hb; rcases hb with rfl | rfl <;> assumption
  · obtain ⟨mb', M, q1, q2, q3, q4, q5, q6, q7, q8⟩ := h3
    simp at hb q2
    rcases hb with rfl | rfl
    · exact World.block_lt_of_cell? w' _ q4
    · rcases q2 with z | z
      · exact absurd z.symm q3
      · rw [← z]; exact q5.lt
/-- Put as the laws call it. -/
theorem putT_any (w0 : World) (tb : Nat) (Bs : List Nat) (ks : List Int) (L : Int → List It) (s : Int) (x : It) (w : World) (h : Tab w0 w tb Bs ks L) (hs : N64 s) (hq : N64 x.n) : Calls Try.prog 8 #[.pointer (some ⟨tb, 0, none⟩), .int .i64 s, .int .i64 x.n, .agg #[.int .i64 x.c, .int .i64 x.m]] w fun e w' => e = .returned (.int .i64 (putC ks L s x)) ∧ ((putC ks L s x ≠ 0 ∧ Old w w') ∨ (putC ks L s x = 0 ∧ ∃ Bs', Tab w0 w' tb Bs' (putK ks s) (putL L s (nextS x (L s))) ∧ Chg Bs w w' ∧ ∀ m, Apart w m Bs → Apart w' m Bs')) := by
  refine (put_any tb Bs ks L s x w h.tab h.ok hs hq).mono ?_
  rintro e w' ⟨h1, h2⟩
  refine ⟨h1, ?_⟩
  rcases h2 with ⟨q1, q2⟩ | ⟨q1, q2⟩
  · exact Or.inl ⟨q1, q2⟩
  · exact Or.inr ⟨q1, h.put (h.ok.put q1) q2⟩
end Go.Proofs.Ytefffjlcfghniaa
