/- The document's table of layer 13: rows of its items as they lie in memory; its Highest; conditions: the row lies in memory. -/
import Derived.Test.YtefffjlcfghniaaZf
namespace Go.Proofs.Ytefffjlcfghniaa
open Go.RowKit Go.Lib
set_option linter.unusedVariables false
set_option linter.unusedSimpArgs false
set_option maxRecDepth 20000
def opA (T : List Opv) (i : Nat) : Opv := T.getD i ⟨0, ⟨0, 0, 0⟩⟩
/-- The document's items in memory. -/
def RRow (w : World) (v : Value) (T : List Opv) : Prop := T.length ≤ 1000 ∧ ∃ (p : Option Addr) (c : Nat), v = .slice p T.length c ∧ ∀ i, i < T.length → ∃ b, p = some ⟨b, 0, none⟩ ∧ OpIn w b (i * 4) (opA T i)
theorem RRow.old {w w' : World} {v : Value} {T : List Opv} (h : RRow w v T) (u : Old w w') : RRow w' v T := by
  obtain ⟨hm, p, c, e, hc⟩ := h
  exact ⟨hm, p, c, e, fun i hi => by obtain ⟨b, e2, h3⟩ := hc i hi; exact ⟨b, e2, h3.old u⟩⟩
theorem rtab_new (w : World) (v : Value) (w1 : World) (e : w.alloc (.cells #[v] 42) = w1) (m : Nat) (hm : w.heap.size = m) : w1.cell? ⟨m, 0, none⟩ = some v ∧ Old w w1 := by
  subst e hm
  exact ⟨by simp, (Old.refl w).alloc _⟩
/-- The highest number of a session in the first k items, 0 of none. -/
def hR (id : Int) (T : List Opv) : Nat → Int
  | 0 => 0
  | k + 1 => if (opA T k).s = id ∧ hR id T k < (opA T k).x.n then (opA T k).x.n else hR id T k
set_option maxHeartbeats 2000000 in
set_option maxRecDepth 20000 in
theorem rHighest_any (v : Value) (T : List Opv) (id : Int) (w : World) (hv : RRow w v T) :
    Calls Try.prog 18 #[.agg #[v], .int .i64 id] w fun e w' => e = .returned (.int .i64 (hR id T T.length)) ∧ Old w w' := by
  obtain ⟨hm, p, c, rfl, hc⟩ := hv
  have HC := hid hc
  clear hc
  go_enter Try.func18, Try.ntmps18
  go_upto_region 1 with fail
  generalize hw1 : w.alloc (.cells #[.slice p T.length c] 42) = w1 at *
  obtain ⟨hb1, hu1⟩ := rtab_new w (.slice p T.length c) w1 hw1 _ rfl
  generalize w.heap.size = tb at *
  have B1 := hid hb1
  have U1 := hid hu1
  clear hw1 hb1 hu1
  generalize hn : T.length = n at *
  have HN := hid hn
  clear hn
  have ln : (n : Int) ≤ 1000 := by omega
  go_wp2
  go_loopw [5, 6] (fun z i wr => ∃ k : Nat, k ≤ n ∧ z = .int .i64 (hR id T k) ∧ i = .int .i64 (k : Nat) ∧ Old w1 wr) (fun _ i _ => n - (intOf i).toNat)
  case atStart => exact ⟨0, Nat.zero_le _, rfl, rfl, Old.refl _⟩
  case round =>
    obtain ⟨k, hk, rfl, rfl, hu⟩ := hrel
    have U := hid hu
    have t1 := U.out.keep B1.out
    clear hu
    by_cases hlt : k < n
    · obtain ⟨b, ea, hI⟩ := HC.out k hlt
      subst ea
      obtain ⟨z0, z1, z2, z3⟩ := hI.old (U1.out.trans U.out)
      have l1 : (0 : Int) ≤ (k : Int) := by omega
      have l2 : (k : Int) < (n : Int) := by omega
      have HS : Hid (hR id T (k + 1) = if (opA T k).s = id ∧ hR id T k < (opA T k).x.n then (opA T k).x.n else hR id T k) := hid rfl
      clear hI HC
      generalize opA T k = o at *
      generalize hR id T k = h at *
      by_cases q1 : o.s = id
      · by_cases q2 : h < o.x.n
        · have r1 : (o.s == id) = true := by rw [beq_iff_eq]; exact q1
          have r2 : o.x.n > h := q2
          go_wp2
          go_roundw
          case rel => exact ⟨k + 1, hlt, by rw [HS.out, if_pos ⟨q1, q2⟩], by go_num, U.out⟩
          case measure => simp [intOf]; omega
        · have r1 : (o.s == id) = true := by rw [beq_iff_eq]; exact q1
          have r2 : ¬ o.x.n > h := q2
          go_wp2
          go_roundw
          case rel => exact ⟨k + 1, hlt, by rw [HS.out, if_neg (fun z => q2 z.2)], by go_num, U.out⟩
          case measure => simp [intOf]; omega
      · have r1 : (o.s == id) = false := by rw [beq_eq_false_iff_ne]; exact q1
        go_wp2
        go_roundw
        case rel => exact ⟨k + 1, hlt, by rw [HS.out, if_neg (fun z => q1 z.1)], by go_num, U.out⟩
        case measure => simp [intOf]; omega
    · obtain rfl : n = k := by omega
      go_wp2
      go_ret
      exact ⟨by rw [HN.out]; rfl, U1.out.trans U.out⟩
end Go.Proofs.Ytefffjlcfghniaa
