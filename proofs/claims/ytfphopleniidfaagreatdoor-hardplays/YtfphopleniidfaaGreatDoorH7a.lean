/- The document's Right and Bytes of layer 7; conditions: the numbers are in their range. -/
import Derived.Test.YtfphopleniidfaaGreatDoorPkY
import Derived.Test.YtfphopleniidfaaGreatDoorR5z
namespace Go.Proofs.YtfphopleniidfaaGreatDoor
open Go.RowKit Go.Lib
set_option linter.unusedVariables false
set_option linter.unusedSimpArgs false
set_option maxRecDepth 20000
set_option maxHeartbeats 1000000 in
set_option maxRecDepth 20000 in
theorem rright_any (t v : Int) (w : World) : Calls Tryz.prog 26 #[.int .i64 t, .int .i64 v] w fun e w' => e = .returned (.bool (rgt t v)) ∧ Old w w' := by
  by_cases c1 : 0 ≤ t
  · by_cases c2 : t ≤ 1099511627776
    · by_cases c3 : 0 ≤ v
      · by_cases c4 : v ≤ 7
        · have e : rgt t v = true := rgt_iff.2 ⟨c1, c2, c3, c4⟩
          rw [e]
          clear e
          go_enter Tryz.func26, Tryz.ntmps26
          go_wp2
          go_ret
          exact ⟨rfl, Old.refl _⟩
        · have e : rgt t v = false := by unfold rgt; simp [c4]
          rw [e]
          clear e
          go_enter Tryz.func26, Tryz.ntmps26
          go_wp2
          go_ret
          exact ⟨rfl, Old.refl _⟩
      · have e : rgt t v = false := by unfold rgt; simp [c3]
        rw [e]
        clear e
        go_enter Tryz.func26, Tryz.ntmps26
        go_wp2
        go_ret
        exact ⟨rfl, Old.refl _⟩
    · have e : rgt t v = false := by unfold rgt; simp [c2]
      rw [e]
      clear e
      go_enter Tryz.func26, Tryz.ntmps26
      go_wp2
      go_ret
      exact ⟨rfl, Old.refl _⟩
  · have e : rgt t v = false := by unfold rgt; simp [c1]
    rw [e]
    clear e
    go_enter Tryz.func26, Tryz.ntmps26
    go_wp2
    go_ret
    exact ⟨rfl, Old.refl _⟩
set_option maxHeartbeats 2000000 in
set_option maxRecDepth 20000 in
theorem rbytes_any (t v : Int) (w : World) (h1 : -9223372036854775808 ≤ t ∧ t ≤ 9223372036854775807) (h2 : -9223372036854775808 ≤ v ∧ v ≤ 9223372036854775807) : Calls Tryz.prog 29 #[.int .i64 t, .int .i64 v] w fun e w' => ∃ a c, e = .returned (.slice a (frB (payL t v)).length c) ∧ Own w' (.slice a (frB (payL t v)).length c) (frB (payL t v)) ∧ Old w w' ∧ ∀ g, (Value.slice a (frB (payL t v)).length c).ownBlock = some g → w.heap.size ≤ g := by
  have HN1 := hid (fun (W : World) => Pk.refNum_any t h1.1 h1.2 W)
  have HN2 := hid (fun (W : World) => Pk.refNum_any v h2.1 h2.2 W)
  have HJ := hid (fun (W W1 : World) (a1 a2 : Value) (uw : Old w W1) (o1 : Pk.OwnL w.heap.size W1 a1 (Pk.numL t)) (o2 : Pk.OwnL W1.heap.size W a2 (Pk.numL v)) (u2 : Old W1 W) => show Calls Tryz.prog 52 #[a1, a2] W fun e w' => ∃ v', e = .returned v' ∧ Own w' v' (payL t v) ∧ Old w w' from
    (Pk.join_any w.heap.size a1 a2 (Pk.numL t).length (Pk.numL v).length (gd (Pk.numL t)) (gd (Pk.numL v)) (by have := numL_le t; have := numL_le v; omega) W (o1.up u2) (by have := uw.size; have := u2.size; omega) (o2.row) (by
      by_cases hm : (Pk.numL v).length = 0
      · exact .inl hm
      · refine .inr fun e => ?_
        cases hb : a2.ownBlock with
        | none =>
          obtain ⟨b, off, cap, rfl, -⟩ := (show Rw W a2 (Pk.numL v) from o2.row).cells (by omega)
          cases hb
        | some g =>
          have q1 := (o2.own.lt g hb).1
          have q2 := (o1.own.lt g (by rw [← e]; exact hb)).2
          omega)).mono fun e w' q => by
      obtain ⟨v', e1, e2, e3⟩ := q
      refine ⟨v', e1, ?_, ?_⟩
      · unfold Own payL
        rw [List.length_append, ← cat_gd]
        exact e2.mono (Nat.zero_le _)
      · have c : Pk.Chg a1.ownBlock.toList W w' := ⟨e3.by_.os, e3.by_.tape, e3.by_.output, e3.by_.size, fun k hk hn => e3.by_.block k hk (fun e => hn (by rw [Option.mem_toList]; exact e.symm))⟩
        exact Pk.Chg.toOld (uw.trans u2) c (fun k hk => (o1.own.lt k (Option.mem_toList.1 hk)).1))
  obtain ⟨M, hM⟩ : ∃ M, payL t v = M := ⟨_, rfl⟩
  have HMl := hid (show M.length ≤ 4096 from by rw [← hM]; have := payL_le t v; omega)
  have HFr := hid (fun (W : World) (v' : Value) (o : Own W v' M) => show Calls Tryz.prog 64 #[v'] W fun e w' => ∃ a c, e = .returned (.tuple #[.slice a (frB M).length c, .int .i64 0]) ∧ Own w' (.slice a (frB M).length c) (frB M) ∧ Old W w' ∧ ∀ g, (Value.slice a (frB M).length c).ownBlock = some g → W.heap.size ≤ g from
    (Pk.refFrame_ok v' M.length (gd M) W o.row HMl.out).mono fun e w' z => by
      obtain ⟨q, e1, e2, e3⟩ := z
      have o2 : Own w' q (frB M) := by
        unfold Own
        rw [frB_len]
        exact (e2.mono (Nat.zero_le _)).congr (fun i hi => (frB_gd M i hi).symm)
      obtain ⟨a, c, rfl⟩ := o2.len
      exact ⟨a, c, e1, o2, e3, fun g hg => (e2.own.lt g hg).1⟩)
  rw [hM] at HJ ⊢
  generalize (frB M).length = fl at *
  clear h1 h2 hM
  go_enter Tryz.func29, Tryz.ntmps29
  go_wp2_with (first | (go_at_call_of 65 (Value.int .i64 t); refine (HN1.out _).mono ?_; rintro e w1 ⟨a1, rfl, o1, u1⟩; have O1 := hid o1; have U1 := hid u1; clear o1 u1) | (go_at_call_of 65 (Value.int .i64 v); refine (HN2.out _).mono ?_; rintro e w2 ⟨a2, rfl, o2, u2⟩; have O2 := hid o2; have U2 := hid u2; clear o2 u2) | (go_at_call 52; refine (HJ.out _ _ _ _ U1.out O1.out O2.out U2.out).mono ?_; rintro e w3 ⟨a3, rfl, o3, u3⟩; have O3 := hid o3; have U3 := hid u3; clear o3 u3) | (go_at_call 64; refine (HFr.out _ _ O3.out).mono ?_; rintro e w4 ⟨a4, c4, rfl, o4, u4, f4⟩; have O4 := hid o4; have U4 := hid u4; have F4 := hid f4; clear o4 u4 f4))
  go_ret
  exact ⟨_, _, rfl, O4.out, U3.out.trans U4.out, fun g hg => by have := F4.out g hg; have := U3.out.size; omega⟩
end Go.Proofs.YtfphopleniidfaaGreatDoor
