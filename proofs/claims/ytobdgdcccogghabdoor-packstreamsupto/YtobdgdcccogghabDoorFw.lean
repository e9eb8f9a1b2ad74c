/- What pack.Frame, pack.Unframe and the document's return at every row of bytes; condition: the table of sixteen words lies where its initialiser lays it. -/
import Derived.Test.YtobdgdcccogghabDoorBw
import Derived.Test.YtobdgdcccogghabDoorSu
namespace Go.Proofs.YtobdgdcccogghabDoor
open Go.RowKit
/-- A frame's bytes. -/
def frm (n S : Nat) (x : Nat → Nat) : Nat → Nat := fun i => if i < 4 then wd n i else if i < 8 then wd S (i - 4) else x (i - 8)
theorem frm_cat (n S : Nat) (x z : Nat → Nat) (i : Nat) : cat 8 (cat 4 (cat 0 z (wd n)) (wd S)) x i = frm n S x i := by
  unfold cat frm
  by_cases h4 : i < 4
  · simp [h4, show i < 8 by omega]
  · by_cases h8 : i < 8 <;> simp [h4, h8]
theorem frm_cat2 (n S : Nat) (x : Nat → Nat) (i : Nat) : cat 8 (cat 4 (wd n) (wd S)) x i = frm n S x i := by
  unfold cat frm
  by_cases h4 : i < 4
  · simp [h4, show i < 8 by omega]
  · by_cases h8 : i < 8 <;> simp [h4, h8]
theorem ne_own {w w' : World} {u v : Value} {m n : Nat} {Y X : Nat → Nat} (hu : ByRow w u m Y) (hv : OwnB w.heap.size w' v n X) : m = 0 ∨ u.ownBlock ≠ v.ownBlock := by
  rcases hu with ⟨rfl, _⟩ | ⟨_, _, b, off, cap, rfl, hc, _⟩
  · exact .inl rfl
  · right
    intro e
    have h1 := (hv.own.lt b e.symm).1
    have h2 := World.block_lt_of_cell? w _ (hc 0 (by omega)).2
    simp at h2; omega
theorem Up.size' {w w' : World} (h : Up w w') : w.heap.size ≤ w'.heap.size := Below.size h
theorem sum_lt (x : Nat → Nat) (n : Nat) : Crc.sum x n < 4294967296 := by unfold Crc.sum; omega
set_option maxHeartbeats 400000 in
theorem frame_ok (v : Value) (n : Nat) (x : Nat → Nat) (w : World) (ht : Tab w) (hv : ByRow w v n x) (hn : n ≤ 4096) :
    Calls Tryd.prog 10 #[v] w fun e w' => ∃ v', e = .returned (.tuple #[v', .int .i64 0]) ∧ OwnB w.heap.size w' v' (8 + n) (frm n (Crc.sum x n) x) ∧ Up w w' := by
  obtain ⟨i0, hi, hz0, hz1, hz2⟩ := info_parts infoByte
  have hval : ∃ a c, v = .slice a n c := by
    rcases hv with ⟨rfl, a, c, rfl, _⟩ | ⟨_, _, b, off, cap, rfl, _⟩
    · exact ⟨a, c, rfl⟩
    · exact ⟨_, _, rfl⟩
  obtain ⟨a, c, rfl⟩ := hval
  have HV := hid hv
  have HT := hid ht
  have hS := sum_lt x n
  have cS := hid (fun (W : World) (hW : Up w W) => sum_any _ n x W (ht.up hW) (hv.up hW))
  clear hv ht
  generalize Crc.sum x n = S at *
  go_enter Tryd.func10, Tryd.ntmps10
  go_wp2_with (first | (refine wpList_make_own w rfl (.const (.int .i64 0)) (.tmp 10) 22 rfl w.heap.size 5 i0 (.int .u8 0) 1 Tryd.underlying22 hi hz0 hz1 .i64 .i64 _ (8 + n) rfl rfl (by omega) (by rw [hz2]; omega) (by unfold maxLen; omega) (Nat.le_refl _) ?_; intro w1 ho1 hg1; have u1 : Up w w1 := Below.grown (Below.refl _ _) hg1 (Nat.le_refl _) (fun k hk => by cases hk); have o1 : OwnB w.heap.size w1 _ 0 (fun _ => 0) := ⟨ho1, fun _ h => by omega⟩; clear ho1 hg1))
  refine (appendWord_any w.heap.size _ 0 (fun _ => 0) n (by omega) (by omega) w1 o1 u1.size').mono ?_
  rintro e w2 ⟨v2, rfl, o2, g2⟩
  have u2 : Up w w2 := Below.trans u1 (g2.below o1 u1.size')
  clear o1 u1 g2
  have H2 := hid o2
  clear o2
  go_wp2_with (go_at_call 7; refine (cS.out _ ‹Up w w2›).mono ?_; rintro e w' ⟨rfl, hw⟩; have hw2 := hw.symm; subst hw2)
  refine (appendWord_any w.heap.size _ (0 + 4) _ S hS (by omega) w2 H2.out u2.size').mono ?_
  rintro e w3 ⟨v3, rfl, o3, g3⟩
  have u3 : Up w w3 := Below.trans u2 (g3.below H2.out u2.size')
  have H3 := hid o3
  clear o3 g3 H2 u2 cS
  go_wp2_with (at_builtin; refine wp_app rfl (.tmp 21) (.tmp 22) rfl w.heap.size v3 _ (0 + 4 + 4) n _ x rfl rfl H3.out (HV.out.up ‹Up w w3›) (by omega) (Up.size' ‹Up w w3›) ?_; intro v4 w4 o4 g4 b4)
  go_ret2
  exact ⟨_, rfl, by simp only [Nat.zero_add] at o4; exact o4.congr (fun i _ => frm_cat n S x _ i), Below.trans u3 b4⟩
set_option maxHeartbeats 400000 in
theorem frame_long (v : Value) (n : Nat) (x : Nat → Nat) (w : World) (hv : ByRow w v n x) (hn : 4096 < n) :
    Calls Tryd.prog 10 #[v] w fun e w' => e = .returned (.tuple #[.slice none 0 0, .int .i64 2]) ∧ w' = w := by
  have hm := hv.max
  obtain ⟨b, off, c, rfl, _⟩ := hv.cells (by omega)
  clear hv
  unfold maxLen at hm
  go_enter Tryd.func10, Tryd.ntmps10
  go_wp2
  go_ret2
  exact ⟨rfl, rfl⟩
set_option maxHeartbeats 400000 in
theorem refFrame_ok (v : Value) (n : Nat) (x : Nat → Nat) (w : World) (hv : ByRow w v n x) (hn : n ≤ 4096) :
    Calls Tryd.prog 11 #[v] w fun e w' => ∃ v', e = .returned (.tuple #[v', .int .i64 0]) ∧ OwnB w.heap.size w' v' (8 + n) (frm n (Crc.sum x n) x) ∧ Up w w' := by
  have hval : ∃ a c, v = .slice a n c := by
    rcases hv with ⟨rfl, a, c, rfl, _⟩ | ⟨_, _, b, off, cap, rfl, _⟩
    · exact ⟨a, c, rfl⟩
    · exact ⟨_, _, rfl⟩
  obtain ⟨a, c, rfl⟩ := hval
  have HV := hid hv
  have hS := sum_lt x n
  have cS := hid (fun (W : World) (hW : Up w W) => refSum_any _ n x W (hv.up hW))
  clear hv
  generalize Crc.sum x n = S at *
  go_enter Tryd.func11, Tryd.ntmps11
  go_wp2_with (fail)
  refine (refWord_any n (by omega) w).mono ?_
  rintro e w1 ⟨rfl, o1, u1⟩
  have H1 := hid o1
  clear o1
  go_wp2_with (go_at_call 8; refine (cS.out _ ‹Up w w1›).mono ?_; rintro e w' ⟨rfl, hw⟩; have hw2 := hw.symm; subst hw2)
  refine (refWord_any S hS w1).mono ?_
  rintro e w2 ⟨rfl, o2, u2⟩
  have H2 := hid o2
  clear o2
  go_wp2_with (fail)
  have hl1 := (H1.out.own.lt w.heap.size rfl).2
  refine (join_any w.heap.size _ _ 4 4 (wd n) (wd S) (by omega) w2 (H1.out.up u2) (Nat.le_trans u1.size' u2.size') H2.out.row (.inr (by intro h; simp [Value.ownBlock] at h; omega))).mono ?_
  rintro e w3 ⟨v3, rfl, o3, g3⟩
  have u3 : Up w w3 := Below.trans (Up.trans u1 u2) (g3.below (H1.out.up u2) (Nat.le_trans u1.size' u2.size'))
  have H3 := hid o3
  clear o3 g3 H2 H1 u2 u1 cS hl1
  go_wp2_with (fail)
  refine (join_any w.heap.size _ _ (4 + 4) n _ x (by omega) w3 H3.out u3.size' (HV.out.up u3) (ne_own HV.out H3.out)).mono ?_
  rintro e w4 ⟨v4, rfl, o4, g4⟩
  have u4 : Up w w4 := Below.trans u3 (g4.below H3.out u3.size')
  go_wp2
  go_ret2
  exact ⟨_, rfl, o4.congr (fun i _ => frm_cat2 n S x i), u4⟩
set_option maxHeartbeats 400000 in
theorem refFrame_long (v : Value) (n : Nat) (x : Nat → Nat) (w : World) (hv : ByRow w v n x) (hn : 4096 < n) :
    Calls Tryd.prog 11 #[v] w fun e w' => e = .returned (.tuple #[.slice none 0 0, .int .i64 2]) ∧ w' = w := by
  have hm := hv.max
  obtain ⟨b, off, c, rfl, _⟩ := hv.cells (by omega)
  clear hv
  unfold maxLen at hm
  go_enter Tryd.func11, Tryd.ntmps11
  go_wp2
  go_ret2
  exact ⟨rfl, rfl⟩
end Go.Proofs.YtobdgdcccogghabDoor
