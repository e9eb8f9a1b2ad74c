/- What pack.Unframe and the document's Unframe return at every row of bytes; condition: the table of sixteen words lies where its initialiser lays it. -/
import Derived.Test.YtobdgdcccogghabDoorFw
namespace Go.Proofs.YtobdgdcccogghabDoor
open Go.RowKit
/-- A row from its k-th byte on. -/
def sh (k : Nat) (x : Nat → Nat) : Nat → Nat := fun i => x (k + i)
theorem slice_row {w : World} {b off n cap : Nat} {x : Nat → Nat} (hc : ∀ i, i < n → x i < 256 ∧ w.cell? ⟨b, off + i, none⟩ = some (.int .u8 (x i : Int))) (hm : cap ≤ maxLen) (lo m c : Nat) (hm0 : 0 < m) (hn : lo + m ≤ n) (hc2 : m ≤ c) (hcm : c ≤ cap) :
    ByRow w (.slice (some ⟨b, off + lo, none⟩) m c) m (sh lo x) :=
  .inr ⟨hm0, by omega, b, off + lo, c, rfl, fun i hi' => by have := hc (lo + i) (by omega); rw [show off + lo + i = off + (lo + i) by omega]; exact this, hc2, by omega⟩
theorem slice_row0 (w : World) (a : Addr) (c : Nat) (y : Nat → Nat) : ByRow w (.slice (some a) 0 c) 0 y := .inl ⟨rfl, _, _, rfl, fun h => by cases h⟩
theorem ByRow.drewN {w : World} {v : Value} {n : Nat} {x : Nat → Nat} (h : ByRow w v n x) (m : Nat) : ByRow (w.drewN m) v n x := h.up ((Up.refl w).drewN m)
theorem Tab.drewN {w : World} (h : Tab w) (m : Nat) : Tab (w.drewN m) := h.up ((Up.refl w).drewN m)

set_option maxHeartbeats 1000000 in
theorem unframe_ok8 (b off : Nat) (x : Nat → Nat) (w : World) (ht : Tab w) (hc : ∀ i, i < 8 → x i < 256 ∧ w.cell? ⟨b, off + i, none⟩ = some (.int .u8 (x i : Int))) (hL : w32 x = 0) (hs : Crc.sum (sh 8 x) 0 = w32 (sh 4 x)) :
    Calls Tryd.prog 13 #[.slice (some ⟨b, off, none⟩) 8 8] w fun e w' => ∃ v', e = .returned (.tuple #[v', .int .i64 (8 + 0 : Nat), .int .i64 0]) ∧ OwnB w.heap.size w' v' 0 (sh 8 x) ∧ Up w w' := by
  have HW := hid (fun W (hW : Up w W) => word_any b off 8 8 x (by omega) W (fun i hi => ⟨(hc i hi).1, hW.keep (hc i hi).2⟩))
  have HW2 := hid (fun W (hW : Up w W) => word_any b (off + 4) 4 4 (sh 4 x) (by omega) W (fun i hi => by have := hc (4 + i) (by omega); rw [show off + 4 + i = off + (4 + i) by omega]; exact ⟨this.1, hW.keep this.2⟩))
  rw [hL] at HW
  have HT := hid ht
  have tS : (((Crc.sum (sh 8 x) 0 : Nat) : Int) != ((w32 (sh 4 x) : Nat) : Int)) = false := by rw [hs]; simp
  have HC := hid hc
  clear hc hs hL ht
  go_enter Tryd.func13, Tryd.ntmps13
  go_wp2_with ((go_at_call 18; refine (HW.out _ (Up.refl _)).mono ?_; rintro e w' ⟨rfl, m, rfl⟩))
  refine (clone_any _ 0 (sh 8 x) (w.drewN m) (slice_row0 _ _ _ _) (by omega)).mono ?_
  rintro e w2 ⟨v2, rfl, o2, u2'⟩
  have u2 : Up w w2 := Up.trans ((Up.refl w).drewN m) u2'
  clear u2'
  have H2 := hid o2.row
  have HO := hid o2
  clear o2
  go_wp2
  go_quiet (first | (go_at_call 7; refine Calls.quiet_of_same (sum_any _ 0 (sh 8 x) _ (HT.out.up ((Up.drewN u2 _))) (H2.out.drewN _))) | (go_at_call 18; refine Calls.quiet_of (HW2.out _ ((Up.drewN u2 _)))))
  go_wp2
  refine bodyPost_ret (results_tmp3 rfl _ _ _) rfl ?_
  exact ⟨_, rfl, HO.out.up ((Up.refl w2).drewN _), Up.drewN u2 _⟩

set_option maxHeartbeats 1000000 in
theorem unframe_ok (b off n cap L : Nat) (x : Nat → Nat) (w : World) (ht : Tab w) (hc : ∀ i, i < n → x i < 256 ∧ w.cell? ⟨b, off + i, none⟩ = some (.int .u8 (x i : Int))) (hcp : n ≤ cap) (hm : cap ≤ maxLen) (h8 : 8 ≤ n) (hL : w32 x = L) (hL2 : L ≤ 4096) (hn : 8 + L ≤ n) (hs : Crc.sum (sh 8 x) L = w32 (sh 4 x)) (h9 : ¬ cap = 8) :
    Calls Tryd.prog 13 #[.slice (some ⟨b, off, none⟩) n cap] w fun e w' => ∃ v', e = .returned (.tuple #[v', .int .i64 (8 + L : Nat), .int .i64 0]) ∧ OwnB w.heap.size w' v' L (sh 8 x) ∧ Up w w' := by
  have HW := hid (fun W (hW : Up w W) => word_any b off n cap x (by omega) W (fun i hi => ⟨(hc i hi).1, hW.keep (hc i hi).2⟩))
  have HW2 := hid (fun W (hW : Up w W) => word_any b (off + 4) (n - 4) (cap - 4) (sh 4 x) (by omega) W (fun i hi => by have := hc (4 + i) (by omega); rw [show off + 4 + i = off + (4 + i) by omega]; exact ⟨this.1, hW.keep this.2⟩))
  rw [hL] at HW
  have HT := hid ht
  have tS : (((Crc.sum (sh 8 x) L : Nat) : Int) != ((w32 (sh 4 x) : Nat) : Int)) = false := by rw [hs]; simp
  have HC := hid hc
  have HM := hid hm
  unfold maxLen at hm
  clear hc hs hL ht
  go_enter Tryd.func13, Tryd.ntmps13
  go_wp2_with ((go_at_call 18; refine (HW.out _ (Up.refl _)).mono ?_; rintro e w' ⟨rfl, m, rfl⟩))
  refine (clone_any _ L (sh 8 x) (w.drewN m) (by rcases Nat.eq_zero_or_pos L with h0 | h0; subst h0; exact slice_row0 _ _ _ _; exact (slice_row HC.out HM.out 8 L _ h0 hn (by omega) (by omega)).drewN m) (by omega)).mono ?_
  rintro e w2 ⟨v2, rfl, o2, u2'⟩
  have u2 : Up w w2 := Up.trans ((Up.refl w).drewN m) u2'
  clear u2'
  have H2 := hid o2.row
  have HO := hid o2
  clear o2
  go_wp2
  go_quiet (first | (go_at_call 7; refine Calls.quiet_of_same (sum_any _ L (sh 8 x) _ (HT.out.up ((Up.drewN u2 _))) (H2.out.drewN _))) | (go_at_call 18; refine Calls.quiet_of (HW2.out _ ((Up.drewN u2 _)))))
  go_wp2
  refine bodyPost_ret (results_tmp3 rfl _ _ _) rfl ?_
  exact ⟨_, rfl, HO.out.up ((Up.refl w2).drewN _), Up.drewN u2 _⟩

set_option maxHeartbeats 1000000 in
theorem unframe_sum8 (b off : Nat) (x : Nat → Nat) (w : World) (ht : Tab w) (hc : ∀ i, i < 8 → x i < 256 ∧ w.cell? ⟨b, off + i, none⟩ = some (.int .u8 (x i : Int))) (hL : w32 x = 0) (hs : Crc.sum (sh 8 x) 0 ≠ w32 (sh 4 x)) :
    Calls Tryd.prog 13 #[.slice (some ⟨b, off, none⟩) 8 8] w fun e w' => e = .returned (.tuple #[.slice none 0 0, .int .i64 0, .int .i64 32]) ∧ Up w w' := by
  have HW := hid (fun W (hW : Up w W) => word_any b off 8 8 x (by omega) W (fun i hi => ⟨(hc i hi).1, hW.keep (hc i hi).2⟩))
  have HW2 := hid (fun W (hW : Up w W) => word_any b (off + 4) 4 4 (sh 4 x) (by omega) W (fun i hi => by have := hc (4 + i) (by omega); rw [show off + 4 + i = off + (4 + i) by omega]; exact ⟨this.1, hW.keep this.2⟩))
  rw [hL] at HW
  have HT := hid ht
  have tS : (((Crc.sum (sh 8 x) 0 : Nat) : Int) != ((w32 (sh 4 x) : Nat) : Int)) = true := by rw [bne_iff_ne]; intro h; exact hs (by omega)
  have HC := hid hc
  clear hc hs hL ht
  go_enter Tryd.func13, Tryd.ntmps13
  go_wp2_with ((go_at_call 18; refine (HW.out _ (Up.refl _)).mono ?_; rintro e w' ⟨rfl, m, rfl⟩))
  refine (clone_any _ 0 (sh 8 x) (w.drewN m) (slice_row0 _ _ _ _) (by omega)).mono ?_
  rintro e w2 ⟨v2, rfl, o2, u2'⟩
  have u2 : Up w w2 := Up.trans ((Up.refl w).drewN m) u2'
  clear u2'
  have H2 := hid o2.row
  have HO := hid o2
  clear o2
  go_wp2
  go_quiet (first | (go_at_call 7; refine Calls.quiet_of_same (sum_any _ 0 (sh 8 x) _ (HT.out.up ((Up.drewN u2 _))) (H2.out.drewN _))) | (go_at_call 18; refine Calls.quiet_of (HW2.out _ ((Up.drewN u2 _)))))
  go_wp2
  refine bodyPost_ret (results_tmp3 rfl _ _ _) rfl ?_
  exact ⟨rfl, Up.drewN u2 _⟩

set_option maxHeartbeats 1000000 in
theorem unframe_sum (b off n cap L : Nat) (x : Nat → Nat) (w : World) (ht : Tab w) (hc : ∀ i, i < n → x i < 256 ∧ w.cell? ⟨b, off + i, none⟩ = some (.int .u8 (x i : Int))) (hcp : n ≤ cap) (hm : cap ≤ maxLen) (h8 : 8 ≤ n) (hL : w32 x = L) (hL2 : L ≤ 4096) (hn : 8 + L ≤ n) (hs : Crc.sum (sh 8 x) L ≠ w32 (sh 4 x)) (h9 : ¬ cap = 8) :
    Calls Tryd.prog 13 #[.slice (some ⟨b, off, none⟩) n cap] w fun e w' => e = .returned (.tuple #[.slice none 0 0, .int .i64 0, .int .i64 32]) ∧ Up w w' := by
  have HW := hid (fun W (hW : Up w W) => word_any b off n cap x (by omega) W (fun i hi => ⟨(hc i hi).1, hW.keep (hc i hi).2⟩))
  have HW2 := hid (fun W (hW : Up w W) => word_any b (off + 4) (n - 4) (cap - 4) (sh 4 x) (by omega) W (fun i hi => by have := hc (4 + i) (by omega); rw [show off + 4 + i = off + (4 + i) by omega]; exact ⟨this.1, hW.keep this.2⟩))
  rw [hL] at HW
  have HT := hid ht
  have tS : (((Crc.sum (sh 8 x) L : Nat) : Int) != ((w32 (sh 4 x) : Nat) : Int)) = true := by rw [bne_iff_ne]; intro h; exact hs (by omega)
  have HC := hid hc
  have HM := hid hm
  unfold maxLen at hm
  clear hc hs hL ht
  go_enter Tryd.func13, Tryd.ntmps13
  go_wp2_with ((go_at_call 18; refine (HW.out _ (Up.refl _)).mono ?_; rintro e w' ⟨rfl, m, rfl⟩))
  refine (clone_any _ L (sh 8 x) (w.drewN m) (by rcases Nat.eq_zero_or_pos L with h0 | h0; subst h0; exact slice_row0 _ _ _ _; exact (slice_row HC.out HM.out 8 L _ h0 hn (by omega) (by omega)).drewN m) (by omega)).mono ?_
  rintro e w2 ⟨v2, rfl, o2, u2'⟩
  have u2 : Up w w2 := Up.trans ((Up.refl w).drewN m) u2'
  clear u2'
  have H2 := hid o2.row
  have HO := hid o2
  clear o2
  go_wp2
  go_quiet (first | (go_at_call 7; refine Calls.quiet_of_same (sum_any _ L (sh 8 x) _ (HT.out.up ((Up.drewN u2 _))) (H2.out.drewN _))) | (go_at_call 18; refine Calls.quiet_of (HW2.out _ ((Up.drewN u2 _)))))
  go_wp2
  refine bodyPost_ret (results_tmp3 rfl _ _ _) rfl ?_
  exact ⟨rfl, Up.drewN u2 _⟩

set_option maxHeartbeats 1000000 in
theorem refUnframe_ok8 (b off : Nat) (x : Nat → Nat) (w : World) (hc : ∀ i, i < 8 → x i < 256 ∧ w.cell? ⟨b, off + i, none⟩ = some (.int .u8 (x i : Int))) (hL : w32 x = 0) (hs : Crc.sum (sh 8 x) 0 = w32 (sh 4 x)) :
    Calls Tryd.prog 14 #[.slice (some ⟨b, off, none⟩) 8 8] w fun e w' => ∃ v', e = .returned (.tuple #[v', .int .i64 (8 + 0 : Nat), .int .i64 0]) ∧ OwnB w.heap.size w' v' 0 (sh 8 x) ∧ Up w w' := by
  have HW := hid (fun W (hW : Up w W) => unword_any b off 4 8 x (by omega) W (fun i hi => ⟨(hc i (by omega)).1, hW.keep (hc i (by omega)).2⟩))
  have HW2 := hid (fun W (hW : Up w W) => unword_any b (off + 4) 4 4 (sh 4 x) (by omega) W (fun i hi => by have := hc (4 + i) (by omega); rw [show off + 4 + i = off + (4 + i) by omega]; exact ⟨this.1, hW.keep this.2⟩))
  rw [hL] at HW
  have tS : (((Crc.sum (sh 8 x) 0 : Nat) : Int) != ((w32 (sh 4 x) : Nat) : Int)) = false := by rw [hs]; simp
  have HC := hid hc
  clear hc hs hL 
  go_enter Tryd.func14, Tryd.ntmps14
  go_wp2_with ((go_at_call 20; refine (HW.out _ (Up.refl _)).mono ?_; rintro e w' ⟨rfl, m, rfl⟩))
  refine (join_any (w.drewN m).heap.size _ _ 0 0 (fun _ => 0) (sh 8 x) (by omega) (w.drewN m) (OwnB.nil _ _ _) (Nat.le_refl _) (slice_row0 _ _ _ _) (by first | exact .inl rfl | exact .inr (by simp [Value.ownBlock]))).mono ?_
  rintro e w2 ⟨v2, rfl, o2', g2⟩
  have o2 : OwnB w.heap.size w2 v2 0 (sh 8 x) := by rw [Nat.zero_add] at o2'; exact o2'.congr (fun i _ => by simp [cat])
  have u2 : Up w w2 := Below.trans ((Up.refl w).drewN m) (g2.below (x := fun _ => 0) (OwnB.nil _ _ _) (Nat.le_refl _))
  clear g2 o2'
  have H2 := hid o2.row
  have HO := hid o2
  clear o2
  go_wp2
  go_quiet (first | (go_at_call 8; refine Calls.quiet_of_same (refSum_any _ 0 (sh 8 x) _ (H2.out.drewN _))) | (go_at_call 20; refine Calls.quiet_of (HW2.out _ ((Up.drewN u2 _)))))
  go_wp2
  refine bodyPost_ret (results_tmp3 rfl _ _ _) rfl ?_
  exact ⟨_, rfl, HO.out.up ((Up.refl w2).drewN _), Up.drewN u2 _⟩

set_option maxHeartbeats 1000000 in
theorem refUnframe_ok (b off n cap L : Nat) (x : Nat → Nat) (w : World) (hc : ∀ i, i < n → x i < 256 ∧ w.cell? ⟨b, off + i, none⟩ = some (.int .u8 (x i : Int))) (hcp : n ≤ cap) (hm : cap ≤ maxLen) (h8 : 8 ≤ n) (hL : w32 x = L) (hL2 : L ≤ 4096) (hn : 8 + L ≤ n) (hs : Crc.sum (sh 8 x) L = w32 (sh 4 x)) (h9 : ¬ cap = 8) :
    Calls Tryd.prog 14 #[.slice (some ⟨b, off, none⟩) n cap] w fun e w' => ∃ v', e = .returned (.tuple #[v', .int .i64 (8 + L : Nat), .int .i64 0]) ∧ OwnB w.heap.size w' v' L (sh 8 x) ∧ Up w w' := by
  have HW := hid (fun W (hW : Up w W) => unword_any b off 4 cap x (by omega) W (fun i hi => ⟨(hc i (by omega)).1, hW.keep (hc i (by omega)).2⟩))
  have HW2 := hid (fun W (hW : Up w W) => unword_any b (off + 4) 4 (cap - 4) (sh 4 x) (by omega) W (fun i hi => by have := hc (4 + i) (by omega); rw [show off + 4 + i = off + (4 + i) by omega]; exact ⟨this.1, hW.keep this.2⟩))
  rw [hL] at HW
  have tS : (((Crc.sum (sh 8 x) L : Nat) : Int) != ((w32 (sh 4 x) : Nat) : Int)) = false := by rw [hs]; simp
  have HC := hid hc
  have HM := hid hm
  unfold maxLen at hm
  clear hc hs hL 
  go_enter Tryd.func14, Tryd.ntmps14
  go_wp2_with ((go_at_call 20; refine (HW.out _ (Up.refl _)).mono ?_; rintro e w' ⟨rfl, m, rfl⟩))
  refine (join_any (w.drewN m).heap.size _ _ 0 L (fun _ => 0) (sh 8 x) (by omega) (w.drewN m) (OwnB.nil _ _ _) (Nat.le_refl _) (by rcases Nat.eq_zero_or_pos L with h0 | h0; subst h0; exact slice_row0 _ _ _ _; exact (slice_row HC.out HM.out 8 L _ h0 hn (by omega) (by omega)).drewN m) (by first | exact .inl rfl | exact .inr (by simp [Value.ownBlock]))).mono ?_
  rintro e w2 ⟨v2, rfl, o2', g2⟩
  have o2 : OwnB w.heap.size w2 v2 L (sh 8 x) := by rw [Nat.zero_add] at o2'; exact o2'.congr (fun i _ => by simp [cat])
  have u2 : Up w w2 := Below.trans ((Up.refl w).drewN m) (g2.below (x := fun _ => 0) (OwnB.nil _ _ _) (Nat.le_refl _))
  clear g2 o2'
  have H2 := hid o2.row
  have HO := hid o2
  clear o2
  go_wp2
  go_quiet (first | (go_at_call 8; refine Calls.quiet_of_same (refSum_any _ L (sh 8 x) _ (H2.out.drewN _))) | (go_at_call 20; refine Calls.quiet_of (HW2.out _ ((Up.drewN u2 _)))))
  go_wp2
  refine bodyPost_ret (results_tmp3 rfl _ _ _) rfl ?_
  exact ⟨_, rfl, HO.out.up ((Up.refl w2).drewN _), Up.drewN u2 _⟩

set_option maxHeartbeats 1000000 in
theorem refUnframe_sum8 (b off : Nat) (x : Nat → Nat) (w : World) (hc : ∀ i, i < 8 → x i < 256 ∧ w.cell? ⟨b, off + i, none⟩ = some (.int .u8 (x i : Int))) (hL : w32 x = 0) (hs : Crc.sum (sh 8 x) 0 ≠ w32 (sh 4 x)) :
    Calls Tryd.prog 14 #[.slice (some ⟨b, off, none⟩) 8 8] w fun e w' => e = .returned (.tuple #[.slice none 0 0, .int .i64 0, .int .i64 32]) ∧ Up w w' := by
  have HW := hid (fun W (hW : Up w W) => unword_any b off 4 8 x (by omega) W (fun i hi => ⟨(hc i (by omega)).1, hW.keep (hc i (by omega)).2⟩))
  have HW2 := hid (fun W (hW : Up w W) => unword_any b (off + 4) 4 4 (sh 4 x) (by omega) W (fun i hi => by have := hc (4 + i) (by omega); rw [show off + 4 + i = off + (4 + i) by omega]; exact ⟨this.1, hW.keep this.2⟩))
  rw [hL] at HW
  have tS : (((Crc.sum (sh 8 x) 0 : Nat) : Int) != ((w32 (sh 4 x) : Nat) : Int)) = true := by rw [bne_iff_ne]; intro h; exact hs (by omega)
  have HC := hid hc
  clear hc hs hL 
  go_enter Tryd.func14, Tryd.ntmps14
  go_wp2_with ((go_at_call 20; refine (HW.out _ (Up.refl _)).mono ?_; rintro e w' ⟨rfl, m, rfl⟩))
  refine (join_any (w.drewN m).heap.size _ _ 0 0 (fun _ => 0) (sh 8 x) (by omega) (w.drewN m) (OwnB.nil _ _ _) (Nat.le_refl _) (slice_row0 _ _ _ _) (by first | exact .inl rfl | exact .inr (by simp [Value.ownBlock]))).mono ?_
  rintro e w2 ⟨v2, rfl, o2', g2⟩
  have o2 : OwnB w.heap.size w2 v2 0 (sh 8 x) := by rw [Nat.zero_add] at o2'; exact o2'.congr (fun i _ => by simp [cat])
  have u2 : Up w w2 := Below.trans ((Up.refl w).drewN m) (g2.below (x := fun _ => 0) (OwnB.nil _ _ _) (Nat.le_refl _))
  clear g2 o2'
  have H2 := hid o2.row
  have HO := hid o2
  clear o2
  go_wp2
  go_quiet (first | (go_at_call 8; refine Calls.quiet_of_same (refSum_any _ 0 (sh 8 x) _ (H2.out.drewN _))) | (go_at_call 20; refine Calls.quiet_of (HW2.out _ ((Up.drewN u2 _)))))
  go_wp2
  refine bodyPost_ret (results_tmp3 rfl _ _ _) rfl ?_
  exact ⟨rfl, Up.drewN u2 _⟩

set_option maxHeartbeats 1000000 in
theorem refUnframe_sum (b off n cap L : Nat) (x : Nat → Nat) (w : World) (hc : ∀ i, i < n → x i < 256 ∧ w.cell? ⟨b, off + i, none⟩ = some (.int .u8 (x i : Int))) (hcp : n ≤ cap) (hm : cap ≤ maxLen) (h8 : 8 ≤ n) (hL : w32 x = L) (hL2 : L ≤ 4096) (hn : 8 + L ≤ n) (hs : Crc.sum (sh 8 x) L ≠ w32 (sh 4 x)) (h9 : ¬ cap = 8) :
    Calls Tryd.prog 14 #[.slice (some ⟨b, off, none⟩) n cap] w fun e w' => e = .returned (.tuple #[.slice none 0 0, .int .i64 0, .int .i64 32]) ∧ Up w w' := by
  have HW := hid (fun W (hW : Up w W) => unword_any b off 4 cap x (by omega) W (fun i hi => ⟨(hc i (by omega)).1, hW.keep (hc i (by omega)).2⟩))
  have HW2 := hid (fun W (hW : Up w W) => unword_any b (off + 4) 4 (cap - 4) (sh 4 x) (by omega) W (fun i hi => by have := hc (4 + i) (by omega); rw [show off + 4 + i = off + (4 + i) by omega]; exact ⟨this.1, hW.keep this.2⟩))
  rw [hL] at HW
  have tS : (((Crc.sum (sh 8 x) L : Nat) : Int) != ((w32 (sh 4 x) : Nat) : Int)) = true := by rw [bne_iff_ne]; intro h; exact hs (by omega)
  have HC := hid hc
  have HM := hid hm
  unfold maxLen at hm
  clear hc hs hL 
  go_enter Tryd.func14, Tryd.ntmps14
  go_wp2_with ((go_at_call 20; refine (HW.out _ (Up.refl _)).mono ?_; rintro e w' ⟨rfl, m, rfl⟩))
  refine (join_any (w.drewN m).heap.size _ _ 0 L (fun _ => 0) (sh 8 x) (by omega) (w.drewN m) (OwnB.nil _ _ _) (Nat.le_refl _) (by rcases Nat.eq_zero_or_pos L with h0 | h0; subst h0; exact slice_row0 _ _ _ _; exact (slice_row HC.out HM.out 8 L _ h0 hn (by omega) (by omega)).drewN m) (by first | exact .inl rfl | exact .inr (by simp [Value.ownBlock]))).mono ?_
  rintro e w2 ⟨v2, rfl, o2', g2⟩
  have o2 : OwnB w.heap.size w2 v2 L (sh 8 x) := by rw [Nat.zero_add] at o2'; exact o2'.congr (fun i _ => by simp [cat])
  have u2 : Up w w2 := Below.trans ((Up.refl w).drewN m) (g2.below (x := fun _ => 0) (OwnB.nil _ _ _) (Nat.le_refl _))
  clear g2 o2'
  have H2 := hid o2.row
  have HO := hid o2
  clear o2
  go_wp2
  go_quiet (first | (go_at_call 8; refine Calls.quiet_of_same (refSum_any _ L (sh 8 x) _ (H2.out.drewN _))) | (go_at_call 20; refine Calls.quiet_of (HW2.out _ ((Up.drewN u2 _)))))
  go_wp2
  refine bodyPost_ret (results_tmp3 rfl _ _ _) rfl ?_
  exact ⟨rfl, Up.drewN u2 _⟩

end Go.Proofs.YtobdgdcccogghabDoor
