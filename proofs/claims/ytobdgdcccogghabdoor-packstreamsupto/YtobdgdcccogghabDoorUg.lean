/- What pack.Unframe and the document's Unframe return at every row of bytes, in one sentence; condition: the table of sixteen words lies where its initialiser lays it. -/
import Derived.Test.YtobdgdcccogghabDoorUf
namespace Go.Proofs.YtobdgdcccogghabDoor
open Go.RowKit
set_option linter.unusedVariables false
/-- The error's number. -/
def unfE (n : Nat) (x : Nat → Nat) : Nat := if n < 8 then 31 else if 4096 < w32 x then 2 else if n < 8 + w32 x then 31 else if Crc.sum (sh 8 x) (w32 x) = w32 (sh 4 x) then 0 else 32
def unfL (n : Nat) (x : Nat → Nat) : Nat := if unfE n x = 0 then w32 x else 0
def unfM (n : Nat) (x : Nat → Nat) : Nat := if unfE n x = 0 then 8 + w32 x else 0
theorem unf_no {n : Nat} {x : Nat → Nat} {k : Nat} (h : unfE n x = k) (hk : k ≠ 0) : unfL n x = 0 ∧ unfM n x = 0 := by
  unfold unfL unfM; rw [if_neg (by omega), if_neg (by omega)]; exact ⟨rfl, rfl⟩
theorem unf_ok {n : Nat} {x : Nat → Nat} (h : unfE n x = 0) : unfL n x = w32 x ∧ unfM n x = 8 + w32 x := by
  unfold unfL unfM; rw [if_pos h, if_pos h]; exact ⟨rfl, rfl⟩

set_option maxHeartbeats 1000000 in
theorem unframe_few (v : Value) (n : Nat) (x : Nat → Nat) (w : World) (hv : ByRow w v n x) (h8 : n < 8) :
    Calls Tryd.prog 13 #[v] w fun e w' => e = .returned (.tuple #[.slice none 0 0, .int .i64 0, .int .i64 31]) ∧ Up w w' := by
  have hval : ∃ a c, v = .slice a n c := by
    rcases hv with ⟨rfl, a, c, rfl, _⟩ | ⟨_, _, b, off, cap, rfl, _⟩
    · exact ⟨a, c, rfl⟩
    · exact ⟨_, _, rfl⟩
  obtain ⟨a, c, rfl⟩ := hval
  clear hv
  go_enter Tryd.func13, Tryd.ntmps13
  go_wp2
  refine bodyPost_ret (results_tmp3 rfl _ _ _) rfl ?_
  exact ⟨rfl, Up.refl _⟩

set_option maxHeartbeats 1000000 in
theorem unframe_long (b off n cap L : Nat) (x : Nat → Nat) (w : World) (hc : ∀ i, i < n → x i < 256 ∧ w.cell? ⟨b, off + i, none⟩ = some (.int .u8 (x i : Int))) (hcp : n ≤ cap) (hm : cap ≤ maxLen) (h8 : 8 ≤ n) (hL : w32 x = L) (hL3 : L < 4294967296) (hl : 4096 < L) :
    Calls Tryd.prog 13 #[.slice (some ⟨b, off, none⟩) n cap] w fun e w' => e = .returned (.tuple #[.slice none 0 0, .int .i64 0, .int .i64 2]) ∧ Up w w' := by
  have HW := hid (word_any b off n cap x (by omega) w hc)
  rw [hL] at HW
  unfold maxLen at hm
  clear hc hL
  go_enter Tryd.func13, Tryd.ntmps13
  go_wp2_with (go_at_call 18; refine HW.out.mono ?_; rintro e w' ⟨rfl, m, rfl⟩)
  refine bodyPost_ret (results_tmp3 rfl _ _ _) rfl ?_
  exact ⟨rfl, (Up.refl w).drewN _⟩

set_option maxHeartbeats 1000000 in
theorem unframe_short (b off n cap L : Nat) (x : Nat → Nat) (w : World) (hc : ∀ i, i < n → x i < 256 ∧ w.cell? ⟨b, off + i, none⟩ = some (.int .u8 (x i : Int))) (hcp : n ≤ cap) (hm : cap ≤ maxLen) (h8 : 8 ≤ n) (hL : w32 x = L) (hL3 : L < 4294967296) (hl : L ≤ 4096) (hs : n < 8 + L) :
    Calls Tryd.prog 13 #[.slice (some ⟨b, off, none⟩) n cap] w fun e w' => e = .returned (.tuple #[.slice none 0 0, .int .i64 0, .int .i64 31]) ∧ Up w w' := by
  have HW := hid (word_any b off n cap x (by omega) w hc)
  rw [hL] at HW
  unfold maxLen at hm
  clear hc hL
  go_enter Tryd.func13, Tryd.ntmps13
  go_wp2_with (go_at_call 18; refine HW.out.mono ?_; rintro e w' ⟨rfl, m, rfl⟩)
  refine bodyPost_ret (results_tmp3 rfl _ _ _) rfl ?_
  exact ⟨rfl, (Up.refl w).drewN _⟩

set_option maxHeartbeats 1000000 in
theorem unframe_any (v : Value) (n : Nat) (x : Nat → Nat) (w : World) (ht : Tab w) (hv : ByRow w v n x) :
    Calls Tryd.prog 13 #[v] w fun e w' => ∃ v', e = .returned (.tuple #[v', .int .i64 (unfM n x : Nat), .int .i64 (unfE n x : Nat)]) ∧ OwnB w.heap.size w' v' (unfL n x) (sh 8 x) ∧ Up w w' := by
  by_cases h8 : n < 8
  · have e : unfE n x = 31 := by unfold unfE; rw [if_pos h8]
    obtain ⟨e1, e2⟩ := unf_no e (by omega)
    rw [e, e1, e2]
    exact (unframe_few v n x w hv h8).mono fun e W ⟨he, hu⟩ => ⟨_, he, OwnB.nil _ _ _, hu⟩
  · have hlt := w32_lt x (fun i hi => hv.lt i (by omega))
    obtain ⟨b, off, cap, rfl, hc, hcp, hm⟩ := hv.cells (by omega)
    by_cases h2 : 4096 < w32 x
    · have e : unfE n x = 2 := by unfold unfE; rw [if_neg h8, if_pos h2]
      obtain ⟨e1, e2⟩ := unf_no e (by omega)
      rw [e, e1, e2]
      exact (unframe_long b off n cap _ x w hc hcp hm (by omega) rfl hlt h2).mono fun e W ⟨he, hu⟩ => ⟨_, he, OwnB.nil _ _ _, hu⟩
    · by_cases h3 : n < 8 + w32 x
      · have e : unfE n x = 31 := by unfold unfE; rw [if_neg h8, if_neg h2, if_pos h3]
        obtain ⟨e1, e2⟩ := unf_no e (by omega)
        rw [e, e1, e2]
        exact (unframe_short b off n cap _ x w hc hcp hm (by omega) rfl hlt (by omega) h3).mono fun e W ⟨he, hu⟩ => ⟨_, he, OwnB.nil _ _ _, hu⟩
      · by_cases hs : Crc.sum (sh 8 x) (w32 x) = w32 (sh 4 x)
        · have e : unfE n x = 0 := by unfold unfE; rw [if_neg h8, if_neg h2, if_neg h3, if_pos hs]
          obtain ⟨e1, e2⟩ := unf_ok e
          rw [e, e1, e2]
          by_cases h9 : cap = 8
          · have hn : n = 8 := by omega
            have hl0 : w32 x = 0 := by omega
            rw [hl0] at hs ⊢
            subst hn h9
            exact unframe_ok8 b off x w ht hc hl0 hs
          · exact unframe_ok b off n cap _ x w ht hc hcp hm (by omega) rfl (by omega) (by omega) hs h9
        · have e : unfE n x = 32 := by unfold unfE; rw [if_neg h8, if_neg h2, if_neg h3, if_neg hs]
          obtain ⟨e1, e2⟩ := unf_no e (by omega)
          rw [e, e1, e2]
          by_cases h9 : cap = 8
          · have hn : n = 8 := by omega
            have hl0 : w32 x = 0 := by omega
            rw [hl0] at hs
            subst hn h9
            exact (unframe_sum8 b off x w ht hc hl0 hs).mono fun e W ⟨he, hu⟩ => ⟨_, he, OwnB.nil _ _ _, hu⟩
          · exact (unframe_sum b off n cap _ x w ht hc hcp hm (by omega) rfl (by omega) (by omega) hs h9).mono fun e W ⟨he, hu⟩ => ⟨_, he, OwnB.nil _ _ _, hu⟩

set_option maxHeartbeats 1000000 in
theorem refUnframe_few (v : Value) (n : Nat) (x : Nat → Nat) (w : World) (hv : ByRow w v n x) (h8 : n < 8) :
    Calls Tryd.prog 14 #[v] w fun e w' => e = .returned (.tuple #[.slice none 0 0, .int .i64 0, .int .i64 31]) ∧ Up w w' := by
  have hval : ∃ a c, v = .slice a n c := by
    rcases hv with ⟨rfl, a, c, rfl, _⟩ | ⟨_, _, b, off, cap, rfl, _⟩
    · exact ⟨a, c, rfl⟩
    · exact ⟨_, _, rfl⟩
  obtain ⟨a, c, rfl⟩ := hval
  clear hv
  go_enter Tryd.func14, Tryd.ntmps14
  go_wp2
  refine bodyPost_ret (results_tmp3 rfl _ _ _) rfl ?_
  exact ⟨rfl, Up.refl _⟩

set_option maxHeartbeats 1000000 in
theorem refUnframe_long (b off n cap L : Nat) (x : Nat → Nat) (w : World) (hc : ∀ i, i < n → x i < 256 ∧ w.cell? ⟨b, off + i, none⟩ = some (.int .u8 (x i : Int))) (hcp : n ≤ cap) (hm : cap ≤ maxLen) (h8 : 8 ≤ n) (hL : w32 x = L) (hL3 : L < 4294967296) (hl : 4096 < L) :
    Calls Tryd.prog 14 #[.slice (some ⟨b, off, none⟩) n cap] w fun e w' => e = .returned (.tuple #[.slice none 0 0, .int .i64 0, .int .i64 2]) ∧ Up w w' := by
  have HW := hid (unword_any b off 4 cap x (by omega) w (fun i hi => hc i (by omega)))
  rw [hL] at HW
  unfold maxLen at hm
  clear hc hL
  go_enter Tryd.func14, Tryd.ntmps14
  go_wp2_with (go_at_call 20; refine HW.out.mono ?_; rintro e w' ⟨rfl, m, rfl⟩)
  refine bodyPost_ret (results_tmp3 rfl _ _ _) rfl ?_
  exact ⟨rfl, (Up.refl w).drewN _⟩

set_option maxHeartbeats 1000000 in
theorem refUnframe_short (b off n cap L : Nat) (x : Nat → Nat) (w : World) (hc : ∀ i, i < n → x i < 256 ∧ w.cell? ⟨b, off + i, none⟩ = some (.int .u8 (x i : Int))) (hcp : n ≤ cap) (hm : cap ≤ maxLen) (h8 : 8 ≤ n) (hL : w32 x = L) (hL3 : L < 4294967296) (hl : L ≤ 4096) (hs : n < 8 + L) :
    Calls Tryd.prog 14 #[.slice (some ⟨b, off, none⟩) n cap] w fun e w' => e = .returned (.tuple #[.slice none 0 0, .int .i64 0, .int .i64 31]) ∧ Up w w' := by
  have HW := hid (unword_any b off 4 cap x (by omega) w (fun i hi => hc i (by omega)))
  rw [hL] at HW
  unfold maxLen at hm
  clear hc hL
  go_enter Tryd.func14, Tryd.ntmps14
  go_wp2_with (go_at_call 20; refine HW.out.mono ?_; rintro e w' ⟨rfl, m, rfl⟩)
  refine bodyPost_ret (results_tmp3 rfl _ _ _) rfl ?_
  exact ⟨rfl, (Up.refl w).drewN _⟩

set_option maxHeartbeats 1000000 in
theorem refUnframe_any (v : Value) (n : Nat) (x : Nat → Nat) (w : World) (hv : ByRow w v n x) :
    Calls Tryd.prog 14 #[v] w fun e w' => ∃ v', e = .returned (.tuple #[v', .int .i64 (unfM n x : Nat), .int .i64 (unfE n x : Nat)]) ∧ OwnB w.heap.size w' v' (unfL n x) (sh 8 x) ∧ Up w w' := by
  by_cases h8 : n < 8
  · have e : unfE n x = 31 := by unfold unfE; rw [if_pos h8]
    obtain ⟨e1, e2⟩ := unf_no e (by omega)
    rw [e, e1, e2]
    exact (refUnframe_few v n x w hv h8).mono fun e W ⟨he, hu⟩ => ⟨_, he, OwnB.nil _ _ _, hu⟩
  · have hlt := w32_lt x (fun i hi => hv.lt i (by omega))
    obtain ⟨b, off, cap, rfl, hc, hcp, hm⟩ := hv.cells (by omega)
    by_cases h2 : 4096 < w32 x
    · have e : unfE n x = 2 := by unfold unfE; rw [if_neg h8, if_pos h2]
      obtain ⟨e1, e2⟩ := unf_no e (by omega)
      rw [e, e1, e2]
      exact (refUnframe_long b off n cap _ x w hc hcp hm (by omega) rfl hlt h2).mono fun e W ⟨he, hu⟩ => ⟨_, he, OwnB.nil _ _ _, hu⟩
    · by_cases h3 : n < 8 + w32 x
      · have e : unfE n x = 31 := by unfold unfE; rw [if_neg h8, if_neg h2, if_pos h3]
        obtain ⟨e1, e2⟩ := unf_no e (by omega)
        rw [e, e1, e2]
        exact (refUnframe_short b off n cap _ x w hc hcp hm (by omega) rfl hlt (by omega) h3).mono fun e W ⟨he, hu⟩ => ⟨_, he, OwnB.nil _ _ _, hu⟩
      · by_cases hs : Crc.sum (sh 8 x) (w32 x) = w32 (sh 4 x)
        · have e : unfE n x = 0 := by unfold unfE; rw [if_neg h8, if_neg h2, if_neg h3, if_pos hs]
          obtain ⟨e1, e2⟩ := unf_ok e
          rw [e, e1, e2]
          by_cases h9 : cap = 8
          · have hn : n = 8 := by omega
            have hl0 : w32 x = 0 := by omega
            rw [hl0] at hs ⊢
            subst hn h9
            exact refUnframe_ok8 b off x w hc hl0 hs
          · exact refUnframe_ok b off n cap _ x w hc hcp hm (by omega) rfl (by omega) (by omega) hs h9
        · have e : unfE n x = 32 := by unfold unfE; rw [if_neg h8, if_neg h2, if_neg h3, if_neg hs]
          obtain ⟨e1, e2⟩ := unf_no e (by omega)
          rw [e, e1, e2]
          by_cases h9 : cap = 8
          · have hn : n = 8 := by omega
            have hl0 : w32 x = 0 := by omega
            rw [hl0] at hs
            subst hn h9
            exact (refUnframe_sum8 b off x w hc hl0 hs).mono fun e W ⟨he, hu⟩ => ⟨_, he, OwnB.nil _ _ _, hu⟩
          · exact (refUnframe_sum b off n cap _ x w hc hcp hm (by omega) rfl (by omega) (by omega) hs h9).mono fun e W ⟨he, hu⟩ => ⟨_, he, OwnB.nil _ _ _, hu⟩

end Go.Proofs.YtobdgdcccogghabDoor
