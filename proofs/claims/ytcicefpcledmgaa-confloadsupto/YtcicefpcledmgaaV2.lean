/- conf.Voter, Member, fault at every configuration; conditions: the rows lie in memory. -/
import Derived.Test.YtcicefpcledmgaaV1
namespace Go.Proofs.Ytcicefpcledmgaa
open Go.RowKit Go.Lib
set_option linter.unusedVariables false
set_option linter.unusedSimpArgs false
set_option maxRecDepth 20000
def memB (n : Nat) (f : Nat → Int) (m : Nat) (g : Nat → Int) (x : Int) : Bool := hasK f x n || hasK g x m
/-- Why a change may not be. -/
def fltC (n : Nat) (f : Nat → Int) (m : Nat) (g : Nat → Int) (k x : Int) : Int :=
  if rightB n f m g = false ∨ k < 1 ∨ 3 < k ∨ x < 1 ∨ 7 < x then 1
  else if k = 1 then (if memB n f m g x = true then 5 else 0)
  else if k = 2 then (if hasK g x m = false then 4 else 0)
  else (if memB n f m g x = false then 4 else if hasK f x n = true ∧ n = 1 then 3 else 0)
set_option maxHeartbeats 2000000 in
set_option maxRecDepth 20000 in
theorem voter_any (v1 v2 : Value) (n m : Nat) (f g : Nat → Int) (x : Int) (w : World) (h1 : NRowL w v1 n f) (h2 : NRowL w v2 m g) :
    Calls Try.prog 12 #[.agg #[v1, v2], .int .i64 x] w fun e w' => e = .returned (.bool (hasK f x n)) ∧ Old w w' := by
  have HC := hid (fun (W : World) (u : Old w W) => contains_any v1 n f x W (h1.old u))
  obtain ⟨_, p1, c1, rfl, _⟩ := h1
  obtain ⟨_, p2, c2, rfl, _⟩ := h2
  go_enter Try.func12, Try.ntmps12
  go_wp2_with (go_at_call 30; refine (HC.out _ ((Old.refl _).alloc _)).mono ?_; rintro e w1 ⟨rfl, o1⟩; have O1 := hid (((Old.refl w).alloc _).trans o1); clear o1)
  go_ret
  exact ⟨rfl, O1.out⟩
set_option maxHeartbeats 2000000 in
set_option maxRecDepth 20000 in
theorem member_any (v1 v2 : Value) (n m : Nat) (f g : Nat → Int) (x : Int) (w : World) (h1 : NRowL w v1 n f) (h2 : NRowL w v2 m g) :
    Calls Try.prog 11 #[.agg #[v1, v2], .int .i64 x] w fun e w' => e = .returned (.bool (memB n f m g x)) ∧ Old w w' := by
  have HV := hid (fun (W : World) (u : Old w W) => voter_any v1 v2 n m f g x W (h1.old u) (h2.old u))
  have HC := hid (fun (W : World) (u : Old w W) => contains_any v2 m g x W (h2.old u))
  obtain ⟨_, p1, c1, rfl, _⟩ := h1
  obtain ⟨_, p2, c2, rfl, _⟩ := h2
  go_enter Try.func11, Try.ntmps11
  go_upto_region 1 with (fail)
  generalize hw1 : w.alloc (.cells #[.slice p1 n c1, .slice p2 m c2] 24) = w1
  have O1 := hid (show Old w w1 from by rw [← hw1]; exact (Old.refl _).alloc _)
  have x0 : w1.cell? ⟨w.heap.size, 0, none⟩ = some (.slice p1 n c1) := by rw [← hw1]; simp
  have x1 : w1.cell? ⟨w.heap.size, 1, none⟩ = some (.slice p2 m c2) := by rw [← hw1]; simp
  clear hw1
  generalize w.heap.size = cb at *
  have E : Hid (memB n f m g x = (hasK f x n || hasK g x m)) := hid rfl
  cases hA : hasK f x n with
  | true =>
    rw [hA] at HV E
    go_wp2_with (first | (go_at_call 12; refine (HV.out _ O1.out).mono ?_; rintro e w2 ⟨rfl, o2⟩; have O2 := hid (O1.out.trans o2); have y1 := o2.keep x1; clear o2))
    go_ret
    exact ⟨by rw [E.out]; rfl, O2.out⟩
  | false =>
    rw [hA, Bool.false_or] at E
    rw [hA] at HV
    go_wp2_with (first | (go_at_call 12; refine (HV.out _ O1.out).mono ?_; rintro e w2 ⟨rfl, o2⟩; have O2 := hid (O1.out.trans o2); have y1 := o2.keep x1; clear o2) | (go_at_call 30; refine (HC.out _ O2.out).mono ?_; rintro e w3 ⟨rfl, o3⟩; have O3 := hid (O2.out.trans o3); clear o3))
    go_ret
    exact ⟨by rw [E.out]; rfl, O3.out⟩
set_option maxHeartbeats 4000000 in
set_option maxRecDepth 20000 in
theorem fault_any (v1 v2 : Value) (n m : Nat) (f g : Nat → Int) (k x : Int) (w : World) (h1 : NRowL w v1 n f) (h2 : NRowL w v2 m g) :
    Calls Try.prog 33 #[.agg #[v1, v2], .int .i64 k, .int .i64 x] w fun e w' => e = .returned (.int .i64 (fltC n f m g k x)) ∧ Old w w' := by
  have HR := hid (fun (W : World) (u : Old w W) => right_any v1 v2 n m f g W (h1.old u) (h2.old u))
  have HM := hid (fun (W : World) (u : Old w W) => member_any v1 v2 n m f g x W (h1.old u) (h2.old u))
  have HV := hid (fun (W : World) (u : Old w W) => voter_any v1 v2 n m f g x W (h1.old u) (h2.old u))
  have HC := hid (fun (W : World) (u : Old w W) => contains_any v2 m g x W (h2.old u))
  have hn := h1.1
  obtain ⟨_, p1, c1, rfl, _⟩ := h1
  obtain ⟨_, p2, c2, rfl, _⟩ := h2
  have hmm : (n : Int) ≤ 17592186044000 := by omega
  go_enter Try.func33, Try.ntmps33
  go_upto_region 1 with (fail)
  generalize hw1 : w.alloc (.cells #[.slice p1 n c1, .slice p2 m c2] 24) = w1
  have O1 := hid (show Old w w1 from by rw [← hw1]; exact (Old.refl _).alloc _)
  have x0 : w1.cell? ⟨w.heap.size, 0, none⟩ = some (.slice p1 n c1) := by rw [← hw1]; simp
  have x1 : w1.cell? ⟨w.heap.size, 1, none⟩ = some (.slice p2 m c2) := by rw [← hw1]; simp
  clear hw1
  generalize w.heap.size = cb at *
  cases hR : rightB n f m g with
  | false =>
    rw [hR] at HR
    have E : Hid (fltC n f m g k x = 1) := hid (by unfold fltC; rw [if_pos (.inl hR)])
    go_wp2_with (first | (go_at_call 9; refine (HR.out _ O1.out).mono ?_; rintro e w2 ⟨rfl, o2⟩; have O2 := hid (O1.out.trans o2); have V2 := hid o2; have y0 := o2.keep x0; have y1 := o2.keep x1; clear o2))
    go_ret
    exact ⟨by rw [E.out]; rfl, O2.out⟩
  | true =>
    rw [hR] at HR
    by_cases q0 : k < 1
    · have d0 : decide (k < 1) = true := decide_eq_true q0
      have E : Hid (fltC n f m g k x = 1) := hid (by unfold fltC; rw [if_pos (.inr (.inl q0))])
      go_wp2_with (first | (go_at_call 9; refine (HR.out _ O1.out).mono ?_; rintro e w2 ⟨rfl, o2⟩; have O2 := hid (O1.out.trans o2); have V2 := hid o2; have y0 := o2.keep x0; have y1 := o2.keep x1; clear o2))
      go_ret
      exact ⟨by rw [E.out]; rfl, O2.out⟩
    · have d0 : decide (k < 1) = false := decide_eq_false q0
      by_cases q1 : 3 < k
      · have d1 : decide (3 < k) = true := decide_eq_true q1
        have E : Hid (fltC n f m g k x = 1) := hid (by unfold fltC; rw [if_pos (.inr (.inr (.inl q1)))])
        go_wp2_with (first | (go_at_call 9; refine (HR.out _ O1.out).mono ?_; rintro e w2 ⟨rfl, o2⟩; have O2 := hid (O1.out.trans o2); have V2 := hid o2; have y0 := o2.keep x0; have y1 := o2.keep x1; clear o2))
        go_ret
        exact ⟨by rw [E.out]; rfl, O2.out⟩
      · have d1 : decide (3 < k) = false := decide_eq_false q1
        by_cases q2 : x < 1
        · have d2 : decide (x < 1) = true := decide_eq_true q2
          have E : Hid (fltC n f m g k x = 1) := hid (by unfold fltC; rw [if_pos (.inr (.inr (.inr (.inl q2))))])
          go_wp2_with (first | (go_at_call 9; refine (HR.out _ O1.out).mono ?_; rintro e w2 ⟨rfl, o2⟩; have O2 := hid (O1.out.trans o2); have V2 := hid o2; have y0 := o2.keep x0; have y1 := o2.keep x1; clear o2))
          go_ret
          exact ⟨by rw [E.out]; rfl, O2.out⟩
        · have d2 : decide (x < 1) = false := decide_eq_false q2
          by_cases q3 : 7 < x
          · have d3 : decide (7 < x) = true := decide_eq_true q3
            have E : Hid (fltC n f m g k x = 1) := hid (by unfold fltC; rw [if_pos (.inr (.inr (.inr (.inr q3))))])
            go_wp2_with (first | (go_at_call 9; refine (HR.out _ O1.out).mono ?_; rintro e w2 ⟨rfl, o2⟩; have O2 := hid (O1.out.trans o2); have V2 := hid o2; have y0 := o2.keep x0; have y1 := o2.keep x1; clear o2))
            go_ret
            exact ⟨by rw [E.out]; rfl, O2.out⟩
          · have d3 : decide (7 < x) = false := decide_eq_false q3
            have hng : ¬ (rightB n f m g = false ∨ k < 1 ∨ 3 < k ∨ x < 1 ∨ 7 < x) := by rw [hR]; simp; omega
            by_cases k1 : k = 1
            · subst k1
              cases hM : memB n f m g x with
              | true =>
                rw [hM] at HM
                have E : Hid (fltC n f m g 1 x = 5) := hid (by unfold fltC; rw [if_neg hng, if_pos rfl, if_pos hM])
                go_wp2_with (first | (go_at_call 9; refine (HR.out _ O1.out).mono ?_; rintro e w2 ⟨rfl, o2⟩; have O2 := hid (O1.out.trans o2); have V2 := hid o2; have y0 := o2.keep x0; have y1 := o2.keep x1; clear o2) | (go_at_call 11; refine (HM.out _ O2.out).mono ?_; rintro e w3 ⟨rfl, o3⟩; have O3 := hid (O2.out.trans o3); have z0 := o3.keep y0; have z1 := o3.keep y1; clear o3))
                go_ret
                exact ⟨by rw [E.out]; rfl, O3.out⟩
              | false =>
                rw [hM] at HM
                have E : Hid (fltC n f m g 1 x = 0) := hid (by unfold fltC; rw [if_neg hng, if_pos rfl, if_neg (by rw [hM]; simp)])
                go_wp2_with (first | (go_at_call 9; refine (HR.out _ O1.out).mono ?_; rintro e w2 ⟨rfl, o2⟩; have O2 := hid (O1.out.trans o2); have V2 := hid o2; have y0 := o2.keep x0; have y1 := o2.keep x1; clear o2) | (go_at_call 11; refine (HM.out _ O2.out).mono ?_; rintro e w3 ⟨rfl, o3⟩; have O3 := hid (O2.out.trans o3); have z0 := o3.keep y0; have z1 := o3.keep y1; clear o3))
                go_ret
                exact ⟨by rw [E.out]; rfl, O3.out⟩
            · have e1 : (k == 1) = false := by simp [k1]
              by_cases k2 : k = 2
              · subst k2
                cases hG : hasK g x m with
                | false =>
                  rw [hG] at HC
                  have E : Hid (fltC n f m g 2 x = 4) := hid (by unfold fltC; rw [if_neg hng, if_neg (by omega), if_pos rfl, if_pos hG])
                  go_wp2_with (first | (go_at_call 9; refine (HR.out _ O1.out).mono ?_; rintro e w2 ⟨rfl, o2⟩; have O2 := hid (O1.out.trans o2); have V2 := hid o2; have y0 := o2.keep x0; have y1 := o2.keep x1; clear o2) | (go_at_call 30; refine (HC.out _ O2.out).mono ?_; rintro e w3 ⟨rfl, o3⟩; have O3 := hid (O2.out.trans o3); clear o3))
                  go_ret
                  exact ⟨by rw [E.out]; rfl, O3.out⟩
                | true =>
                  rw [hG] at HC
                  have E : Hid (fltC n f m g 2 x = 0) := hid (by unfold fltC; rw [if_neg hng, if_neg (by omega), if_pos rfl, if_neg (by rw [hG]; simp)])
                  go_wp2_with (first | (go_at_call 9; refine (HR.out _ O1.out).mono ?_; rintro e w2 ⟨rfl, o2⟩; have O2 := hid (O1.out.trans o2); have V2 := hid o2; have y0 := o2.keep x0; have y1 := o2.keep x1; clear o2) | (go_at_call 30; refine (HC.out _ O2.out).mono ?_; rintro e w3 ⟨rfl, o3⟩; have O3 := hid (O2.out.trans o3); clear o3))
                  go_ret
                  exact ⟨by rw [E.out]; rfl, O3.out⟩
              · have e2 : (k == 2) = false := by simp [k2]
                obtain rfl : k = 3 := by omega
                cases hM : memB n f m g x with
                | false =>
                  rw [hM] at HM
                  have E : Hid (fltC n f m g 3 x = 4) := hid (by unfold fltC; rw [if_neg hng, if_neg (by omega), if_neg (by omega), if_pos hM])
                  go_wp2_with (first | (go_at_call 9; refine (HR.out _ O1.out).mono ?_; rintro e w2 ⟨rfl, o2⟩; have O2 := hid (O1.out.trans o2); have V2 := hid o2; have y0 := o2.keep x0; have y1 := o2.keep x1; clear o2) | (go_at_call 11; refine (HM.out _ O2.out).mono ?_; rintro e w3 ⟨rfl, o3⟩; have O3 := hid (O2.out.trans o3); have z0 := o3.keep y0; have z1 := o3.keep y1; clear o3))
                  go_ret
                  exact ⟨by rw [E.out]; rfl, O3.out⟩
                | true =>
                  rw [hM] at HM
                  cases hF : hasK f x n with
                  | false =>
                    rw [hF] at HV
                    have E : Hid (fltC n f m g 3 x = 0) := hid (by unfold fltC; rw [if_neg hng, if_neg (by omega), if_neg (by omega), if_neg (by rw [hM]; simp), if_neg (by rw [hF]; simp)])
                    go_wp2_with (first | (go_at_call 9; refine (HR.out _ O1.out).mono ?_; rintro e w2 ⟨rfl, o2⟩; have O2 := hid (O1.out.trans o2); have V2 := hid o2; have y0 := o2.keep x0; have y1 := o2.keep x1; clear o2) | (go_at_call 11; refine (HM.out _ O2.out).mono ?_; rintro e w3 ⟨rfl, o3⟩; have O3 := hid (O2.out.trans o3); have z0 := o3.keep y0; have z1 := o3.keep y1; clear o3) | (go_at_call 12; refine (HV.out _ O3.out).mono ?_; rintro e w4 ⟨rfl, o4⟩; have O4 := hid (O3.out.trans o4); have u0 := o4.keep z0; clear o4))
                    go_ret
                    exact ⟨by rw [E.out]; rfl, O4.out⟩
                  | true =>
                    rw [hF] at HV
                    by_cases hn1 : n = 1
                    · subst hn1
                      have E : Hid (fltC 1 f m g 3 x = 3) := hid (by unfold fltC; rw [if_neg hng, if_neg (by omega), if_neg (by omega), if_neg (by rw [hM]; simp), if_pos ⟨hF, rfl⟩])
                      go_wp2_with (first | (go_at_call 9; refine (HR.out _ O1.out).mono ?_; rintro e w2 ⟨rfl, o2⟩; have O2 := hid (O1.out.trans o2); have V2 := hid o2; have y0 := o2.keep x0; have y1 := o2.keep x1; clear o2) | (go_at_call 11; refine (HM.out _ O2.out).mono ?_; rintro e w3 ⟨rfl, o3⟩; have O3 := hid (O2.out.trans o3); have z0 := o3.keep y0; have z1 := o3.keep y1; clear o3) | (go_at_call 12; refine (HV.out _ O3.out).mono ?_; rintro e w4 ⟨rfl, o4⟩; have O4 := hid (O3.out.trans o4); have u0 := o4.keep z0; clear o4))
                      go_ret
                      exact ⟨by rw [E.out]; rfl, O4.out⟩
                    · have dn : ((n : Int) == 1) = false := by simp; omega
                      have E : Hid (fltC n f m g 3 x = 0) := hid (by unfold fltC; rw [if_neg hng, if_neg (by omega), if_neg (by omega), if_neg (by rw [hM]; simp), if_neg (fun q => hn1 q.2)])
                      go_wp2_with (first | (go_at_call 9; refine (HR.out _ O1.out).mono ?_; rintro e w2 ⟨rfl, o2⟩; have O2 := hid (O1.out.trans o2); have V2 := hid o2; have y0 := o2.keep x0; have y1 := o2.keep x1; clear o2) | (go_at_call 11; refine (HM.out _ O2.out).mono ?_; rintro e w3 ⟨rfl, o3⟩; have O3 := hid (O2.out.trans o3); have z0 := o3.keep y0; have z1 := o3.keep y1; clear o3) | (go_at_call 12; refine (HV.out _ O3.out).mono ?_; rintro e w4 ⟨rfl, o4⟩; have O4 := hid (O3.out.trans o4); have u0 := o4.keep z0; clear o4))
                      go_ret
                      exact ⟨by rw [E.out]; rfl, O4.out⟩
end Go.Proofs.Ytcicefpcledmgaa
