/- The law RlogNewer; no condition. -/
import Derived.Test.YtjdplgaimcicgaaLa
namespace Go.Proofs.Ytjdplgaimcicgaa
open Go.RowKit Go.Lib
set_option linter.unusedVariables false
set_option linter.unusedSimpArgs false
set_option maxRecDepth 20000
theorem nb1 {i t j u : Int} (h : newB i t j u = false) : newB j u i t = true := by unfold newB at *; simp at *; omega
theorem nb2 {i t j u : Int} (h : newB i t j u = true) (h2 : newB j u i t = true) : i = j ∧ t = u := by unfold newB at *; simp at *; omega
theorem nb2' {i t j u : Int} (h : newB i t j u = true) (h2 : newB j u i t = false) : i ≠ j ∨ t ≠ u := by unfold newB at *; simp at *; omega
theorem nb2'' {i t j u : Int} (h : newB i t j u = false) : i ≠ j ∨ t ≠ u := by unfold newB at *; simp at *; omega
theorem nb3 {i t j u k v : Int} (h : newB i t j u = true) (h2 : newB j u k v = true) : newB i t k v = true := by unfold newB at *; simp at *; omega
set_option maxHeartbeats 8000000 in
set_option maxRecDepth 20000 in
theorem newerLaw (v0 v1 v2 : Value) (w : World) (h0 : ∃ (n : Nat) (f : Nat → Int), NRowL w v0 n f) (h1 : ∃ (n : Nat) (f : Nat → Int), NRowL w v1 n f) (h2 : ∃ (n : Nat) (f : Nat → Int), NRowL w v2 n f) :
    Calls Try.prog 3 #[v0, v1, v2] w fun e w' => e = .returned (.bool true) ∧ Old w w' := by
  obtain ⟨n0, f0, r0⟩ := h0
  obtain ⟨n1, f1, r1⟩ := h1
  obtain ⟨n2, f2, r2⟩ := h2
  have H0 := hid (fun (W : World) (u : Old w W) => made_any v0 n0 f0 W (r0.old u))
  have H1 := hid (fun (W : World) (u : Old w W) => made_any v1 n1 f1 W (r1.old u))
  have H2 := hid (fun (W : World) (u : Old w W) => made_any v2 n2 f2 W (r2.old u))
  obtain ⟨_, p0, c0, rfl, _⟩ := r0
  obtain ⟨_, p1, c1, rfl, _⟩ := r1
  obtain ⟨_, p2, c2, rfl, _⟩ := r2
  have tok1 : True := trivial
  have tok2 : True := trivial
  go_enter Try.func3, Try.ntmps3
  go_upto_region 4 with (first | (go_at_call 4; refine (alive_any _).mono ?_; rintro e w1 ⟨rfl, o1⟩; have O1 := hid o1; clear o1) | (go_at_call 5; have _t := tok1; clear tok1 _t; refine (H0.out _ O1.out).mono ?_; rintro e w2 ⟨l0, m0, g0, rfl, R0, o2⟩; have X0 := hid R0; have O2 := hid (O1.out.trans o2); clear R0 o2) | (go_at_call 5; have _t := tok2; clear tok2 _t; refine (H1.out _ O2.out).mono ?_; rintro e w3 ⟨l1, m1, g1, rfl, R1, o3⟩; have X1 := hid R1; have Y0 := hid (X0.out.old o3); have O3 := hid (O2.out.trans o3); clear R1 o3) | (go_at_call 5; refine (H2.out _ O3.out).mono ?_; rintro e w4 ⟨l2, m2, g2, rfl, R2, o4⟩; have Z2 := hid R2; have Z1 := hid (X1.out.old o4); have Z0 := hid (Y0.out.old o4); have O4 := hid (O3.out.trans o4); clear R2 o4))
  clear H0 H1 H2 X0 X1 Y0 O1 O2 O3
  have HL0 := hid (fun (W : World) (u : Old w4 W) => last_any l0 0 0 m0 g0 W (Z0.out.old u))
  have HL1 := hid (fun (W : World) (u : Old w4 W) => last_any l1 0 0 m1 g1 W (Z1.out.old u))
  have HL2 := hid (fun (W : World) (u : Old w4 W) => last_any l2 0 0 m2 g2 W (Z2.out.old u))
  have HN0 := hid (fun (W : World) (u : Old w4 W) (a b : Int) => newer_any l0 0 0 m0 g0 a b _ _ W (Z0.out.old u) rfl rfl)
  have HN1 := hid (fun (W : World) (u : Old w4 W) (a b : Int) => newer_any l1 0 0 m1 g1 a b _ _ W (Z1.out.old u) rfl rfl)
  generalize lastI 0 m0 g0 = i at *
  generalize lastT 0 m0 g0 = t at *
  generalize lastI 0 m1 g1 = j at *
  generalize lastT 0 m1 g1 = u at *
  generalize lastI 0 m2 g2 = k at *
  generalize lastT 0 m2 g2 = v at *
  clear Z0 Z1 Z2
  have tok1 : True := trivial
  have tok2 : True := trivial
  go_upto_region 9 with (first | (go_at_call 6; have _t := tok1; clear tok1 _t; refine (HL0.out _ (Old.refl _)).mono ?_; rintro e w5 ⟨rfl, o5⟩; have O5 := hid o5; clear o5) | (go_at_call 6; have _t := tok2; clear tok2 _t; refine (HL1.out _ O5.out).mono ?_; rintro e w6 ⟨rfl, o6⟩; have O6 := hid (O5.out.trans o6); clear o6) | (go_at_call 6; refine (HL2.out _ O6.out).mono ?_; rintro e w7 ⟨rfl, o7⟩; have o8 : Old w4 w7 := O6.out.trans o7; clear o7))
  clear HL0 HL1 HL2 O5 O6
  have fin : newB i t j u = true → newB j u k v = true → newB i t k v = true := nb3
  cases ha : newB i t j u with
  | false =>
    have hb := nb1 ha
    have hne := nb2'' ha
    have HA := hid (fun (W : World) (q : Old w4 W) => by have z := HN0.out W q j u; rw [ha] at z; exact z)
    have HB := hid (fun (W : World) (q : Old w4 W) => by have z := HN1.out W q i t; rw [hb] at z; exact z)
    clear HN0 HN1 fin
    by_cases hij : i = j
    · have e1 : (i == j) = true := by simp [hij]
      have e2 : (t == u) = false := by rcases hne with q | q; exact absurd hij q; simp [q]
      clear hne ha hb hij
      go_upto_region 11 with (first | (go_at_call_of 7 (Value.pointer (some ⟨l0, 0, none⟩)); refine (HA.out _ (by assumption)).mono ?_; rintro e wq ⟨rfl, oq⟩; have oq2 : Old w4 wq := Old.trans (by assumption) oq; clear oq) | (go_at_call_of 7 (Value.pointer (some ⟨l1, 0, none⟩)); refine (HB.out _ (by assumption)).mono ?_; rintro e wq ⟨rfl, oq⟩; have oq2 : Old w4 wq := Old.trans (by assumption) oq; clear oq))
      have tok1 : True := trivial
      go_wp2_with (first | (go_at_call_of 7 (Value.pointer (some ⟨l0, 0, none⟩)); have _t := tok1; clear tok1 _t; refine (HA.out _ (by assumption)).mono ?_; rintro e wq ⟨rfl, oq⟩; have oq2 : Old w4 wq := Old.trans (by assumption) oq; clear oq))
      go_ret
      exact ⟨rfl, O4.out.trans (by assumption)⟩
    · have e1 : (i == j) = false := by simp [hij]
      clear hne ha hb
      go_upto_region 11 with (first | (go_at_call_of 7 (Value.pointer (some ⟨l0, 0, none⟩)); refine (HA.out _ (by assumption)).mono ?_; rintro e wq ⟨rfl, oq⟩; have oq2 : Old w4 wq := Old.trans (by assumption) oq; clear oq) | (go_at_call_of 7 (Value.pointer (some ⟨l1, 0, none⟩)); refine (HB.out _ (by assumption)).mono ?_; rintro e wq ⟨rfl, oq⟩; have oq2 : Old w4 wq := Old.trans (by assumption) oq; clear oq))
      have tok1 : True := trivial
      go_wp2_with (first | (go_at_call_of 7 (Value.pointer (some ⟨l0, 0, none⟩)); have _t := tok1; clear tok1 _t; refine (HA.out _ (by assumption)).mono ?_; rintro e wq ⟨rfl, oq⟩; have oq2 : Old w4 wq := Old.trans (by assumption) oq; clear oq))
      go_ret
      exact ⟨rfl, O4.out.trans (by assumption)⟩
  | true =>
    have HA := hid (fun (W : World) (q : Old w4 W) => by have z := HN0.out W q j u; rw [ha] at z; exact z)
    cases hc : newB j u k v with
    | false =>
      have HC := hid (fun (W : World) (q : Old w4 W) => by have z := HN1.out W q k v; rw [hc] at z; exact z)
      cases hb : newB j u i t with
      | false =>
        have HB := hid (fun (W : World) (q : Old w4 W) => by have z := HN1.out W q i t; rw [hb] at z; exact z)
        have hne := nb2' ha hb
        clear HN0 HN1 fin ha hb hc
        by_cases hij : i = j
        · have d1 : (i == j) = true := by simp [hij]
          have d2 : (t == u) = false := by rcases hne with q | q; exact absurd hij q; simp [q]
          clear hij hne
          go_upto_region 11 with (first | (go_at_call_of 7 (Value.pointer (some ⟨l0, 0, none⟩)); refine (HA.out _ (by assumption)).mono ?_; rintro e wq ⟨rfl, oq⟩; have oq2 : Old w4 wq := Old.trans (by assumption) oq; clear oq) | (go_at_call_of 7 (Value.pointer (some ⟨l1, 0, none⟩)); refine (HB.out _ (by assumption)).mono ?_; rintro e wq ⟨rfl, oq⟩; have oq2 : Old w4 wq := Old.trans (by assumption) oq; clear oq))
          have tok1 : True := trivial
          go_wp2_with (first | (go_at_call_of 7 (Value.pointer (some ⟨l0, 0, none⟩)); have _t := tok1; clear tok1 _t; refine (HA.out _ (by assumption)).mono ?_; rintro e wq ⟨rfl, oq⟩; have oq2 : Old w4 wq := Old.trans (by assumption) oq; clear oq) | (go_at_call_of 7 (Value.pointer (some ⟨l1, 0, none⟩)); refine (HC.out _ (by assumption)).mono ?_; rintro e wq ⟨rfl, oq⟩; have oq2 : Old w4 wq := Old.trans (by assumption) oq; clear oq))
          go_ret
          exact ⟨rfl, O4.out.trans (by assumption)⟩
        · have d1 : (i == j) = false := by simp [hij]
          clear hne
          go_upto_region 11 with (first | (go_at_call_of 7 (Value.pointer (some ⟨l0, 0, none⟩)); refine (HA.out _ (by assumption)).mono ?_; rintro e wq ⟨rfl, oq⟩; have oq2 : Old w4 wq := Old.trans (by assumption) oq; clear oq) | (go_at_call_of 7 (Value.pointer (some ⟨l1, 0, none⟩)); refine (HB.out _ (by assumption)).mono ?_; rintro e wq ⟨rfl, oq⟩; have oq2 : Old w4 wq := Old.trans (by assumption) oq; clear oq))
          have tok1 : True := trivial
          go_wp2_with (first | (go_at_call_of 7 (Value.pointer (some ⟨l0, 0, none⟩)); have _t := tok1; clear tok1 _t; refine (HA.out _ (by assumption)).mono ?_; rintro e wq ⟨rfl, oq⟩; have oq2 : Old w4 wq := Old.trans (by assumption) oq; clear oq) | (go_at_call_of 7 (Value.pointer (some ⟨l1, 0, none⟩)); refine (HC.out _ (by assumption)).mono ?_; rintro e wq ⟨rfl, oq⟩; have oq2 : Old w4 wq := Old.trans (by assumption) oq; clear oq))
          go_ret
          exact ⟨rfl, O4.out.trans (by assumption)⟩
      | true =>
        have HB := hid (fun (W : World) (q : Old w4 W) => by have z := HN1.out W q i t; rw [hb] at z; exact z)
        obtain ⟨e1, e2⟩ := nb2 ha hb
        have d1 : (i == j) = true := by simp [e1]
        have d2 : (t == u) = true := by simp [e2]
        clear e1 e2
        clear HN0 HN1 fin ha hb hc
        go_upto_region 11 with (first | (go_at_call_of 7 (Value.pointer (some ⟨l0, 0, none⟩)); refine (HA.out _ (by assumption)).mono ?_; rintro e wq ⟨rfl, oq⟩; have oq2 : Old w4 wq := Old.trans (by assumption) oq; clear oq) | (go_at_call_of 7 (Value.pointer (some ⟨l1, 0, none⟩)); refine (HB.out _ (by assumption)).mono ?_; rintro e wq ⟨rfl, oq⟩; have oq2 : Old w4 wq := Old.trans (by assumption) oq; clear oq))
        have tok1 : True := trivial
        go_wp2_with (first | (go_at_call_of 7 (Value.pointer (some ⟨l0, 0, none⟩)); have _t := tok1; clear tok1 _t; refine (HA.out _ (by assumption)).mono ?_; rintro e wq ⟨rfl, oq⟩; have oq2 : Old w4 wq := Old.trans (by assumption) oq; clear oq) | (go_at_call_of 7 (Value.pointer (some ⟨l1, 0, none⟩)); refine (HC.out _ (by assumption)).mono ?_; rintro e wq ⟨rfl, oq⟩; have oq2 : Old w4 wq := Old.trans (by assumption) oq; clear oq))
        go_ret
        exact ⟨rfl, O4.out.trans (by assumption)⟩
    | true =>
      have HC := hid (fun (W : World) (q : Old w4 W) => by have z := HN1.out W q k v; rw [hc] at z; exact z)
      have hf := fin ha hc
      have HD := hid (fun (W : World) (q : Old w4 W) => by have z := HN0.out W q k v; rw [hf] at z; exact z)
      cases hb : newB j u i t with
      | false =>
        have HB := hid (fun (W : World) (q : Old w4 W) => by have z := HN1.out W q i t; rw [hb] at z; exact z)
        have hne := nb2' ha hb
        clear HN0 HN1 fin ha hb hc hf
        by_cases hij : i = j
        · have d1 : (i == j) = true := by simp [hij]
          have d2 : (t == u) = false := by rcases hne with q | q; exact absurd hij q; simp [q]
          clear hij hne
          go_upto_region 11 with (first | (go_at_call_of 7 (Value.pointer (some ⟨l0, 0, none⟩)); refine (HA.out _ (by assumption)).mono ?_; rintro e wq ⟨rfl, oq⟩; have oq2 : Old w4 wq := Old.trans (by assumption) oq; clear oq) | (go_at_call_of 7 (Value.pointer (some ⟨l1, 0, none⟩)); refine (HB.out _ (by assumption)).mono ?_; rintro e wq ⟨rfl, oq⟩; have oq2 : Old w4 wq := Old.trans (by assumption) oq; clear oq))
          have tok1 : True := trivial
          go_wp2_with (first | (go_at_call_of 7 (Value.pointer (some ⟨l0, 0, none⟩)); have _t := tok1; clear tok1 _t; refine (HA.out _ (by assumption)).mono ?_; rintro e wq ⟨rfl, oq⟩; have oq2 : Old w4 wq := Old.trans (by assumption) oq; clear oq) | (go_at_call_of 7 (Value.pointer (some ⟨l1, 0, none⟩)); refine (HC.out _ (by assumption)).mono ?_; rintro e wq ⟨rfl, oq⟩; have oq2 : Old w4 wq := Old.trans (by assumption) oq; clear oq) | (go_at_call_of 7 (Value.pointer (some ⟨l0, 0, none⟩)); refine (HD.out _ (by assumption)).mono ?_; rintro e wq ⟨rfl, oq⟩; have oq2 : Old w4 wq := Old.trans (by assumption) oq; clear oq))
          go_ret
          exact ⟨rfl, O4.out.trans (by assumption)⟩
        · have d1 : (i == j) = false := by simp [hij]
          clear hne
          go_upto_region 11 with (first | (go_at_call_of 7 (Value.pointer (some ⟨l0, 0, none⟩)); refine (HA.out _ (by assumption)).mono ?_; rintro e wq ⟨rfl, oq⟩; have oq2 : Old w4 wq := Old.trans (by assumption) oq; clear oq) | (go_at_call_of 7 (Value.pointer (some ⟨l1, 0, none⟩)); refine (HB.out _ (by assumption)).mono ?_; rintro e wq ⟨rfl, oq⟩; have oq2 : Old w4 wq := Old.trans (by assumption) oq; clear oq))
          have tok1 : True := trivial
          go_wp2_with (first | (go_at_call_of 7 (Value.pointer (some ⟨l0, 0, none⟩)); have _t := tok1; clear tok1 _t; refine (HA.out _ (by assumption)).mono ?_; rintro e wq ⟨rfl, oq⟩; have oq2 : Old w4 wq := Old.trans (by assumption) oq; clear oq) | (go_at_call_of 7 (Value.pointer (some ⟨l1, 0, none⟩)); refine (HC.out _ (by assumption)).mono ?_; rintro e wq ⟨rfl, oq⟩; have oq2 : Old w4 wq := Old.trans (by assumption) oq; clear oq) | (go_at_call_of 7 (Value.pointer (some ⟨l0, 0, none⟩)); refine (HD.out _ (by assumption)).mono ?_; rintro e wq ⟨rfl, oq⟩; have oq2 : Old w4 wq := Old.trans (by assumption) oq; clear oq))
          go_ret
          exact ⟨rfl, O4.out.trans (by assumption)⟩
      | true =>
        have HB := hid (fun (W : World) (q : Old w4 W) => by have z := HN1.out W q i t; rw [hb] at z; exact z)
        obtain ⟨e1, e2⟩ := nb2 ha hb
        have d1 : (i == j) = true := by simp [e1]
        have d2 : (t == u) = true := by simp [e2]
        clear e1 e2
        clear HN0 HN1 fin ha hb hc hf
        go_upto_region 11 with (first | (go_at_call_of 7 (Value.pointer (some ⟨l0, 0, none⟩)); refine (HA.out _ (by assumption)).mono ?_; rintro e wq ⟨rfl, oq⟩; have oq2 : Old w4 wq := Old.trans (by assumption) oq; clear oq) | (go_at_call_of 7 (Value.pointer (some ⟨l1, 0, none⟩)); refine (HB.out _ (by assumption)).mono ?_; rintro e wq ⟨rfl, oq⟩; have oq2 : Old w4 wq := Old.trans (by assumption) oq; clear oq))
        have tok1 : True := trivial
        go_wp2_with (first | (go_at_call_of 7 (Value.pointer (some ⟨l0, 0, none⟩)); have _t := tok1; clear tok1 _t; refine (HA.out _ (by assumption)).mono ?_; rintro e wq ⟨rfl, oq⟩; have oq2 : Old w4 wq := Old.trans (by assumption) oq; clear oq) | (go_at_call_of 7 (Value.pointer (some ⟨l1, 0, none⟩)); refine (HC.out _ (by assumption)).mono ?_; rintro e wq ⟨rfl, oq⟩; have oq2 : Old w4 wq := Old.trans (by assumption) oq; clear oq) | (go_at_call_of 7 (Value.pointer (some ⟨l0, 0, none⟩)); refine (HD.out _ (by assumption)).mono ?_; rintro e wq ⟨rfl, oq⟩; have oq2 : Old w4 wq := Old.trans (by assumption) oq; clear oq))
        go_ret
        exact ⟨rfl, O4.out.trans (by assumption)⟩
end Go.Proofs.Ytjdplgaimcicgaa
