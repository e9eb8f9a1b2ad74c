/- The reference's ranges of codes: what none, Of, Empty and Has of it return at every span; no condition. -/
import Derived.Test.YtbkbnfgjkefcmaaGreatSd
import Derived.Deep.DeepCutAuto
namespace Go.Proofs.YtbkbnfgjkefcmaaGreat
open Go.RowKit
namespace Fl
def loC (c : Nat) (p : Bool) : Nat := if p = true then (if isCode (c + 1) = true then c + 1 else c + 2) else c
def hiC (c : Nat) (q : Bool) : Nat := if q = true then (if isCode (c - 1) = true then c - 1 else c - 2) else c
/-- A span's codes: from which one. -/
def rL (a b : Nat) (p q : Bool) : Nat := if csE a b p q = true then 1 else code (csU a b p q)
/-- .. to which one. -/
def rH (a b : Nat) (p q : Bool) : Nat := if csE a b p q = true then 0 else code (csV a b p q)
def rBad (L H : Nat) : Bool := decide (H < L) || !isCode L || !isCode H || decide (H = 0)
theorem isCode_not (u : Nat) (h : isCode u = false) : ¬ (u = 0 ∨ 9223372036854775808 ≤ u ∧ u ≤ 18442240474082181120 ∨ 4503599627370495 ≤ u ∧ u < 9223372036854775807) := by
  rw [← isCode_iff, h]; decide
theorem loC_code (a : Nat) (p : Bool) (h : W a) (hn : nan a = false) (hi : ¬ (p = true ∧ a = INF)) : loC (code a) p = code (loB a p) := by
  unfold loC loB
  cases p
  · simp only [Bool.false_eq_true, if_false]; exact (code_canon a).symm
  · simp only [if_true]
    have hi' : a ≠ INF := fun e => hi ⟨rfl, e⟩
    rw [code_next a h hi']
    have r := code_range a h
    have c0 := code_pos a h hn
    have ci : code a ≠ 18442240474082181120 := fun e => hi' ((code_inf_iff a h).1 e)
    cases hc : isCode (code a + 1)
    · have := isCode_not _ hc
      simp only [Bool.false_eq_true, if_false]; unfold nc; (repeat' split) <;> omega
    · have := (isCode_iff _).1 hc
      simp only [if_true]; unfold nc; (repeat' split) <;> omega
theorem hiC_code (b : Nat) (q : Bool) (h : W b) (hn : nan b = false) (hi : ¬ (q = true ∧ b = S + INF)) : hiC (code b) q = code (hiB b q) := by
  unfold hiC hiB
  cases q
  · simp only [Bool.false_eq_true, if_false]; exact (code_canon b).symm
  · simp only [if_true]
    have hi' : b ≠ S + INF := fun e => hi ⟨rfl, e⟩
    rw [code_prev b h]
    have r := code_range b h
    have c0 := code_pos b h hn
    have ci : code b ≠ 4503599627370495 := fun e => hi' ((code_ninf_iff b h).1 e)
    cases hc : isCode (code b - 1)
    · have := isCode_not _ hc
      simp only [Bool.false_eq_true, if_false]; unfold pc; (repeat' split) <;> omega
    · have := (isCode_iff _).1 hc
      simp only [if_true]; unfold pc; (repeat' split) <;> omega
theorem rBad_eq (a b : Nat) (p q : Bool) (ha : W a) (hb : W b) (na : nan a = false) (nb : nan b = false) :
    rBad (loC (code a) p) (hiC (code b) q) = csE a b p q ∧ (csE a b p q = false → loC (code a) p = code (csU a b p q) ∧ hiC (code b) q = code (csV a b p q)) := by
  have ra := code_range a ha
  have rb := code_range b hb
  have pa := code_pos a ha na
  have pb := code_pos b hb nb
  by_cases hp : p = true ∧ a = INF
  · have e : csE a b p q = true := by unfold csE; rw [hp.1, decide_eq_true hp.2]; simp
    have c := (code_inf_iff a ha).2 hp.2
    rw [e]
    refine ⟨?_, fun h => by cases h⟩
    rw [hp.1, c]; unfold rBad loC
    rw [show isCode (18442240474082181120 + 1) = false by decide +kernel]
    simp only [if_true, Bool.false_eq_true, if_false]
    rw [show isCode (18442240474082181120 + 2) = false by decide +kernel]; simp
  · rw [loC_code a p ha na hp]
    by_cases hq : q = true ∧ b = S + INF
    · have c := (code_ninf_iff b hb).2 hq.2
      have l1 := code_pos (loB a p) (loB_W a p ha) (nan_loB a p ha na)
      have h0 : code (hiB b q) = 0 := by rw [hq.1]; unfold hiB; rw [if_pos rfl, code_prev b hb, c]; decide
      have e : csE a b p q = true := by unfold csE; rw [h0, decide_eq_true (by omega : 0 < code (loB a p))]; simp
      rw [e]
      refine ⟨?_, fun h => by cases h⟩
      rw [hq.1, c]; unfold rBad hiC
      rw [show isCode (4503599627370495 - 1) = false by decide +kernel]
      simp only [if_true, Bool.false_eq_true, if_false]
      rw [show isCode (4503599627370495 - 2) = false by decide +kernel]; simp
    · rw [hiC_code b q hb nb hq]
      have hE : csE a b p q = decide (code (hiB b q) < code (loB a p)) := by
        unfold csE; rw [na, nb]
        have : (p && decide (a = INF)) = false := by
          rw [Bool.and_eq_false_iff]; by_cases h1 : p = true
          · right; exact decide_eq_false (fun h2 => hp ⟨h1, h2⟩)
          · left; simpa using h1
        rw [this]; simp
      have i1 := isCode_code (loB a p) (loB_W a p ha)
      have i2 := isCode_code (hiB b q) (hiB_W b q hb)
      have l1 := code_pos (loB a p) (loB_W a p ha) (nan_loB a p ha na)
      refine ⟨?_, fun h => ?_⟩
      · rw [hE]; unfold rBad; rw [i1, i2, Bool.eq_iff_iff]; simp; omega
      · obtain ⟨e1, e2, _⟩ := csE_false a b p q h
        rw [e1, e2]; exact ⟨rfl, rfl⟩
end Fl
attribute [local go_sem] run_bits run_frombits run_store_float eqF

set_option maxHeartbeats 400000 in
set_option maxRecDepth 20000 in
theorem rnone_any (w : World) :
    Calls Tryz.prog 64 #[] w fun e w' => e = .returned (.agg #[.int .u64 1, .int .u64 0]) ∧ Up w w' := by
  go_enter Tryz.func64, Tryz.ntmps64
  go_wp2
  exact bodyPost_ret (v := .agg #[.int .u64 1, .int .u64 0]) (by simp [results, Tryz.results64, go_sem]) rfl ⟨rfl, (Up.refl _).alloc _⟩

/-- Block m is a range's own memory. -/
abbrev RgAt (m l h : Nat) (w : World) : Prop := (w.cell? ⟨m, 0, none⟩ = some (.int .u64 (l : Nat)) ∧ w.cell? ⟨m, 1, none⟩ = some (.int .u64 (h : Nat))) ∧ w.frozen? ⟨m, 0, none⟩ = false ∧ w.frozen? ⟨m, 1, none⟩ = false
theorem RgAt.up {m l h : Nat} {W w' : World} (hb : Up W w') (k : RgAt m l h W) : RgAt m l h w' := ⟨⟨hb.keep k.1.1, hb.keep k.1.2⟩, hb.keepF k.1.1 k.2.1, hb.keepF k.1.2 k.2.2⟩

set_option maxHeartbeats 400000 in
set_option maxRecDepth 20000 in
theorem rOf_nan (a b : Nat) (ha : Fl.W a) (hb : Fl.W b) (p q : Bool) (h : (Fl.nan a || Fl.nan b) = true) (w : World) :
    Calls Tryz.prog 39 #[.agg #[.float .f64 a, .float .f64 b, .bool p, .bool q]] w fun e w' => e = .returned (.agg #[.int .u64 1, .int .u64 0]) ∧ Up w w' := by
  cases na : Fl.nan a
  · have nb : Fl.nan b = true := by rw [na] at h; simpa using h
    clear h
    go_enter Tryz.func39, Tryz.ntmps39
    go_wp2_with (first | (go_at_call 63; refine (refNan_any _ ‹_› _).mono ?_; rintro e w' ⟨rfl, rfl⟩) | (go_at_call 64; refine (rnone_any _).mono ?_; rintro e w1 ⟨rfl, hb1⟩; have s1 : RgAt (w.heap.size + 1) 0 0 w1 := RgAt.up hb1 (by simp [RgAt])))
    exact bodyPost_ret (v := .agg #[.int .u64 1, .int .u64 0]) (by simp [results, Tryz.results39, go_sem, s1]) rfl ⟨rfl, (by repeat (first | exact Up.refl _ | assumption | refine Up.drew ?_ | refine Up.drewN ?_ _ | refine Up.alloc ?_ _ | refine Up.setCell ?_ ?_ _ | exact Nat.le_refl _ | exact Nat.le_add_right _ _ | (dsimp only; omega) | refine Up.trans ?_ ‹Up _ _›))⟩
  · clear h
    go_enter Tryz.func39, Tryz.ntmps39
    go_wp2_with (first | (go_at_call 63; refine (refNan_any _ ‹_› _).mono ?_; rintro e w' ⟨rfl, rfl⟩) | (go_at_call 64; refine (rnone_any _).mono ?_; rintro e w1 ⟨rfl, hb1⟩; have s1 : RgAt (w.heap.size + 1) 0 0 w1 := RgAt.up hb1 (by simp [RgAt])))
    exact bodyPost_ret (v := .agg #[.int .u64 1, .int .u64 0]) (by simp [results, Tryz.results39, go_sem, s1]) rfl ⟨rfl, (by repeat (first | exact Up.refl _ | assumption | refine Up.drew ?_ | refine Up.drewN ?_ _ | refine Up.alloc ?_ _ | refine Up.setCell ?_ ?_ _ | exact Nat.le_refl _ | exact Nat.le_add_right _ _ | (dsimp only; omega) | refine Up.trans ?_ ‹Up _ _›))⟩

set_option maxHeartbeats 1000000 in
set_option maxRecDepth 20000 in
theorem rOf_core (a b ca cb : Nat) (ha : Fl.W a) (hb : Fl.W b) (p q : Bool) (na : Fl.nan a = false) (nb : Fl.nan b = false) (la : ca ≤ 18442240474082181120) (lb : 4503599627370495 ≤ cb ∧ cb ≤ 18442240474082181120)
    (HA : Hid (∀ w, Calls Tryz.prog 65 #[.float .f64 a] w fun e w' => e = .returned (.int .u64 (ca : Nat)) ∧ w' = w)) (HB : Hid (∀ w, Calls Tryz.prog 65 #[.float .f64 b] w fun e w' => e = .returned (.int .u64 (cb : Nat)) ∧ w' = w)) (L H : Nat) (hL : Fl.loC ca p = L) (hH : Fl.hiC cb q = H) (r0 r1 : Nat) (hr1 : Hid (Fl.rBad L H = true → r0 = 1 ∧ r1 = 0)) (hr2 : Hid (Fl.rBad L H = false → r0 = L ∧ r1 = H)) (w : World) :
    Calls Tryz.prog 39 #[.agg #[.float .f64 a, .float .f64 b, .bool p, .bool q]] w fun e w' => e = .returned (.agg #[.int .u64 (r0 : Nat), .int .u64 (r1 : Nat)]) ∧ Up w w' := by
  have wL : Fl.W L := by rw [← hL]; unfold Fl.loC Fl.W; (repeat' split) <;> omega
  have wH : Fl.W H := by rw [← hH]; unfold Fl.hiC Fl.W; (repeat' split) <;> omega
  have gL := hid hL
  have gH := hid hH
  have ga := hid la
  have gb := hid lb
  clear hL hH la lb
  go_enter Tryz.func39, Tryz.ntmps39
  go_wp2_with (go_at_call 63; refine (refNan_any _ ‹_› _).mono ?_; rintro e w' ⟨rfl, rfl⟩)
  go_region_held3 (SpAt w.heap.size a b p q) (simp [SpAt]) (first | (go_at_call_of 65 (Value.float FloatKind.f64 a); refine (HA.out _).mono ?_; rintro e w' ⟨rfl, rfl⟩) | (go_at_call_of 65 (Value.float FloatKind.f64 b); refine (HB.out _).mono ?_; rintro e w' ⟨rfl, rfl⟩))
  go_upto_if 21 with fail
  go_cut [3] (fun t3 wx => t3 = .int .u64 ((Fl.loC ca p : Nat) : Int) ∧ wx = ((w.alloc (.cells #[.float .f64 a, .float .f64 b, .bool p, .bool q] 67)).alloc (.cells #[.int .u64 0, .int .u64 0] 64)).drew)
  case first =>
    have la := ga.out
    cases p
    · go_wp2
      go_meet
      exact ⟨rfl, rfl⟩
    · have HI0 := fun w => isCode_any (ca + 1) (show ca + 1 < 18446744073709551616 by omega) w
      have ec : ((ca + 1 : Nat) : Int) = IntKind.u64.wrap ((ca : Int) + 1) := by rw [IntKind.wrap_u64]; omega
      have ec2 : ((ca + 2 : Nat) : Int) = IntKind.u64.wrap (IntKind.u64.wrap ((ca : Int) + 1) + 1) := by rw [← ec, IntKind.wrap_u64]; omega
      have gc := hid ec
      have gc2 := hid ec2
      rw [ec] at HI0
      cases hi : Fl.isCode (ca + 1)
      · rw [hi] at HI0
        have HI := hid HI0
        have HV := hid (show Fl.loC ca true = ca + 2 by unfold Fl.loC; rw [hi]; rfl)
        clear HI0 ec ec2 hi
        have bb := hid la
        clear la
        go_wp2_with (go_at_call 66; refine (HI.out _).mono ?_; rintro e w' ⟨rfl, rfl⟩)
        go_meet
        exact ⟨by rw [HV.out, gc2.out], rfl⟩
      · rw [hi] at HI0
        have HI := hid HI0
        have HV := hid (show Fl.loC ca true = ca + 1 by unfold Fl.loC; rw [hi]; rfl)
        clear HI0 ec ec2 hi
        have bb := hid la
        clear la
        go_wp2_with (go_at_call 66; refine (HI.out _).mono ?_; rintro e w' ⟨rfl, rfl⟩)
        go_meet
        exact ⟨by rw [HV.out, gc.out], rfl⟩

  case rest =>
  obtain ⟨rfl, rfl⟩ := hcut
  rw [gL.out]
  go_upto_if 30 with fail
  go_cut [4] (fun t4 wx => t4 = .int .u64 ((Fl.hiC cb q : Nat) : Int) ∧ wx = ((w.alloc (.cells #[.float .f64 a, .float .f64 b, .bool p, .bool q] 67)).alloc (.cells #[.int .u64 0, .int .u64 0] 64)).drew)
  case first =>
    have lb := gb.out
    cases q
    · go_wp2
      go_meet
      exact ⟨rfl, rfl⟩
    · have HI0 := fun w => isCode_any (cb - 1) (show cb - 1 < 18446744073709551616 by omega) w
      have ec : ((cb - 1 : Nat) : Int) = IntKind.u64.wrap ((cb : Int) - 1) := by rw [IntKind.wrap_u64]; omega
      have ec2 : ((cb - 2 : Nat) : Int) = IntKind.u64.wrap (IntKind.u64.wrap ((cb : Int) - 1) - 1) := by rw [← ec, IntKind.wrap_u64]; omega
      have gc := hid ec
      have gc2 := hid ec2
      rw [ec] at HI0
      cases hi : Fl.isCode (cb - 1)
      · rw [hi] at HI0
        have HI := hid HI0
        have HV := hid (show Fl.hiC cb true = cb - 2 by unfold Fl.hiC; rw [hi]; rfl)
        clear HI0 ec ec2 hi
        have bb := hid lb
        clear lb
        go_wp2_with (go_at_call 66; refine (HI.out _).mono ?_; rintro e w' ⟨rfl, rfl⟩)
        go_meet
        exact ⟨by rw [HV.out, gc2.out], rfl⟩
      · rw [hi] at HI0
        have HI := hid HI0
        have HV := hid (show Fl.hiC cb true = cb - 1 by unfold Fl.hiC; rw [hi]; rfl)
        clear HI0 ec ec2 hi
        have bb := hid lb
        clear lb
        go_wp2_with (go_at_call 66; refine (HI.out _).mono ?_; rintro e w' ⟨rfl, rfl⟩)
        go_meet
        exact ⟨by rw [HV.out, gc.out], rfl⟩

  case rest =>
  obtain ⟨rfl, rfl⟩ := hcut
  rw [gH.out]
  have HIL0 := fun w => isCode_any L wL w
  have HIH0 := fun w => isCode_any H wH w
  have B := hid (show Fl.rBad L H = (decide (H < L) || !Fl.isCode L || !Fl.isCode H || decide (H = 0)) from rfl)
  by_cases h1 : H < L
  · have e : Fl.rBad L H = true := by rw [B.out, decide_eq_true h1]; rfl
    have E := hid e; clear e
    go_wp2_with (go_at_call 64; refine (rnone_any _).mono ?_; rintro e w1 ⟨rfl, hb1⟩; have s1 : RgAt (w.heap.size + 1) 0 0 w1 := RgAt.up hb1 (by simp [RgAt]))
    exact bodyPost_ret (v := .agg #[.int .u64 1, .int .u64 0]) (by simp [results, Tryz.results39, go_sem, s1]) rfl ⟨by rw [(hr1.out E.out).1, (hr1.out E.out).2]; rfl, (by repeat (first | exact Up.refl _ | assumption | refine Up.drew ?_ | refine Up.drewN ?_ _ | refine Up.alloc ?_ _ | refine Up.setCell ?_ ?_ _ | exact Nat.le_refl _ | exact Nat.le_add_right _ _ | (dsimp only; omega) | refine Up.trans ?_ ‹Up _ _›))⟩
  · cases h2 : Fl.isCode L
    · have e : Fl.rBad L H = true := by rw [B.out, h2]; simp
      have E := hid e; clear e
      rw [h2] at HIL0
      have HIL := hid HIL0
      clear HIL0 HIH0 h2
      go_wp2_with (first | (go_at_call 66; refine (HIL.out _).mono ?_; rintro e w' ⟨rfl, rfl⟩) | (go_at_call 64; refine (rnone_any _).mono ?_; rintro e w1 ⟨rfl, hb1⟩; have s1 : RgAt (w.heap.size + 1) 0 0 w1 := RgAt.up hb1 (by simp [RgAt])))
      exact bodyPost_ret (v := .agg #[.int .u64 1, .int .u64 0]) (by simp [results, Tryz.results39, go_sem, s1]) rfl ⟨by rw [(hr1.out E.out).1, (hr1.out E.out).2]; rfl, (by repeat (first | exact Up.refl _ | assumption | refine Up.drew ?_ | refine Up.drewN ?_ _ | refine Up.alloc ?_ _ | refine Up.setCell ?_ ?_ _ | exact Nat.le_refl _ | exact Nat.le_add_right _ _ | (dsimp only; omega) | refine Up.trans ?_ ‹Up _ _›))⟩
    · cases h3 : Fl.isCode H
      · have e : Fl.rBad L H = true := by rw [B.out, h3]; simp
        have E := hid e; clear e
        rw [h2] at HIL0
        rw [h3] at HIH0
        have HIL := hid HIL0
        have HIH := hid HIH0
        clear HIL0 HIH0 h2 h3
        go_wp2_with (first | (go_at_call_of 66 (Value.int IntKind.u64 (L : Int)); refine (HIL.out _).mono ?_; rintro e w' ⟨rfl, rfl⟩) | (go_at_call_of 66 (Value.int IntKind.u64 (H : Int)); refine (HIH.out _).mono ?_; rintro e w' ⟨rfl, rfl⟩) | (go_at_call 64; refine (rnone_any _).mono ?_; rintro e w1 ⟨rfl, hb1⟩; have s1 : RgAt (w.heap.size + 1) 0 0 w1 := RgAt.up hb1 (by simp [RgAt])))
        exact bodyPost_ret (v := .agg #[.int .u64 1, .int .u64 0]) (by simp [results, Tryz.results39, go_sem, s1]) rfl ⟨by rw [(hr1.out E.out).1, (hr1.out E.out).2]; rfl, (by repeat (first | exact Up.refl _ | assumption | refine Up.drew ?_ | refine Up.drewN ?_ _ | refine Up.alloc ?_ _ | refine Up.setCell ?_ ?_ _ | exact Nat.le_refl _ | exact Nat.le_add_right _ _ | (dsimp only; omega) | refine Up.trans ?_ ‹Up _ _›))⟩
      · rw [h2] at HIL0
        rw [h3] at HIH0
        have HIL := hid HIL0
        have HIH := hid HIH0
        by_cases h4 : H = 0
        · have e : Fl.rBad L H = true := by rw [B.out, decide_eq_true h4]; simp
          have t4 : ((H : Int) == 0) = true := by rw [h4]; rfl
          have E := hid e; clear e HIL0 HIH0 h2 h3 h4
          go_wp2_with (first | (go_at_call_of 66 (Value.int IntKind.u64 (L : Int)); refine (HIL.out _).mono ?_; rintro e w' ⟨rfl, rfl⟩) | (go_at_call_of 66 (Value.int IntKind.u64 (H : Int)); refine (HIH.out _).mono ?_; rintro e w' ⟨rfl, rfl⟩) | (go_at_call 64; refine (rnone_any _).mono ?_; rintro e w1 ⟨rfl, hb1⟩; have s1 : RgAt (w.heap.size + 1) 0 0 w1 := RgAt.up hb1 (by simp [RgAt])))
          exact bodyPost_ret (v := .agg #[.int .u64 1, .int .u64 0]) (by simp [results, Tryz.results39, go_sem, s1]) rfl ⟨by rw [(hr1.out E.out).1, (hr1.out E.out).2]; rfl, (by repeat (first | exact Up.refl _ | assumption | refine Up.drew ?_ | refine Up.drewN ?_ _ | refine Up.alloc ?_ _ | refine Up.setCell ?_ ?_ _ | exact Nat.le_refl _ | exact Nat.le_add_right _ _ | (dsimp only; omega) | refine Up.trans ?_ ‹Up _ _›))⟩
        · have e : Fl.rBad L H = false := by rw [B.out, decide_eq_false h1, decide_eq_false h4, h2, h3]; rfl
          have t4 : ((H : Int) == 0) = false := beq_eq_false_iff_ne.2 (by omega)
          have E := hid e; clear e HIL0 HIH0 h2 h3 h4
          go_wp2_with (first | (go_at_call_of 66 (Value.int IntKind.u64 (L : Int)); refine (HIL.out _).mono ?_; rintro e w' ⟨rfl, rfl⟩) | (go_at_call_of 66 (Value.int IntKind.u64 (H : Int)); refine (HIH.out _).mono ?_; rintro e w' ⟨rfl, rfl⟩))
          exact bodyPost_ret (v := .agg #[.int .u64 (L : Nat), .int .u64 (H : Nat)]) (by simp [results, Tryz.results39, go_sem]) rfl ⟨by rw [(hr2.out E.out).1, (hr2.out E.out).2], (by repeat (first | exact Up.refl _ | assumption | refine Up.drew ?_ | refine Up.drewN ?_ _ | refine Up.alloc ?_ _ | refine Up.setCell ?_ ?_ _ | exact Nat.le_refl _ | exact Nat.le_add_right _ _ | (dsimp only; omega) | refine Up.trans ?_ ‹Up _ _›))⟩

theorem rOf_any (a b : Nat) (ha : Fl.W a) (hb : Fl.W b) (p q : Bool) (w : World) :
    Calls Tryz.prog 39 #[.agg #[.float .f64 a, .float .f64 b, .bool p, .bool q]] w fun e w' => e = .returned (.agg #[.int .u64 (Fl.rL a b p q : Nat), .int .u64 (Fl.rH a b p q : Nat)]) ∧ Up w w' := by
  unfold Fl.rL Fl.rH
  by_cases h : (Fl.nan a || Fl.nan b) = true
  · have e : Fl.csE a b p q = true := by unfold Fl.csE; rw [h]; rfl
    rw [e]; exact rOf_nan a b ha hb p q h w
  · have h' : (Fl.nan a || Fl.nan b) = false := by simpa using h
    obtain ⟨na, nb⟩ := Bool.or_eq_false_iff.1 h'
    have ra := Fl.code_range a ha
    have rb := Fl.code_range b hb
    have pb := Fl.code_pos b hb nb
    have key := Fl.rBad_eq a b p q ha hb na nb
    refine rOf_core a b (Fl.code a) (Fl.code b) ha hb p q na nb (by omega) (by omega) (fun w => refCode_any a ha w) (fun w => refCode_any b hb w) _ _ rfl rfl _ _ ?_ ?_ w
    · intro h
      rw [key.1] at h; rw [h]; exact ⟨rfl, rfl⟩
    · intro h
      rw [key.1] at h; rw [h]; simp only [Bool.false_eq_true, if_false]
      exact ⟨(key.2 h).1.symm, (key.2 h).2.symm⟩

end Go.Proofs.YtbkbnfgjkefcmaaGreat
