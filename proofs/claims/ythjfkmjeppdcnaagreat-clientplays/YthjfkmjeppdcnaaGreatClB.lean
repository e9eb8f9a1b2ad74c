/- The reference's ranges of codes: what none, Of, Empty and Has of it return at every span; no condition. -/
import Derived.Test.YthjfkmjeppdcnaaGreatClA
import Derived.Deep.DeepCutAuto
import Derived.Deep.QuietTactic
import Derived.BigQuiet
import Derived.Laws.AppendOwnNone
import Derived.OneCell
import Derived.ArgAppend
import Derived.OwnWalk
import Derived.Deep.Draws
namespace Go.Proofs.YthjfkmjeppdcnaaGreat
set_option linter.unusedSimpArgs false
open Go.RowKit
namespace Fl
def loC (c : Nat) (p : Bool) : Nat := if p = true then (if isCode (c + 1) = true then c + 1 else c + 2) else c
def hiC (c : Nat) (q : Bool) : Nat := if q = true then (if isCode (c - 1) = true then c - 1 else c - 2) else c
def rL (a b : Nat) (p q : Bool) : Nat := if csE a b p q = true then 1 else code (csU a b p q)
def rH (a b : Nat) (p q : Bool) : Nat := if csE a b p q = true then 0 else code (csV a b p q)
def rBad (L H : Nat) : Bool := decide (H < L) || !isCode L || !isCode H || decide (H = 0)
theorem isCode_not (u : Nat) (h : isCode u = false) : ¬ (u = 0 ∨ 9223372036854775808 ≤ u ∧ u ≤ 18442240474082181120 ∨ 4503599627370495 ≤ u ∧ u < 9223372036854775807) := by
 rw [← isCode_iff, h]; decide
theorem loC_code (a : Nat) (p : Bool) (h : W a) (hn : nan a = false) (hi : ¬ (p = true ∧ a = INF)) : loC (code a) p = code (loB a p) := by
 unfold loC loB
 cases p
 ·simp only [Bool.false_eq_true, if_false]; exact (code_canon a).symm
 ·simp only [if_true]
  have hi' : a ≠ INF := fun e => hi ⟨rfl, e⟩
  rw [code_next a h hi']
  have r := code_range a h
  have c0 := code_pos a h hn
  have ci : code a ≠ 18442240474082181120 := fun e => hi' ((code_inf_iff a h).1 e)
  cases hc : isCode (code a + 1)
  ·have := isCode_not _ hc
   simp only [Bool.false_eq_true, if_false]; unfold nc; (repeat' split) <;> omega
  ·have := (isCode_iff _).1 hc
   simp only [if_true]; unfold nc; (repeat' split) <;> omega
theorem hiC_code (b : Nat) (q : Bool) (h : W b) (hn : nan b = false) (hi : ¬ (q = true ∧ b = S + INF)) : hiC (code b) q = code (hiB b q) := by
 unfold hiC hiB
 cases q
 ·simp only [Bool.false_eq_true, if_false]; exact (code_canon b).symm
 ·simp only [if_true]
  have hi' : b ≠ S + INF := fun e => hi ⟨rfl, e⟩
  rw [code_prev b h]
  have r := code_range b h
  have c0 := code_pos b h hn
  have ci : code b ≠ 4503599627370495 := fun e => hi' ((code_ninf_iff b h).1 e)
  cases hc : isCode (code b - 1)
  ·have := isCode_not _ hc
   simp only [Bool.false_eq_true, if_false]; unfold pc; (repeat' split) <;> omega
  ·have := (isCode_iff _).1 hc
   simp only [if_true]; unfold pc; (repeat' split) <;> omega
theorem rBad_eq (a b : Nat) (p q : Bool) (ha : W a) (hb : W b) (na : nan a = false) (nb : nan b = false) :
    rBad (loC (code a) p) (hiC (code b) q) = csE a b p q ∧ (csE a b p q = false → loC (code a) p = code (csU a b p q) ∧ hiC (code b) q = code (csV a b p q)) := by
 have ra := code_range a ha
 have rb := code_range b hb
 have pa := code_pos a ha na
 have pb := code_pos b hb nb
 by_cases hp : p = true ∧ a = INF
 ·have e : csE a b p q = true := by unfold csE; rw [hp.1, decide_eq_true hp.2]; simp
  have c := (code_inf_iff a ha).2 hp.2
  rw [e]
  refine ⟨?_, fun h => by cases h⟩
  rw [hp.1, c]; unfold rBad loC
  rw [show isCode (18442240474082181120 + 1) = false by decide +kernel]
  simp only [if_true, Bool.false_eq_true, if_false]
  rw [show isCode (18442240474082181120 + 2) = false by decide +kernel]; simp
 ·rw [loC_code a p ha na hp]
  by_cases hq : q = true ∧ b = S + INF
  ·have c := (code_ninf_iff b hb).2 hq.2
   have l1 := code_pos (loB a p) (loB_W a p ha) (nan_loB a p ha na)
   have h0 : code (hiB b q) = 0 := by rw [hq.1]; unfold hiB; rw [if_pos rfl, code_prev b hb, c]; decide
   have e : csE a b p q = true := by unfold csE; rw [h0, decide_eq_true (by omega : 0 < code (loB a p))]; simp
   rw [e]
   refine ⟨?_, fun h => by cases h⟩
   rw [hq.1, c]; unfold rBad hiC
   rw [show isCode (4503599627370495 - 1) = false by decide +kernel]
   simp only [if_true, Bool.false_eq_true, if_false]
   rw [show isCode (4503599627370495 - 2) = false by decide +kernel]; simp
  ·rw [hiC_code b q hb nb hq]
   have hE : csE a b p q = decide (code (hiB b q) < code (loB a p)) := by
    unfold csE; rw [na, nb]
    have : (p && decide (a = INF)) = false := by
     rw [Bool.and_eq_false_iff]; by_cases h1 : p = true
     ·right; exact decide_eq_false (fun h2 => hp ⟨h1, h2⟩)
     ·left; simpa using h1
    rw [this]; simp
   have i1 := isCode_code (loB a p) (loB_W a p ha)
   have i2 := isCode_code (hiB b q) (hiB_W b q hb)
   have l1 := code_pos (loB a p) (loB_W a p ha) (nan_loB a p ha na)
   refine ⟨?_, fun h => ?_⟩
   ·rw [hE]; unfold rBad; rw [i1, i2, Bool.eq_iff_iff]; simp; omega
   ·obtain ⟨e1, e2, _⟩ := csE_false a b p q h
    rw [e1, e2]; exact ⟨rfl, rfl⟩
end Fl
attribute [local go_sem] run_bits run_frombits run_store_float eqF
set_option maxHeartbeats 400000 in
set_option maxRecDepth 20000 in
theorem rnone_any (w : World) :
    Calls Tryz.prog 113 #[] w fun e w' => e = .returned (.agg #[.int .u64 1, .int .u64 0]) ∧ Up w w' := by
 go_enter Tryz.func113, Tryz.ntmps113
 go_wp2
 exact bodyPost_ret (v := .agg #[.int .u64 1, .int .u64 0]) (by simp [results, Tryz.results113, go_sem]) rfl ⟨rfl, (Up.refl _).alloc _⟩
abbrev RgAt (m l h : Nat) (w : World) : Prop := (w.cell? ⟨m, 0, none⟩ = some (.int .u64 (l : Nat)) ∧ w.cell? ⟨m, 1, none⟩ = some (.int .u64 (h : Nat))) ∧ w.frozen? ⟨m, 0, none⟩ = false ∧ w.frozen? ⟨m, 1, none⟩ = false
theorem RgAt.up {m l h : Nat} {W w' : World} (hb : Up W w') (k : RgAt m l h W) : RgAt m l h w' := ⟨⟨hb.keep k.1.1, hb.keep k.1.2⟩, hb.keepF k.1.1 k.2.1, hb.keepF k.1.2 k.2.2⟩
set_option maxHeartbeats 400000 in
set_option maxRecDepth 20000 in
theorem rOf_nan (a b : Nat) (ha : Fl.W a) (hb : Fl.W b) (p q : Bool) (h : (Fl.nan a || Fl.nan b) = true) (w : World) :
    Calls Tryz.prog 74 #[.agg #[.float .f64 a, .float .f64 b, .bool p, .bool q]] w fun e w' => e = .returned (.agg #[.int .u64 1, .int .u64 0]) ∧ Up w w' := by
 cases na : Fl.nan a
 ·have nb : Fl.nan b = true := by rw [na] at h; simpa using h
  clear h
  go_enter Tryz.func74, Tryz.ntmps74
  go_wp2_with (first | (go_at_call 50; refine (refNan_any _ ‹_› _).mono ?_; rintro e w' ⟨rfl, rfl⟩) | (go_at_call 113; refine (rnone_any _).mono ?_; rintro e w1 ⟨rfl, hb1⟩; have s1 : RgAt (w.heap.size + 1) 0 0 w1 := RgAt.up hb1 (by simp [RgAt])))
  exact bodyPost_ret (v := .agg #[.int .u64 1, .int .u64 0]) (by simp [results, Tryz.results74, go_sem, s1]) rfl ⟨rfl, (by repeat (first | exact Up.refl _ | assumption | refine Up.drew ?_ | refine Up.drewN ?_ _ | refine Up.alloc ?_ _ | refine Up.setCell ?_ ?_ _ | exact Nat.le_refl _ | exact Nat.le_add_right _ _ | (dsimp only; omega) | refine Up.trans ?_ ‹Up _ _›))⟩
 ·clear h
  go_enter Tryz.func74, Tryz.ntmps74
  go_wp2_with (first | (go_at_call 50; refine (refNan_any _ ‹_› _).mono ?_; rintro e w' ⟨rfl, rfl⟩) | (go_at_call 113; refine (rnone_any _).mono ?_; rintro e w1 ⟨rfl, hb1⟩; have s1 : RgAt (w.heap.size + 1) 0 0 w1 := RgAt.up hb1 (by simp [RgAt])))
  exact bodyPost_ret (v := .agg #[.int .u64 1, .int .u64 0]) (by simp [results, Tryz.results74, go_sem, s1]) rfl ⟨rfl, (by repeat (first | exact Up.refl _ | assumption | refine Up.drew ?_ | refine Up.drewN ?_ _ | refine Up.alloc ?_ _ | refine Up.setCell ?_ ?_ _ | exact Nat.le_refl _ | exact Nat.le_add_right _ _ | (dsimp only; omega) | refine Up.trans ?_ ‹Up _ _›))⟩
set_option maxHeartbeats 1000000 in
set_option maxRecDepth 20000 in
theorem rOf_core (a b ca cb : Nat) (ha : Fl.W a) (hb : Fl.W b) (p q : Bool) (na : Fl.nan a = false) (nb : Fl.nan b = false) (la : ca ≤ 18442240474082181120) (lb : 4503599627370495 ≤ cb ∧ cb ≤ 18442240474082181120)
    (HA : Hid (∀ w, Calls Tryz.prog 72 #[.float .f64 a] w fun e w' => e = .returned (.int .u64 (ca : Nat)) ∧ w' = w)) (HB : Hid (∀ w, Calls Tryz.prog 72 #[.float .f64 b] w fun e w' => e = .returned (.int .u64 (cb : Nat)) ∧ w' = w)) (L H : Nat) (hL : Fl.loC ca p = L) (hH : Fl.hiC cb q = H) (r0 r1 : Nat) (hr1 : Hid (Fl.rBad L H = true → r0 = 1 ∧ r1 = 0)) (hr2 : Hid (Fl.rBad L H = false → r0 = L ∧ r1 = H)) (w : World) :
    Calls Tryz.prog 74 #[.agg #[.float .f64 a, .float .f64 b, .bool p, .bool q]] w fun e w' => e = .returned (.agg #[.int .u64 (r0 : Nat), .int .u64 (r1 : Nat)]) ∧ Up w w' := by
 have wL : Fl.W L := by rw [← hL]; unfold Fl.loC Fl.W; (repeat' split) <;> omega
 have wH : Fl.W H := by rw [← hH]; unfold Fl.hiC Fl.W; (repeat' split) <;> omega
 have gL := hid hL
 have gH := hid hH
 have ga := hid la
 have gb := hid lb
 clear hL hH la lb
 go_enter Tryz.func74, Tryz.ntmps74
 go_wp2_with (go_at_call 50; refine (refNan_any _ ‹_› _).mono ?_; rintro e w' ⟨rfl, rfl⟩)
 go_region_held3 (SpAt w.heap.size a b p q) (simp [SpAt]) (first | (go_at_call_of 72 (Value.float FloatKind.f64 a); refine (HA.out _).mono ?_; rintro e w' ⟨rfl, rfl⟩) | (go_at_call_of 72 (Value.float FloatKind.f64 b); refine (HB.out _).mono ?_; rintro e w' ⟨rfl, rfl⟩))
 go_upto_if 21 with fail
 go_cut [3] (fun t3 wx => t3 = .int .u64 ((Fl.loC ca p : Nat) : Int) ∧ wx = ((w.alloc (.cells #[.float .f64 a, .float .f64 b, .bool p, .bool q] 93)).alloc (.cells #[.int .u64 0, .int .u64 0] 132)).drew)
 case first =>
  have la := ga.out
  cases p
  ·go_wp2
   go_meet
   exact ⟨rfl, rfl⟩
  ·have HI0 := fun w => isCode_any (ca + 1) (show ca + 1 < 18446744073709551616 by omega) w
   have ec : ((ca + 1 : Nat) : Int) = IntKind.u64.wrap ((ca : Int) + 1) := by rw [IntKind.wrap_u64]; omega
   have ec2 : ((ca + 2 : Nat) : Int) = IntKind.u64.wrap (IntKind.u64.wrap ((ca : Int) + 1) + 1) := by rw [← ec, IntKind.wrap_u64]; omega
   have gc := hid ec
   have gc2 := hid ec2
   rw [ec] at HI0
   cases hi : Fl.isCode (ca + 1)
   ·rw [hi] at HI0
    have HI := hid HI0
    have HV := hid (show Fl.loC ca true = ca + 2 by unfold Fl.loC; rw [hi]; rfl)
    clear HI0 ec ec2 hi
    have bb := hid la
    clear la
    go_wp2_with (go_at_call 114; refine (HI.out _).mono ?_; rintro e w' ⟨rfl, rfl⟩)
    go_meet
    exact ⟨by rw [HV.out, gc2.out], rfl⟩
   ·rw [hi] at HI0
    have HI := hid HI0
    have HV := hid (show Fl.loC ca true = ca + 1 by unfold Fl.loC; rw [hi]; rfl)
    clear HI0 ec ec2 hi
    have bb := hid la
    clear la
    go_wp2_with (go_at_call 114; refine (HI.out _).mono ?_; rintro e w' ⟨rfl, rfl⟩)
    go_meet
    exact ⟨by rw [HV.out, gc.out], rfl⟩
 case rest =>
 obtain ⟨rfl, rfl⟩ := hcut
 rw [gL.out]
 go_upto_if 30 with fail
 go_cut [4] (fun t4 wx => t4 = .int .u64 ((Fl.hiC cb q : Nat) : Int) ∧ wx = ((w.alloc (.cells #[.float .f64 a, .float .f64 b, .bool p, .bool q] 93)).alloc (.cells #[.int .u64 0, .int .u64 0] 132)).drew)
 case first =>
  have lb := gb.out
  cases q
  ·go_wp2
   go_meet
   exact ⟨rfl, rfl⟩
  ·have HI0 := fun w => isCode_any (cb - 1) (show cb - 1 < 18446744073709551616 by omega) w
   have ec : ((cb - 1 : Nat) : Int) = IntKind.u64.wrap ((cb : Int) - 1) := by rw [IntKind.wrap_u64]; omega
   have ec2 : ((cb - 2 : Nat) : Int) = IntKind.u64.wrap (IntKind.u64.wrap ((cb : Int) - 1) - 1) := by rw [← ec, IntKind.wrap_u64]; omega
   have gc := hid ec
   have gc2 := hid ec2
   rw [ec] at HI0
   cases hi : Fl.isCode (cb - 1)
   ·rw [hi] at HI0
    have HI := hid HI0
    have HV := hid (show Fl.hiC cb true = cb - 2 by unfold Fl.hiC; rw [hi]; rfl)
    clear HI0 ec ec2 hi
    have bb := hid lb
    clear lb
    go_wp2_with (go_at_call 114; refine (HI.out _).mono ?_; rintro e w' ⟨rfl, rfl⟩)
    go_meet
    exact ⟨by rw [HV.out, gc2.out], rfl⟩
   ·rw [hi] at HI0
    have HI := hid HI0
    have HV := hid (show Fl.hiC cb true = cb - 1 by unfold Fl.hiC; rw [hi]; rfl)
    clear HI0 ec ec2 hi
    have bb := hid lb
    clear lb
    go_wp2_with (go_at_call 114; refine (HI.out _).mono ?_; rintro e w' ⟨rfl, rfl⟩)
    go_meet
    exact ⟨by rw [HV.out, gc.out], rfl⟩
 case rest =>
 obtain ⟨rfl, rfl⟩ := hcut
 rw [gH.out]
 have HIL0 := fun w => isCode_any L wL w
 have HIH0 := fun w => isCode_any H wH w
 have B := hid (show Fl.rBad L H = (decide (H < L) || !Fl.isCode L || !Fl.isCode H || decide (H = 0)) from rfl)
 by_cases h1 : H < L
 ·have e : Fl.rBad L H = true := by rw [B.out, decide_eq_true h1]; rfl
  have E := hid e; clear e
  go_wp2_with (go_at_call 113; refine (rnone_any _).mono ?_; rintro e w1 ⟨rfl, hb1⟩; have s1 : RgAt (w.heap.size + 1) 0 0 w1 := RgAt.up hb1 (by simp [RgAt]))
  exact bodyPost_ret (v := .agg #[.int .u64 1, .int .u64 0]) (by simp [results, Tryz.results74, go_sem, s1]) rfl ⟨by rw [(hr1.out E.out).1, (hr1.out E.out).2]; rfl, (by repeat (first | exact Up.refl _ | assumption | refine Up.drew ?_ | refine Up.drewN ?_ _ | refine Up.alloc ?_ _ | refine Up.setCell ?_ ?_ _ | exact Nat.le_refl _ | exact Nat.le_add_right _ _ | (dsimp only; omega) | refine Up.trans ?_ ‹Up _ _›))⟩
 ·cases h2 : Fl.isCode L
  ·have e : Fl.rBad L H = true := by rw [B.out, h2]; simp
   have E := hid e; clear e
   rw [h2] at HIL0
   have HIL := hid HIL0
   clear HIL0 HIH0 h2
   go_wp2_with (first | (go_at_call 114; refine (HIL.out _).mono ?_; rintro e w' ⟨rfl, rfl⟩) | (go_at_call 113; refine (rnone_any _).mono ?_; rintro e w1 ⟨rfl, hb1⟩; have s1 : RgAt (w.heap.size + 1) 0 0 w1 := RgAt.up hb1 (by simp [RgAt])))
   exact bodyPost_ret (v := .agg #[.int .u64 1, .int .u64 0]) (by simp [results, Tryz.results74, go_sem, s1]) rfl ⟨by rw [(hr1.out E.out).1, (hr1.out E.out).2]; rfl, (by repeat (first | exact Up.refl _ | assumption | refine Up.drew ?_ | refine Up.drewN ?_ _ | refine Up.alloc ?_ _ | refine Up.setCell ?_ ?_ _ | exact Nat.le_refl _ | exact Nat.le_add_right _ _ | (dsimp only; omega) | refine Up.trans ?_ ‹Up _ _›))⟩
  ·cases h3 : Fl.isCode H
   ·have e : Fl.rBad L H = true := by rw [B.out, h3]; simp
    have E := hid e; clear e
    rw [h2] at HIL0
    rw [h3] at HIH0
    have HIL := hid HIL0
    have HIH := hid HIH0
    clear HIL0 HIH0 h2 h3
    go_wp2_with (first | (go_at_call_of 114 (Value.int IntKind.u64 (L : Int)); refine (HIL.out _).mono ?_; rintro e w' ⟨rfl, rfl⟩) | (go_at_call_of 114 (Value.int IntKind.u64 (H : Int)); refine (HIH.out _).mono ?_; rintro e w' ⟨rfl, rfl⟩) | (go_at_call 113; refine (rnone_any _).mono ?_; rintro e w1 ⟨rfl, hb1⟩; have s1 : RgAt (w.heap.size + 1) 0 0 w1 := RgAt.up hb1 (by simp [RgAt])))
    exact bodyPost_ret (v := .agg #[.int .u64 1, .int .u64 0]) (by simp [results, Tryz.results74, go_sem, s1]) rfl ⟨by rw [(hr1.out E.out).1, (hr1.out E.out).2]; rfl, (by repeat (first | exact Up.refl _ | assumption | refine Up.drew ?_ | refine Up.drewN ?_ _ | refine Up.alloc ?_ _ | refine Up.setCell ?_ ?_ _ | exact Nat.le_refl _ | exact Nat.le_add_right _ _ | (dsimp only; omega) | refine Up.trans ?_ ‹Up _ _›))⟩
   ·rw [h2] at HIL0
    rw [h3] at HIH0
    have HIL := hid HIL0
    have HIH := hid HIH0
    by_cases h4 : H = 0
    ·have e : Fl.rBad L H = true := by rw [B.out, decide_eq_true h4]; simp
     have t4 : ((H : Int) == 0) = true := by rw [h4]; rfl
     have E := hid e; clear e HIL0 HIH0 h2 h3 h4
     go_wp2_with (first | (go_at_call_of 114 (Value.int IntKind.u64 (L : Int)); refine (HIL.out _).mono ?_; rintro e w' ⟨rfl, rfl⟩) | (go_at_call_of 114 (Value.int IntKind.u64 (H : Int)); refine (HIH.out _).mono ?_; rintro e w' ⟨rfl, rfl⟩) | (go_at_call 113; refine (rnone_any _).mono ?_; rintro e w1 ⟨rfl, hb1⟩; have s1 : RgAt (w.heap.size + 1) 0 0 w1 := RgAt.up hb1 (by simp [RgAt])))
     exact bodyPost_ret (v := .agg #[.int .u64 1, .int .u64 0]) (by simp [results, Tryz.results74, go_sem, s1]) rfl ⟨by rw [(hr1.out E.out).1, (hr1.out E.out).2]; rfl, (by repeat (first | exact Up.refl _ | assumption | refine Up.drew ?_ | refine Up.drewN ?_ _ | refine Up.alloc ?_ _ | refine Up.setCell ?_ ?_ _ | exact Nat.le_refl _ | exact Nat.le_add_right _ _ | (dsimp only; omega) | refine Up.trans ?_ ‹Up _ _›))⟩
    ·have e : Fl.rBad L H = false := by rw [B.out, decide_eq_false h1, decide_eq_false h4, h2, h3]; rfl
     have t4 : ((H : Int) == 0) = false := beq_eq_false_iff_ne.2 (by omega)
     have E := hid e; clear e HIL0 HIH0 h2 h3 h4
     go_wp2_with (first | (go_at_call_of 114 (Value.int IntKind.u64 (L : Int)); refine (HIL.out _).mono ?_; rintro e w' ⟨rfl, rfl⟩) | (go_at_call_of 114 (Value.int IntKind.u64 (H : Int)); refine (HIH.out _).mono ?_; rintro e w' ⟨rfl, rfl⟩))
     exact bodyPost_ret (v := .agg #[.int .u64 (L : Nat), .int .u64 (H : Nat)]) (by simp [results, Tryz.results74, go_sem]) rfl ⟨by rw [(hr2.out E.out).1, (hr2.out E.out).2], (by repeat (first | exact Up.refl _ | assumption | refine Up.drew ?_ | refine Up.drewN ?_ _ | refine Up.alloc ?_ _ | refine Up.setCell ?_ ?_ _ | exact Nat.le_refl _ | exact Nat.le_add_right _ _ | (dsimp only; omega) | refine Up.trans ?_ ‹Up _ _›))⟩
theorem rOf_any (a b : Nat) (ha : Fl.W a) (hb : Fl.W b) (p q : Bool) (w : World) :
    Calls Tryz.prog 74 #[.agg #[.float .f64 a, .float .f64 b, .bool p, .bool q]] w fun e w' => e = .returned (.agg #[.int .u64 (Fl.rL a b p q : Nat), .int .u64 (Fl.rH a b p q : Nat)]) ∧ Up w w' := by
 unfold Fl.rL Fl.rH
 by_cases h : (Fl.nan a || Fl.nan b) = true
 ·have e : Fl.csE a b p q = true := by unfold Fl.csE; rw [h]; rfl
  rw [e]; exact rOf_nan a b ha hb p q h w
 ·have h' : (Fl.nan a || Fl.nan b) = false := by simpa using h
  obtain ⟨na, nb⟩ := Bool.or_eq_false_iff.1 h'
  have ra := Fl.code_range a ha
  have rb := Fl.code_range b hb
  have pb := Fl.code_pos b hb nb
  have key := Fl.rBad_eq a b p q ha hb na nb
  refine rOf_core a b (Fl.code a) (Fl.code b) ha hb p q na nb (by omega) (by omega) (fun w => refCode_any a ha w) (fun w => refCode_any b hb w) _ _ rfl rfl _ _ ?_ ?_ w
  ·intro h
   rw [key.1] at h; rw [h]; exact ⟨rfl, rfl⟩
  ·intro h
   rw [key.1] at h; rw [h]; simp only [Bool.false_eq_true, if_false]
   exact ⟨(key.2 h).1.symm, (key.2 h).2.symm⟩
end Go.Proofs.YthjfkmjeppdcnaaGreat
namespace Go.Proofs.YthjfkmjeppdcnaaGreat
set_option linter.unusedSimpArgs false
open Go.RowKit
namespace Fl
def rHasB (L H k : Nat) : Bool := !nan k && decide (L ≤ code k) && decide (code k ≤ H)
theorem rHas_eq (a b k : Nat) (p q : Bool) (ha : W a) (hb : W b) : rHasB (rL a b p q) (rH a b p q) k = hasF (csU a b p q) (csV a b p q) (csE a b p q) k := by
 unfold rHasB rL rH hasF
 cases h : csE a b p q
 ·have f := cs_form a b p q ha hb h
  simp only [Bool.false_eq_true, if_false, Bool.not_false, Bool.true_and]
  by_cases hn : nan k = true
  ·rw [hn, code_nan k hn]; simp; omega
  ·rw [nf k hn]; rfl
 ·simp only [if_true, Bool.not_true, Bool.false_and]
  rw [Bool.eq_iff_iff]; simp; omega
def plainB (a b k : Nat) (p q : Bool) : Bool :=
 ((Go.FloatKind.f64.format.order k a == some .gt) || (Go.FloatKind.f64.format.order k a == some .eq) && !p) && ((Go.FloatKind.f64.format.order k b == some .lt) || (Go.FloatKind.f64.format.order k b == some .eq) && !q)
theorem ord_gt_code (k a : Nat) (hk : W k) (ha : W a) : (Go.FloatKind.f64.format.order k a == some .gt) = (!nan k && !nan a && decide (code a < code k)) ∧ (Go.FloatKind.f64.format.order k a == some .eq) = (!nan k && !nan a && decide (code a = code k)) ∧ (Go.FloatKind.f64.format.order k a == some .lt) = (!nan k && !nan a && decide (code k < code a)) := by
 rcases cmp_cases k a hk ha with ⟨n, m, _⟩ | ⟨n, m, _⟩ | ⟨n, m, _⟩ | ⟨n, m, o, e⟩ | ⟨n, m, o, e⟩ | ⟨n, m, o, e⟩
 ·rw [ord_nan_l k a n, n]; exact ⟨rfl, rfl, rfl⟩
 ·rw [ord_nan_l k a n, n]; exact ⟨rfl, rfl, rfl⟩
 ·rw [ord_nan_r k a m, m, n]; exact ⟨rfl, rfl, rfl⟩
 all_goals
  have c := cmpc_cases k a
  rw [e] at c
  rw [o, n, m]
  refine ⟨?_, ?_, ?_⟩ <;> simp <;> omega
theorem has_plain (a b k : Nat) (p q : Bool) (ha : W a) (hb : W b) (hk : W k) : hasF (csU a b p q) (csV a b p q) (csE a b p q) k = plainB a b k p q := by
 unfold plainB
 have o1 := ord_gt_code k a hk ha
 have o2 := ord_gt_code k b hk hb
 rw [o1.1, o1.2.1, o2.2.1, o2.2.2]
 by_cases hnk : nan k = true
 ·have : hasF (csU a b p q) (csV a b p q) (csE a b p q) k = false := by
    rw [← rHas_eq a b k p q ha hb]; unfold rHasB; rw [hnk]; rfl
  rw [this, hnk]; simp
 by_cases hna : nan a = true
 ·have e : csE a b p q = true := by unfold csE; rw [hna]; rfl
  rw [e, hna]; simp [hasF]
 by_cases hnb : nan b = true
 ·have e : csE a b p q = true := by unfold csE; rw [hnb]; simp
  rw [e, hnb]; simp [hasF]
 have nk := nf k hnk
 have na := nf a hna
 have nb := nf b hnb
 rw [nk, na, nb]
 have rk := code_range k hk
 have ra := code_range a ha
 have rb := code_range b hb
 have pk := code_pos k hk nk
 have pa := code_pos a ha na
 have pb := code_pos b hb nb
 have L : ¬ (p = true ∧ a = INF) → (code (loB a p) ≤ code k ↔ (code a < code k ∨ code a = code k ∧ p = false)) := by
  intro hp
  unfold loB
  cases p
  ·simp only [Bool.false_eq_true, if_false, code_canon, and_true]; omega
  ·have hi : a ≠ INF := fun e => hp ⟨rfl, e⟩
   have ci : code a ≠ 18442240474082181120 := fun e => hi ((code_inf_iff a ha).1 e)
   simp only [if_true]; rw [code_next a ha hi]; unfold nc
   (repeat' split) <;> simp <;> omega
 have R : code k ≤ code (hiB b q) ↔ (code k < code b ∨ code b = code k ∧ q = false) := by
  unfold hiB
  cases q
  ·simp only [Bool.false_eq_true, if_false, code_canon, and_true]; omega
  ·simp only [if_true]; rw [code_prev b hb]; unfold pc
   (repeat' split) <;> simp <;> omega
 by_cases hp : p = true ∧ a = INF
 ·have e : csE a b p q = true := by unfold csE; rw [hp.1, decide_eq_true hp.2]; simp
  have c := (code_inf_iff a ha).2 hp.2
  rw [e, hp.1, c, Bool.eq_iff_iff]; simp [hasF]; omega
 ·have L' := L hp
  cases e : csE a b p q
  ·obtain ⟨e1, e2, _⟩ := csE_false a b p q e
   rw [e1, e2, Bool.eq_iff_iff]
   unfold hasF
   simp only [Bool.not_false, Bool.true_and, Bool.and_eq_true, decide_eq_true_eq, Bool.or_eq_true, Bool.not_eq_true']
   rw [L', R]
  ·have hE : code (hiB b q) < code (loB a p) := by
     unfold csE at e; rw [na, nb] at e
     simp only [Bool.false_or, Bool.or_eq_true, Bool.and_eq_true, decide_eq_true_eq] at e
     rcases e with e | e
     ·exact absurd e hp
     ·exact e
   rw [Bool.eq_iff_iff]
   unfold hasF
   simp only [Bool.not_true, Bool.false_and, Bool.false_eq_true, Bool.not_false, Bool.true_and, Bool.and_eq_true, decide_eq_true_eq, Bool.or_eq_true, Bool.not_eq_true', false_iff]
   rw [← L', ← R]; omega
end Fl
attribute [local go_sem] run_bits run_frombits run_store_float eqF
set_option maxHeartbeats 400000 in
set_option maxRecDepth 20000 in
theorem rEmpty_any (L H : Nat) (w : World) :
    Calls Tryz.prog 75 #[.agg #[.int .u64 (L : Nat), .int .u64 (H : Nat)]] w fun e w' => e = .returned (.bool (decide (H < L))) ∧ Up w w' := by
 go_enter Tryz.func75, Tryz.ntmps75
 go_wp2
 go_ret
 exact ⟨ret_b (by simp), (Up.refl _).alloc _⟩
end Go.Proofs.YthjfkmjeppdcnaaGreat
namespace Go.Proofs.YthjfkmjeppdcnaaGreat
set_option linter.unusedSimpArgs false
open Go.RowKit
namespace Fl
def sameU (x y : Nat → Nat) : Nat → Bool | 0 => true | k + 1 => sameU x y k && decide (x k = y k)
theorem sameU_false (x y : Nat → Nat) : ∀ n k, k < n → x k ≠ y k → sameU x y n = false
 | n + 1, k, h, e => by
  unfold sameU
  by_cases hk : k = n
  ·subst hk; simp [e]
  ·rw [sameU_false x y n k (by omega) e]; rfl
end Fl
attribute [local go_sem] run_bits run_frombits run_store_float eqF
set_option maxHeartbeats 1000000 in
set_option maxRecDepth 20000 in
theorem sameKeys_any (b1 o1 c1 b2 o2 c2 n : Nat) (x y : Nat → Nat) (hm : n ≤ maxLen) (w : World) (hx : ∀ i, i < n → w.cell? ⟨b1, o1 + i, none⟩ = some (.float .f64 (x i))) (hy : ∀ i, i < n → w.cell? ⟨b2, o2 + i, none⟩ = some (.float .f64 (y i))) :
    Calls Tryz.prog 78 #[.slice (some ⟨b1, o1, none⟩) n c1, .slice (some ⟨b2, o2, none⟩) n c2] w fun e w' => e = .returned (.bool (Fl.sameU x y n)) ∧ Up w w' := by
 unfold maxLen at hm
 have HX := hid hx
 have HY := hid hy
 clear hx hy
 go_enter Tryz.func78, Tryz.ntmps78
 go_wp2
 go_loopw [5] (fun i wx => ∃ k : Nat, k ≤ n ∧ i = .int .i64 k ∧ Fl.sameU x y k = true ∧ Up w wx) (fun i _ => n - (intOf i).toNat)
 case atStart => exact ⟨0, Nat.zero_le _, rfl, rfl, Up.refl _⟩
 case round =>
  obtain ⟨k, hk, rfl, hs, hup⟩ := hrel
  have hs' := hid hs
  clear hs
  by_cases hlt : k < n
  ·have cx := hup.keep (HX.out k hlt)
   have cy := hup.keep (HY.out k hlt)
   have l1 : (0 : Int) ≤ (k : Int) := by omega
   have l2 : (k : Int) < (n : Int) := by omega
   by_cases he : x k = y k
   ·have t : ((x k : Int) != (y k : Int)) = false := by rw [he]; simp
    have he' := hid he
    clear he
    go_wp2
    go_quiet (fail)
    go_wp2
    refine ⟨⟨k + 1, hlt, by go_num, ?_, hup.drewN _⟩, by simp [intOf]; omega⟩
    show (Fl.sameU x y k && decide (x k = y k)) = true
    rw [hs'.out, decide_eq_true he'.out]; rfl
   ·have t : ((x k : Int) != (y k : Int)) = true := by rw [bne_iff_ne]; omega
    have hf := hid (Fl.sameU_false x y n k hlt he)
    clear he
    go_wp2
    go_quiet (fail)
    go_wp2
    go_ret
    exact ⟨ret_b (by rw [hf.out]), hup.drewN _⟩
  ·go_wp2
   go_ret
   exact ⟨ret_b (by rw [show n = k by omega]; exact hs'.out.symm), hup⟩
theorem row2 (a b m : Nat) (W : World) (h0 : W.cell? ⟨m, 0, none⟩ = some (.float .f64 a)) (h1 : W.cell? ⟨m, 1, none⟩ = some (.float .f64 b)) : ∀ i, i < 2 → W.cell? ⟨m, 0 + i, none⟩ = some (.float .f64 ((fun j => if j = 0 then a else b) i)) := by
 intro i hi
 rw [Nat.zero_add]
 match i, hi with
 | 0, _ => exact h0
 | 1, _ => exact h1
theorem sameKeys2 (a b c d m1 m2 c1 c2 : Nat) (W : World) (h0 : W.cell? ⟨m1, 0, none⟩ = some (.float .f64 a)) (h1 : W.cell? ⟨m1, 1, none⟩ = some (.float .f64 b)) (g0 : W.cell? ⟨m2, 0, none⟩ = some (.float .f64 c)) (g1 : W.cell? ⟨m2, 1, none⟩ = some (.float .f64 d)) :
    Calls Tryz.prog 78 #[.slice (some ⟨m1, 0, none⟩) 2 c1, .slice (some ⟨m2, 0, none⟩) 2 c2] W fun e w' => e = .returned (.bool (decide (a = c) && decide (b = d))) ∧ Up W w' :=
 sameKeys_any m1 0 c1 m2 0 c2 2 _ _ (by unfold maxLen; omega) W (row2 a b m1 W h0 h1) (row2 c d m2 W g0 g1)
set_option maxHeartbeats 1000000 in
set_option maxRecDepth 20000 in
theorem sameSpan_any (a b c d : Nat) (p q r s : Bool) (w : World) :
    Calls Tryz.prog 116 #[.agg #[.float .f64 a, .float .f64 b, .bool p, .bool q], .agg #[.float .f64 c, .float .f64 d, .bool r, .bool s]] w fun e w' => e = .returned (.bool ((p == r) && (q == s) && (decide (a = c) && decide (b = d)))) ∧ Up w w' := by
 have B := hid (show ∀ t, ((p == r) && (q == s) && t) = (p == r && q == s && t) from fun _ => rfl)
 by_cases h1 : (p == r) = true
 ·by_cases h2 : (q == s) = true
  ·have e : ((p == r) && (q == s) && (decide (a = c) && decide (b = d))) = (decide (a = c) && decide (b = d)) := by rw [h1, h2]; rfl
   rw [e]; clear e B
   have g1 : p = r := by simpa using h1
   have g2 : q = s := by simpa using h2
   subst g1 g2
   clear h1 h2
   go_enter Tryz.func116, Tryz.ntmps116
   go_wp2_with (go_at_call 78; refine (sameKeys2 a b c d _ _ _ _ _ (by simp [go_sem]) (by simp [go_sem]) (by simp [go_sem]) (by simp [go_sem])).mono ?_; rintro e w1 ⟨rfl, hb1⟩)
   go_ret
   exact ⟨rfl, (by repeat (first | exact Up.refl _ | assumption | refine Up.drew ?_ | refine Up.drewN ?_ _ | refine Up.alloc ?_ _ | refine Up.setCell ?_ ?_ _ | exact Nat.le_refl _ | exact Nat.le_add_right _ _ | (dsimp only; omega) | refine Up.trans ?_ ‹Up _ _›))⟩
  ·have h2' : (q == s) = false := by simpa using h2
   have e : ((p == r) && (q == s) && (decide (a = c) && decide (b = d))) = false := by rw [h2']; simp
   rw [e]; clear e B h2
   go_enter Tryz.func116, Tryz.ntmps116
   go_wp2
   go_ret
   exact ⟨rfl, (by repeat (first | exact Up.refl _ | assumption | refine Up.drew ?_ | refine Up.drewN ?_ _ | refine Up.alloc ?_ _ | refine Up.setCell ?_ ?_ _ | exact Nat.le_refl _ | exact Nat.le_add_right _ _ | (dsimp only; omega) | refine Up.trans ?_ ‹Up _ _›))⟩
 ·have h1' : (p == r) = false := by simpa using h1
  have e : ((p == r) && (q == s) && (decide (a = c) && decide (b = d))) = false := by rw [h1']; simp
  rw [e]; clear e B h1
  go_enter Tryz.func116, Tryz.ntmps116
  go_wp2
  go_ret
  exact ⟨rfl, (by repeat (first | exact Up.refl _ | assumption | refine Up.drew ?_ | refine Up.drewN ?_ _ | refine Up.alloc ?_ _ | refine Up.setCell ?_ ?_ _ | exact Nat.le_refl _ | exact Nat.le_add_right _ _ | (dsimp only; omega) | refine Up.trans ?_ ‹Up _ _›))⟩
abbrev S3 (n l h m c d : Nat) (r s : Bool) (w : World) : Prop := RgAt n l h w ∧ SpAt m c d r s w ∧ FrAt m w
theorem S3.up {n l h m c d : Nat} {r s : Bool} {W w' : World} (hb : Up W w') (k : S3 n l h m c d r s W) : S3 n l h m c d r s w' := ⟨RgAt.up hb k.1, SpAt.up hb k.2.1, SpAt.frUp hb k.2.1 k.2.2⟩
set_option maxHeartbeats 1000000 in
set_option maxRecDepth 20000 in
theorem rSpan_none (L H : Nat) (h : H < L) (w : World) :
    Calls Tryz.prog 73 #[.agg #[.int .u64 (L : Nat), .int .u64 (H : Nat)]] w fun e w' => e = .returned (.agg #[.float .f64 0, .float .f64 0, .bool true, .bool true]) ∧ Up w w' := by
 have t : decide (H < L) = true := by simpa using h
 clear h
 go_enter Tryz.func73, Tryz.ntmps73
 go_wp2_with (go_at_call 75; refine (rEmpty_any L H _).mono ?_; rintro e w1 ⟨rfl, hb1⟩; have s1 : S3 w.heap.size L H (w.heap.size + 1) 0 0 false false w1 := S3.up hb1 (by simp [S3, RgAt, SpAt, FrAt]))
 exact bodyPost_ret (v := .agg #[.float .f64 0, .float .f64 0, .bool true, .bool true]) (by simp [results, Tryz.results73, go_sem, s1]) rfl ⟨rfl, (by repeat (first | exact Up.refl _ | assumption | refine Up.drew ?_ | refine Up.drewN ?_ _ | refine Up.alloc ?_ _ | refine Up.setCell ?_ ?_ _ | exact Nat.le_refl _ | exact Nat.le_add_right _ _ | (dsimp only; omega) | refine Up.trans ?_ ‹Up _ _›))⟩
set_option maxHeartbeats 1000000 in
set_option maxRecDepth 20000 in
theorem rSpan_some (L H : Nat) (wL : Fl.W L) (wH : Fl.W H) (h : ¬ H < L) (w : World) :
    Calls Tryz.prog 73 #[.agg #[.int .u64 (L : Nat), .int .u64 (H : Nat)]] w fun e w' => e = .returned (.agg #[.float .f64 (Fl.of L), .float .f64 (Fl.of H), .bool false, .bool false]) ∧ Up w w' := by
 have t : decide (H < L) = false := by simpa using h
 have HL := hid (fun w => of_any L wL w)
 have HH := hid (fun w => of_any H wH w)
 generalize Fl.of L = u at *
 generalize Fl.of H = v at *
 clear h wL wH
 go_enter Tryz.func73, Tryz.ntmps73
 go_wp2_with (go_at_call 75; refine (rEmpty_any L H _).mono ?_; rintro e w1 ⟨rfl, hb1⟩; have s1 : S3 w.heap.size L H (w.heap.size + 1) 0 0 false false w1 := S3.up hb1 (by simp [S3, RgAt, SpAt, FrAt]))
 go_region_held3 (RgAt w.heap.size L H) (first | (apply RgAt.up; exact Up.drew (Up.refl _); exact s1.1) | (simp [RgAt, *, World.cell?_setCell_far])) (first | (go_at_call_of 71 (Value.int IntKind.u64 (L : Int)); refine (HL.out _).mono ?_; rintro e w' ⟨rfl, rfl⟩) | (go_at_call_of 71 (Value.int IntKind.u64 (H : Int)); refine (HH.out _).mono ?_; rintro e w' ⟨rfl, rfl⟩))
 go_wp2
 exact bodyPost_ret (v := .agg #[.float .f64 u, .float .f64 v, .bool false, .bool false]) (by simp [results, Tryz.results73, go_sem, s1]) rfl ⟨rfl, (by repeat (first | exact Up.refl _ | assumption | refine Up.drew ?_ | refine Up.drewN ?_ _ | refine Up.alloc ?_ _ | refine Up.setCell ?_ ?_ _ | exact Nat.le_refl _ | exact Nat.le_add_right _ _ | (dsimp only; omega) | refine Up.trans ?_ ‹Up _ _›))⟩
theorem rSpan_form (a b : Nat) (ha : Fl.W a) (hb : Fl.W b) (p q : Bool) (w : World) :
    Calls Tryz.prog 73 #[.agg #[.int .u64 (Fl.rL a b p q : Nat), .int .u64 (Fl.rH a b p q : Nat)]] w fun e w' => e = .returned (.agg #[.float .f64 (Fl.csU a b p q), .float .f64 (Fl.csV a b p q), .bool (Fl.csE a b p q), .bool (Fl.csE a b p q)]) ∧ Up w w' := by
 cases h : Fl.csE a b p q
 ·have f := Fl.cs_form a b p q ha hb h
  have hu := Fl.csU_W a b p q ha
  have hv := Fl.csV_W a b p q hb
  have e1 : Fl.rL a b p q = Fl.code (Fl.csU a b p q) := by unfold Fl.rL; rw [h]; rfl
  have e2 : Fl.rH a b p q = Fl.code (Fl.csV a b p q) := by unfold Fl.rH; rw [h]; rfl
  have X := rSpan_some (Fl.code (Fl.csU a b p q)) (Fl.code (Fl.csV a b p q)) (Fl.code_le _ hu) (Fl.code_le _ hv) (by omega) w
  rw [Fl.of_code _ hu, Fl.of_code _ hv, Fl.csU_canon a b p q ha, Fl.csV_canon a b p q hb] at X
  rw [e1, e2]; exact X
 ·have e := Fl.csE_true a b p q h
  have e1 : Fl.rL a b p q = 1 := by unfold Fl.rL; rw [h]; rfl
  have e2 : Fl.rH a b p q = 0 := by unfold Fl.rH; rw [h]; rfl
  rw [e1, e2, e.1, e.2]; exact rSpan_none 1 0 (by omega) w
end Go.Proofs.YthjfkmjeppdcnaaGreat
namespace Go.Proofs.YthjfkmjeppdcnaaGreat
set_option linter.unusedSimpArgs false
open Go.RowKit
set_option linter.unusedVariables false
abbrev rangeRow (l h : Nat) : List Value := [.int .u64 (l : Nat), .int .u64 (h : Nat)]
theorem RgAt.some {m a b : Nat} {w : World} (h : RgAt m a b w) : ∀ j, j < 2 → (w.cell? ⟨m, 0 + j, none⟩).isSome = true := by
 intro j hj
 rw [Nat.zero_add]
 match j, hj with
 | 0, _ => rw [h.1.1]; rfl
 | 1, _ => rw [h.1.2]; rfl
theorem RgAt.stored {m a b : Nat} {w : World} (h : RgAt m a b w) (x y : Nat) : RgAt m x y (w.setCells m 0 (rangeRow x y)) := by
 have H := World.cell?_setCells_in m (rangeRow x y) 0 w h.some
 refine ⟨⟨by simpa using H 0 (by simp), by simpa using H 1 (by simp)⟩, ?_⟩
 simp only [World.frozen?_setCells]; exact h.2
theorem RgAt.far {m n a b : Nat} {w : World} (h : RgAt n a b w) (hn : n ≠ m) (vs : List Value) (o : Nat) : RgAt n a b (w.setCells m o vs) := by
 have H : ∀ k, (w.setCells m o vs).cell? ⟨n, k, none⟩ = w.cell? ⟨n, k, none⟩ := fun k => World.cell?_setCells_out m vs o w ⟨n, k, none⟩ (fun e => absurd e hn)
 refine ⟨⟨by rw [H]; exact h.1.1, by rw [H]; exact h.1.2⟩, ?_⟩
 simp only [World.frozen?_setCells]; exact h.2
theorem RgAt.there {m a b : Nat} {w : World} (h : RgAt m a b w) : w.there m 0 2 := by
 intro j hj
 refine ⟨h.some j hj, ?_⟩
 rw [Nat.zero_add]
 match j, hj with
 | 0, _ => exact h.2.1
 | 1, _ => exact h.2.2
theorem infoRange : (Tryz.prog.info? 132).map (·.size) = some 2 := by kernel_rfl
theorem stepAllocR {ops : Array Oper} {o : Oper} {a : Act} {w : World} {K : Act → World → Prop} {Q : Exit → Act → World → Prop} {E : Prop} (hg : o.guard = none) (hop : o.op = Op.alloc 132)
    (hK : ∀ m w', m = w.heap.size → w' = w.alloc (.cells #[.int .u64 0, .int .u64 0] 132) → K (a.put o.dst (.pointer (some ⟨m, 0, none⟩))) w') :
    if Region.wanted o (yielded ops a.tmps) = true then Oper.wp Tryz.prog o a w K Q else E := by
 have hw : Region.wanted o (yielded ops a.tmps) = true := by simp [Region.wanted, hg]
 rw [if_pos hw]
 obtain ⟨d, p, t, ps, af, gd⟩ := o
 subst hop
 go_simp
 exact hK _ _ rfl rfl
theorem stepStoreR {ops : Array Oper} {o : Oper} {a : Act} {w : World} {K : Act → World → Prop} {Q : Exit → Act → World → Prop} {E : Prop} (hg : o.guard = none) (x y : Operand) (hop : o.op = Op.store 132 x y) (m u v : Nat)
    (hx : a.eval x = .pointer (some ⟨m, 0, none⟩)) (hy : a.eval y = .agg #[.int .u64 (u : Nat), .int .u64 (v : Nat)]) (ht : w.there m 0 2)
    (hK : K (a.put o.dst undef) (w.setCells m 0 (rangeRow u v))) :
    if Region.wanted o (yielded ops a.tmps) = true then Oper.wp Tryz.prog o a w K Q else E := by
 have hw : Region.wanted o (yielded ops a.tmps) = true := by simp [Region.wanted, hg]
 rw [if_pos hw]
 exact wp_store_mid _ x y hop m 0 _ hx hy ht infoRange (by simp [Value.oneCell']) hK
def J2r (w0 : World) (f g : Option Nat) (w : World) : Prop := Up w0 w ∧ (∀ m, f = some m → w0.heap.size ≤ m ∧ RgAt m 0 0 w) ∧ (∀ m, g = some m → w0.heap.size ≤ m ∧ RgAt m 0 0 w) ∧ (∀ m n, f = some m → g = some n → n ≠ m)
theorem J2r.start (w0 : World) : J2r w0 none none w0.drew := ⟨(Up.refl _).drew, fun _ h => (by cases h), fun _ h => (by cases h), fun _ _ h => (by cases h)⟩
theorem J2r.up {w0 : World} {f g : Option Nat} {w w' : World} (j : J2r w0 f g w) (u : Up w w') : J2r w0 f g w' :=
 ⟨j.1.trans u, fun m h => ⟨(j.2.1 m h).1, RgAt.up u (j.2.1 m h).2⟩, fun m h => ⟨(j.2.2.1 m h).1, RgAt.up u (j.2.2.1 m h).2⟩, j.2.2.2⟩
theorem newRange (w : World) : RgAt w.heap.size 0 0 (w.alloc (.cells #[.int .u64 0, .int .u64 0] 132)) := by simp [RgAt]
theorem J2r.nF {w0 : World} {g : Option Nat} {w w' : World} {m : Nat} (j : J2r w0 none g w) (hm : m = w.heap.size) (hw : w' = w.alloc (.cells #[.int .u64 0, .int .u64 0] 132)) : J2r w0 (some m) g w' := by
 subst hm hw
 have k := j.up ((Up.refl w).alloc (.cells #[.int .u64 0, .int .u64 0] 132))
 refine ⟨k.1, ?_, k.2.2.1, ?_⟩
 ·rintro m h; cases h; exact ⟨j.1.size, newRange w⟩
 ·rintro m n h h' e; cases h; subst e; exact absurd (World.block_lt_of_cell? w _ (j.2.2.1 _ h').2.1.1) (Nat.lt_irrefl _)
theorem J2r.nG {w0 : World} {f : Option Nat} {w w' : World} {m : Nat} (j : J2r w0 f none w) (hm : m = w.heap.size) (hw : w' = w.alloc (.cells #[.int .u64 0, .int .u64 0] 132)) : J2r w0 f (some m) w' := by
 subst hm hw
 have k := j.up ((Up.refl w).alloc (.cells #[.int .u64 0, .int .u64 0] 132))
 refine ⟨k.1, k.2.1, ?_, ?_⟩
 ·rintro m h; cases h; exact ⟨j.1.size, newRange w⟩
 ·rintro m n h h' e; cases h'; subst e; exact absurd (World.block_lt_of_cell? w _ (j.2.1 _ h).2.1.1) (Nat.lt_irrefl _)
theorem J2r.thereF {w0 : World} {m : Nat} {g : Option Nat} {w : World} (j : J2r w0 (some m) g w) : w.there m 0 2 := (j.2.1 m rfl).2.there
theorem J2r.upF {w0 : World} {m : Nat} {g : Option Nat} {w : World} (j : J2r w0 (some m) g w) (vs : List Value) : Up w0 (w.setCells m 0 vs) := Up.setCells (j.2.1 m rfl).1 _ _ j.1
theorem J2r.thereG {w0 : World} {m n : Nat} {w : World} (j : J2r w0 (some m) (some n) w) (vs : List Value) : (w.setCells m 0 vs).there n 0 2 := ((j.2.2.1 n rfl).2.far (j.2.2.2 m n rfl rfl) vs 0).there
theorem J2r.fin {w0 : World} {m n : Nat} {w : World} (j : J2r w0 (some m) (some n) w) (a b c d : Nat) :
    RgAt m a b ((w.setCells m 0 (rangeRow a b)).setCells n 0 (rangeRow c d)) ∧ RgAt n c d ((w.setCells m 0 (rangeRow a b)).setCells n 0 (rangeRow c d)) ∧ Up w0 ((w.setCells m 0 (rangeRow a b)).setCells n 0 (rangeRow c d)) :=
 ⟨((j.2.1 m rfl).2.stored a b).far (fun e => j.2.2.2 m n rfl rfl e.symm) _ _, ((j.2.2.1 n rfl).2.far (j.2.2.2 m n rfl rfl) _ _).stored c d, Up.setCells (j.2.2.1 n rfl).1 _ _ (j.upF _)⟩
theorem wantCall1 {P : Program} {ops : Array Oper} {o : Oper} {a : Act} {w : World} {K : Act → World → Prop} {Q : Exit → Act → World → Prop} {E : Prop} (hw : Region.wanted o (yielded ops a.tmps) = true) (F : FuncId) (x : Operand) (ts : Array TypeId)
    (hop : o.op = Op.call { callee := Callee.value (Operand.func F), args := #[x], argTypes := ts }) (v : Value) (hx : a.eval x = v) (hF : a.eval (Operand.func F) = .func (.func F) #[] #[])
    (henter : (callFunc F #[v]).run P w = .ok (.enter F #[v]) w)
    (hc : Calls P F #[v] w fun e w' => ∃ r, e = .returned r ∧ K (a.put o.dst r) w') :
    if Region.wanted o (yielded ops a.tmps) = true then Oper.wp P o a w K Q else E := by
 rw [if_pos hw]
 unfold Oper.wp
 simp [execOp, hop, resolve, invoke, hx, hF, Deferred.ofValue]
 rw [henter]
 refine hc.mono ?_
 rintro e w' ⟨r, rfl, hk⟩
 exact hk
theorem wantCall2 {P : Program} {ops : Array Oper} {o : Oper} {a : Act} {w : World} {K : Act → World → Prop} {Q : Exit → Act → World → Prop} {E : Prop} (hw : Region.wanted o (yielded ops a.tmps) = true) (F : FuncId) (x y : Operand) (ts : Array TypeId)
    (hop : o.op = Op.call { callee := Callee.value (Operand.func F), args := #[x, y], argTypes := ts }) (u v : Value) (hx : a.eval x = u) (hy : a.eval y = v) (hF : a.eval (Operand.func F) = .func (.func F) #[] #[])
    (henter : (callFunc F #[u, v]).run P w = .ok (.enter F #[u, v]) w)
    (hc : Calls P F #[u, v] w fun e w' => ∃ r, e = .returned r ∧ K (a.put o.dst r) w') :
    if Region.wanted o (yielded ops a.tmps) = true then Oper.wp P o a w K Q else E := by
 rw [if_pos hw]
 unfold Oper.wp
 simp [execOp, hop, resolve, invoke, hx, hy, hF, Deferred.ofValue]
 rw [henter]
 refine hc.mono ?_
 rintro e w' ⟨r, rfl, hk⟩
 exact hk
abbrev B2 (n a b : Nat) (p q : Bool) (m c d : Nat) (r s : Bool) (w : World) : Prop := SpAt n a b p q w ∧ SpAt m c d r s w
theorem B2.up {n a b : Nat} {p q : Bool} {m c d : Nat} {r s : Bool} {W w' : World} (h : Up W w') (k : B2 n a b p q m c d r s W) : B2 n a b p q m c d r s w' := ⟨SpAt.up h k.1, SpAt.up h k.2⟩
abbrev B5 (n a b : Nat) (p q : Bool) (m c d : Nat) (r s : Bool) (x l1 h1 y l2 h2 z l3 h3 : Nat) (w : World) : Prop := (SpAt n a b p q w ∧ SpAt m c d r s w) ∧ RgAt x l1 h1 w ∧ RgAt y l2 h2 w ∧ RgAt z l3 h3 w
theorem B5.up {n a b : Nat} {p q : Bool} {m c d : Nat} {r s : Bool} {x l1 h1 y l2 h2 z l3 h3 : Nat} {W w' : World} (h : Up W w') (k : B5 n a b p q m c d r s x l1 h1 y l2 h2 z l3 h3 W) : B5 n a b p q m c d r s x l1 h1 y l2 h2 z l3 h3 w' := ⟨⟨SpAt.up h k.1.1, SpAt.up h k.1.2⟩, RgAt.up h k.2.1, RgAt.up h k.2.2.1, RgAt.up h k.2.2.2⟩
end Go.Proofs.YthjfkmjeppdcnaaGreat
namespace Go.Proofs.YthjfkmjeppdcnaaGreat
set_option linter.unusedSimpArgs false
namespace Fl
def mx (a b : Nat) : Nat := if code a < code b then b else a
def mn (a b : Nat) : Nat := if code b < code a then b else a
def rl (u : Nat) (e : Bool) : Nat := if e = true then 1 else code u
def rh (v : Nat) (e : Bool) : Nat := if e = true then 0 else code v
def mE (u1 v1 : Nat) (e1 : Bool) (u2 v2 : Nat) (e2 : Bool) : Bool := e1 || e2 || decide (code (mn v1 v2) < code (mx u1 u2))
def mU (u1 v1 : Nat) (e1 : Bool) (u2 v2 : Nat) (e2 : Bool) : Nat := if mE u1 v1 e1 u2 v2 e2 = true then 0 else mx u1 u2
def mV (u1 v1 : Nat) (e1 : Bool) (u2 v2 : Nat) (e2 : Bool) : Nat := if mE u1 v1 e1 u2 v2 e2 = true then 0 else mn v1 v2
def gp (v1 u2 : Nat) : Bool := decide (code (nextB v1) < code u2)
def jK (u1 v1 : Nat) (e1 : Bool) (u2 v2 : Nat) (e2 : Bool) : Bool := e1 || e2 || !(gp v1 u2 || gp v2 u1)
def jE (u1 v1 : Nat) (e1 : Bool) (u2 v2 : Nat) (e2 : Bool) : Bool := if e1 = true then e2 else if e2 = true then e1 else !(jK u1 v1 e1 u2 v2 e2)
def jU (u1 v1 : Nat) (e1 : Bool) (u2 v2 : Nat) (e2 : Bool) : Nat := if e1 = true then u2 else if e2 = true then u1 else if jK u1 v1 e1 u2 v2 e2 = true then mn u1 u2 else 0
def jV (u1 v1 : Nat) (e1 : Bool) (u2 v2 : Nat) (e2 : Bool) : Nat := if e1 = true then v2 else if e2 = true then v1 else if jK u1 v1 e1 u2 v2 e2 = true then mx v1 v2 else 0
def fq (u1 v1 : Nat) (e1 : Bool) (u2 v2 : Nat) (e2 : Bool) : Bool := decide (rl u1 e1 = rl u2 e2 ∧ rh v1 e1 = rh v2 e2)
def fc (u1 v1 : Nat) (e1 : Bool) (u2 v2 : Nat) (e2 : Bool) : Int :=
 if e1 = true then (if e2 = true then 0 else -1) else if e2 = true then 1 else if code u1 < code u2 then -1 else if code u2 < code u1 then 1 else if code v1 < code v2 then -1 else if code v2 < code v1 then 1 else 0
theorem mx_cases (a b : Nat) : (mx a b = b ∧ code a < code b) ∨ (mx a b = a ∧ code b ≤ code a) := by unfold mx; split; exact .inl ⟨rfl, ‹_›⟩; exact .inr ⟨rfl, by omega⟩
theorem mn_cases (a b : Nat) : (mn a b = b ∧ code b < code a) ∨ (mn a b = a ∧ code a ≤ code b) := by unfold mn; split; exact .inl ⟨rfl, ‹_›⟩; exact .inr ⟨rfl, by omega⟩
theorem code_mx (a b : Nat) : code (mx a b) = max (code a) (code b) := by rcases mx_cases a b with ⟨e, h⟩ | ⟨e, h⟩ <;> rw [e] <;> omega
theorem code_mn (a b : Nat) : code (mn a b) = min (code a) (code b) := by rcases mn_cases a b with ⟨e, h⟩ | ⟨e, h⟩ <;> rw [e] <;> omega
theorem mx_W {a b : Nat} (ha : W a) (hb : W b) : W (mx a b) := by rcases mx_cases a b with ⟨e, h⟩ | ⟨e, h⟩ <;> rw [e] <;> assumption
theorem mn_W {a b : Nat} (ha : W a) (hb : W b) : W (mn a b) := by rcases mn_cases a b with ⟨e, h⟩ | ⟨e, h⟩ <;> rw [e] <;> assumption
theorem mx_canon {a b : Nat} (ha : canon a = a) (hb : canon b = b) : canon (mx a b) = mx a b := by rcases mx_cases a b with ⟨e, h⟩ | ⟨e, h⟩ <;> rw [e] <;> assumption
theorem mn_canon {a b : Nat} (ha : canon a = a) (hb : canon b = b) : canon (mn a b) = mn a b := by rcases mn_cases a b with ⟨e, h⟩ | ⟨e, h⟩ <;> rw [e] <;> assumption
theorem nan0 : nan 0 = false := by decide +kernel
theorem W0 : W 0 := by unfold W; decide
theorem form_rng {u v : Nat} {e : Bool} (h : IsForm u v e) : (e = true ∧ u = 0 ∧ v = 0 ∧ rl u e = 1 ∧ rh v e = 0) ∨ (e = false ∧ rl u e = code u ∧ rh v e = code v ∧ 0 < code u ∧ code u ≤ code v ∧ code v ≤ 18442240474082181120) := by
 obtain ⟨w1, w2, h1, h2⟩ := h
 cases e
 ·obtain ⟨_, _, n1, n2, hl⟩ := h2 rfl
  have := code_pos u w1 n1
  have := code_range v w2
  exact .inr ⟨rfl, rfl, rfl, by omega, hl, by omega⟩
 ·obtain ⟨rfl, rfl⟩ := h1 rfl
  exact .inl ⟨rfl, rfl, rfl, rfl, rfl⟩
theorem form_nan {u v : Nat} {e : Bool} (h : IsForm u v e) : nan u = false ∧ nan v = false ∧ canon u = u ∧ canon v = v := by
 obtain ⟨w1, w2, h1, h2⟩ := h
 cases e
 ·obtain ⟨c1, c2, n1, n2, hl⟩ := h2 rfl
  exact ⟨n1, n2, c1, c2⟩
 ·obtain ⟨rfl, rfl⟩ := h1 rfl
  exact ⟨nan0, nan0, canon0, canon0⟩
theorem form_inj {u v u' v' : Nat} {e e' : Bool} (h : IsForm u v e) (h' : IsForm u' v' e') (a : rl u e = rl u' e') (b : rh v e = rh v' e') : u = u' ∧ v = v' ∧ e = e' := by
 have n := form_nan h
 have n' := form_nan h'
 rcases form_rng h with ⟨rfl, rfl, rfl, r1, r2⟩ | ⟨rfl, r1, r2, r3, r4, r5⟩ <;> rcases form_rng h' with ⟨rfl, rfl, rfl, s1, s2⟩ | ⟨rfl, s1, s2, s3, s4, s5⟩
 ·exact ⟨rfl, rfl, rfl⟩
 ·omega
 ·omega
 ·exact ⟨code_canon_inj _ _ h.1 h'.1 n.2.2.1 n'.2.2.1 (by omega), code_canon_inj _ _ h.2.1 h'.2.1 n.2.2.2 n'.2.2.2 (by omega), rfl⟩
theorem meet_form {u1 v1 u2 v2 : Nat} {e1 e2 : Bool} (h1 : IsForm u1 v1 e1) (h2 : IsForm u2 v2 e2) : IsForm (mU u1 v1 e1 u2 v2 e2) (mV u1 v1 e1 u2 v2 e2) (mE u1 v1 e1 u2 v2 e2) := by
 have n1 := form_nan h1
 have n2 := form_nan h2
 unfold mU mV
 cases h : mE u1 v1 e1 u2 v2 e2
 ·have hh := h
  unfold mE at hh
  simp only [Bool.or_eq_false_iff, decide_eq_false_iff_not] at hh
  refine ⟨mx_W h1.1 h2.1, mn_W h1.2.1 h2.2.1, fun e => (by cases e), fun _ => ⟨mx_canon n1.2.2.1 n2.2.2.1, mn_canon n1.2.2.2 n2.2.2.2, ?_, ?_, ?_⟩⟩
  ·simp only [Bool.false_eq_true, if_false]; rcases mx_cases u1 u2 with ⟨e, _⟩ | ⟨e, _⟩ <;> rw [e]; exact n2.1; exact n1.1
  ·simp only [Bool.false_eq_true, if_false]; rcases mn_cases v1 v2 with ⟨e, _⟩ | ⟨e, _⟩ <;> rw [e]; exact n2.2.1; exact n1.2.1
  ·simp only [Bool.false_eq_true, if_false]; omega
 ·exact ⟨W0, W0, fun _ => ⟨rfl, rfl⟩, fun e => (by cases e)⟩
def rmL (L1 H1 L2 H2 : Nat) : Nat := if min H1 H2 < max L1 L2 then 1 else max L1 L2
def rmH (L1 H1 L2 H2 : Nat) : Nat := if min H1 H2 < max L1 L2 then 0 else min H1 H2
theorem meet_rl {u1 v1 u2 v2 : Nat} {e1 e2 : Bool} (h1 : IsForm u1 v1 e1) (h2 : IsForm u2 v2 e2) : rmL (rl u1 e1) (rh v1 e1) (rl u2 e2) (rh v2 e2) = rl (mU u1 v1 e1 u2 v2 e2) (mE u1 v1 e1 u2 v2 e2) ∧ rmH (rl u1 e1) (rh v1 e1) (rl u2 e2) (rh v2 e2) = rh (mV u1 v1 e1 u2 v2 e2) (mE u1 v1 e1 u2 v2 e2) := by
 have c1 := code_mx u1 u2
 have c2 := code_mn v1 v2
 rcases form_rng h1 with ⟨rfl, rfl, rfl, r1, r2⟩ | ⟨rfl, r1, r2, r3, r4, r5⟩ <;> rcases form_rng h2 with ⟨rfl, rfl, rfl, s1, s2⟩ | ⟨rfl, s1, s2, s3, s4, s5⟩
 ·rw [r1, r2]; exact ⟨rfl, rfl⟩
 ·rw [r1, r2, s1, s2]; unfold rmL rmH mU mV rl rh mE; simp; try omega
 ·rw [r1, r2, s1, s2]; unfold rmL rmH mU mV rl rh mE; simp; try omega
 ·rw [r1, r2, s1, s2]; unfold rmL rmH mU mV rl rh mE; simp only [Bool.false_or, c1, c2]
  by_cases h : min (code v1) (code v2) < max (code u1) (code u2)
  ·simp [h]
  ·simp [h, c1, c2]
theorem fq_self {u v : Nat} {e : Bool} : fq u v e u v e = true := by unfold fq; simp
theorem fq_iff {u1 v1 u2 v2 : Nat} {e1 e2 : Bool} (h1 : IsForm u1 v1 e1) (h2 : IsForm u2 v2 e2) : fq u1 v1 e1 u2 v2 e2 = true ↔ (u1 = u2 ∧ v1 = v2 ∧ e1 = e2) := by
 unfold fq; rw [decide_eq_true_eq]
 exact ⟨fun h => form_inj h1 h2 h.1 h.2, fun ⟨a, b, c⟩ => by subst a b c; exact ⟨rfl, rfl⟩⟩
theorem fq_floats {u1 v1 u2 v2 : Nat} {e1 e2 : Bool} (h1 : IsForm u1 v1 e1) (h2 : IsForm u2 v2 e2) :
    ((Go.FloatKind.f64.format.order u1 u2 == some .eq) && (Go.FloatKind.f64.format.order v1 v2 == some .eq) && (e1 == e2) && (e1 == e2)) = fq u1 v1 e1 u2 v2 e2 := by
 have n1 := form_nan h1
 have n2 := form_nan h2
 rw [ord_code u1 u2 h1.1 h2.1 n1.1 n2.1, ord_code v1 v2 h1.2.1 h2.2.1 n1.2.1 n2.2.1]
 rw [Bool.eq_iff_iff, fq_iff h1 h2]
 simp only [Bool.and_eq_true, decide_eq_true_eq, beq_iff_eq]
 constructor
 ·rintro ⟨⟨⟨a, b⟩, c⟩, _⟩
  exact ⟨code_canon_inj _ _ h1.1 h2.1 n1.2.2.1 n2.2.2.1 a, code_canon_inj _ _ h1.2.1 h2.2.1 n1.2.2.2 n2.2.2.2 b, c⟩
 ·rintro ⟨rfl, rfl, rfl⟩; exact ⟨⟨⟨rfl, rfl⟩, rfl⟩, rfl⟩
end Fl
end Go.Proofs.YthjfkmjeppdcnaaGreat
namespace Go.Proofs.YthjfkmjeppdcnaaGreat
set_option linter.unusedSimpArgs false
open Go.RowKit
namespace Fl
def minU (x : Nat → Nat) : Nat → Nat | 0 => x 0 | k + 1 => if code (x (k + 1)) < code (minU x k) then x (k + 1) else minU x k
def maxU (x : Nat → Nat) : Nat → Nat | 0 => x 0 | k + 1 => if code (maxU x k) < code (x (k + 1)) then x (k + 1) else maxU x k
theorem minU_W (x : Nat → Nat) (n : Nat) (h : ∀ i, i < n → W (x i)) : ∀ k, k < n → W (minU x k)
 | 0, hk => h 0 hk
 | k + 1, hk => by unfold minU; split; exact h _ hk; exact minU_W x n h k (by omega)
theorem maxU_W (x : Nat → Nat) (n : Nat) (h : ∀ i, i < n → W (x i)) : ∀ k, k < n → W (maxU x k)
 | 0, hk => h 0 hk
 | k + 1, hk => by unfold maxU; split; exact h _ hk; exact maxU_W x n h k (by omega)
end Fl
set_option maxHeartbeats 400000 in
set_option maxRecDepth 20000 in
theorem maxFunc_any (blk off n cap : Nat) (x : Nat → Nat) (hn : 1 ≤ n) (hm : n ≤ maxLen) (hx : ∀ i, i < n → Fl.W (x i)) (w : World) (hc : ∀ i, i < n → w.cell? ⟨blk, off + i, none⟩ = some (.float .f64 (x i))) :
    Calls Tryz.prog 123 #[.slice (some ⟨blk, off, none⟩) n cap, .func (.func 83) #[] #[]] w fun e w' => e = .returned (.float .f64 (Fl.maxU x (n - 1))) ∧ w' = w := by
 unfold maxLen at hm
 have h0 : w.cell? ⟨blk, off, none⟩ = some (.float .f64 (x 0)) := by have := hc 0 (by omega); rw [Nat.add_zero] at this; exact this
 have t1 : decide ((n : Int) < 1) = false := by simp; omega
 have t2 : (0 : Int) < (n : Int) := by omega
 have HX := fun i => hid (hx i)
 have HC := fun i => hid (hc i)
 clear hc hx
 go_enter Tryz.func123, Tryz.ntmps123
 go_wp2
 go_loop [5, 6] (fun m i => ∃ k : Nat, k < n ∧ i = .int .i64 (k + 1 : Nat) ∧ m = .float .f64 (Fl.maxU x k)) (fun _ i => n - (intOf i).toNat)
 case atStart => exact ⟨0, by omega, rfl, rfl⟩
 case round =>
  obtain ⟨k, hk, rfl, rfl⟩ := hrel
  by_cases hlt : k + 1 < n
  ·have hw1 : Fl.W (x (k + 1)) := (HX (k + 1)).out hlt
   have hw2 : Fl.W (Fl.maxU x k) := Fl.maxU_W x n (fun i => (HX i).out) k hk
   have hcell : w.cell? ⟨blk, off + (k + 1), none⟩ = some (.float .f64 (x (k + 1))) := (HC (k + 1)).out hlt
   have cc := Fl.cmpc_cases (x (k + 1)) (Fl.maxU x k)
   by_cases hcm : Fl.code (Fl.maxU x k) < Fl.code (x (k + 1))
   ·have e : decide (0 < Fl.cmpc (x (k + 1)) (Fl.maxU x k)) = true := by simp; omega
    have HU : Hid (Fl.maxU x (k + 1) = x (k + 1)) := by show (if _ then _ else _) = _; rw [if_pos hcm]
    clear cc hcm
    go_wp2_with (go_at_call 83; refine (cmp_any _ _ ‹Fl.W (x (k + 1))› ‹Fl.W (Fl.maxU x k)› _).mono ?_; rintro e w' ⟨rfl, rfl⟩)
    go_round
    case rel => exact ⟨k + 1, hlt, by go_num, by rw [HU.out]⟩
    case measure => simp [intOf]; omega
   ·have e : decide (0 < Fl.cmpc (x (k + 1)) (Fl.maxU x k)) = false := by simp; omega
    have HU : Hid (Fl.maxU x (k + 1) = Fl.maxU x k) := by show (if _ then _ else _) = _; rw [if_neg hcm]
    clear cc hcm
    go_wp2_with (go_at_call 83; refine (cmp_any _ _ ‹Fl.W (x (k + 1))› ‹Fl.W (Fl.maxU x k)› _).mono ?_; rintro e w' ⟨rfl, rfl⟩)
    go_round
    case rel => exact ⟨k + 1, hlt, by go_num, by rw [HU.out]⟩
    case measure => simp [intOf]; omega
  ·go_wp2
   go_ret
   exact ⟨ret_f (by rw [show n - 1 = k by omega]), rfl⟩
set_option maxHeartbeats 400000 in
set_option maxRecDepth 20000 in
theorem most_any (blk off n cap : Nat) (x : Nat → Nat) (hn : 1 ≤ n) (hm : n ≤ maxLen) (hx : ∀ i, i < n → Fl.W (x i)) (w : World) (hc : ∀ i, i < n → w.cell? ⟨blk, off + i, none⟩ = some (.float .f64 (x i))) :
    Calls Tryz.prog 88 #[.slice (some ⟨blk, off, none⟩) n cap] w fun e w' => e = .returned (.float .f64 (Fl.canon (Fl.maxU x (n - 1)))) ∧ w' = w := by
 have HM := hid (maxFunc_any blk off n cap x hn hm hx w hc)
 have hw : Fl.W (Fl.maxU x (n - 1)) := Fl.maxU_W x n hx (n - 1) (by omega)
 have t1 : ((n : Int) == 0) = false := beq_eq_false_iff_ne.2 (by omega)
 clear hc hx hm hn
 go_enter Tryz.func88, Tryz.ntmps88
 go_wp2_with (first | (go_at_call 123; refine HM.out.mono ?_; rintro e w' ⟨rfl, rfl⟩) | (go_at_call 81; refine (canon_any _ ‹_› _).mono ?_; rintro e w' ⟨rfl, rfl⟩))
 go_ret
 exact ⟨rfl, rfl⟩
end Go.Proofs.YthjfkmjeppdcnaaGreat
namespace Go.Proofs.YthjfkmjeppdcnaaGreat
set_option linter.unusedSimpArgs false
open Go.RowKit
set_option linter.unusedVariables false
attribute [local go_sem] run_bits run_frombits run_store_float eqF
set_option maxHeartbeats 400000 in
set_option maxRecDepth 20000 in
theorem most2 (u v m c : Nat) (hu : Fl.W u) (hv : Fl.W v) (cu : Fl.canon u = u) (cv : Fl.canon v = v) (W : World) (h0 : W.cell? ⟨m, 0, none⟩ = some (.float .f64 u)) (h1 : W.cell? ⟨m, 1, none⟩ = some (.float .f64 v)) :
    Calls Tryz.prog 88 #[.slice (some ⟨m, 0, none⟩) 2 c] W fun e w' => e = .returned (.float .f64 (Fl.mx u v)) ∧ w' = W := by
 have H := most_any m 0 2 c (fun j => if j = 0 then u else v) (by omega) (by unfold maxLen; omega) (fun i _ => by split <;> assumption) W (row2 u v m W h0 h1)
 have e : Fl.maxU (fun j => if j = 0 then u else v) (2 - 1) = Fl.mx u v := rfl
 rw [e, Fl.mx_canon cu cv] at H; exact H
set_option maxHeartbeats 400000 in
set_option maxRecDepth 20000 in
abbrev T2 (m u1 v1 : Nat) (e1 : Bool) (n u2 v2 : Nat) (e2 : Bool) (w : World) : Prop := SpAt m u1 v1 e1 e1 w ∧ SpAt n u2 v2 e2 e2 w
theorem T2.up {m u1 v1 : Nat} {e1 : Bool} {n u2 v2 : Nat} {e2 : Bool} {w w' : World} (u : Up w w') (h : T2 m u1 v1 e1 n u2 v2 e2 w) : T2 m u1 v1 e1 n u2 v2 e2 w' := ⟨SpAt.up u h.1, SpAt.up u h.2⟩
theorem SpAt.farC {m k a b : Nat} {p q : Bool} {w : World} (hn : m ≠ k) (h : SpAt m a b p q w) (o : Nat) (v : Value) : SpAt m a b p q (w.setCell ⟨k, o, none⟩ v) := by
 have H : ∀ j, (w.setCell ⟨k, o, none⟩ v).cell? ⟨m, j, none⟩ = w.cell? ⟨m, j, none⟩ := fun j => World.cell?_setCell_far w ⟨k, o, none⟩ ⟨m, j, none⟩ v (fun e => hn e.symm)
 exact ⟨by rw [H]; exact h.1, by rw [H]; exact h.2.1, by rw [H]; exact h.2.2.1, by rw [H]; exact h.2.2.2⟩
theorem T2.far {m u1 v1 : Nat} {e1 : Bool} {n u2 v2 : Nat} {e2 : Bool} {k : Nat} {w : World} (hm : m ≠ k ∧ n ≠ k) {o : Nat} {v : Value} (h : T2 m u1 v1 e1 n u2 v2 e2 w) : T2 m u1 v1 e1 n u2 v2 e2 (w.setCell ⟨k, o, none⟩ v) := ⟨SpAt.farC hm.1 h.1 o v, SpAt.farC hm.2 h.2 o v⟩
namespace Fl
theorem rl_W {u : Nat} (e : Bool) (h : W u) : W (rl u e) := by unfold rl W; split; omega; exact code_le u h
theorem rh_W {u : Nat} (e : Bool) (h : W u) : W (rh u e) := by unfold rh W; split; omega; exact code_le u h
theorem empty_rng {u v : Nat} {e : Bool} (h : IsForm u v e) : decide (rh v e < rl u e) = e := by
 rcases form_rng h with ⟨rfl, _, _, r1, r2⟩ | ⟨rfl, r1, r2, r3, r4, r5⟩
 ·rw [r1, r2]; rfl
 ·rw [r1, r2]; simp; omega
theorem fq_ints (u1 v1 u2 v2 : Nat) (e1 e2 : Bool) : fq u1 v1 e1 u2 v2 e2 = (((rl u1 e1 : Int) == (rl u2 e2 : Int)) && ((rh v1 e1 : Int) == (rh v2 e2 : Int))) := by
 unfold fq; rw [Bool.eq_iff_iff]; simp only [decide_eq_true_eq, Bool.and_eq_true, beq_iff_eq]; omega
end Fl
set_option maxHeartbeats 400000 in
set_option maxRecDepth 20000 in
theorem rSpan_isForm {u v : Nat} {e : Bool} (h : Fl.IsForm u v e) (w : World) :
    Calls Tryz.prog 73 #[.agg #[.int .u64 (Fl.rl u e : Nat), .int .u64 (Fl.rh v e : Nat)]] w fun o w' => o = .returned (.agg #[.float .f64 u, .float .f64 v, .bool e, .bool e]) ∧ Up w w' := by
 have n := Fl.form_nan h
 rcases Fl.form_rng h with ⟨rfl, rfl, rfl, r1, r2⟩ | ⟨rfl, r1, r2, r3, r4, r5⟩
 ·exact rSpan_none 1 0 (by omega) w
 ·have H := rSpan_some (Fl.code u) (Fl.code v) (Fl.code_le u h.1) (Fl.code_le v h.2.1) (by omega) w
  rw [Fl.of_code u h.1, Fl.of_code v h.2.1, n.2.2.1, n.2.2.2] at H
  rw [r1, r2]; exact H
end Go.Proofs.YthjfkmjeppdcnaaGreat
namespace Go.Proofs.YthjfkmjeppdcnaaGreat
set_option linter.unusedSimpArgs false
set_option linter.unusedVariables false
namespace Fl
def V (c : Nat) : Prop := (4503599627370495 ≤ c ∧ c < 9223372036854775807) ∨ (9223372036854775808 ≤ c ∧ c ≤ 18442240474082181120)
def nx (c : Nat) : Nat := if c + 1 = 9223372036854775807 then c + 2 else c + 1
theorem nx_cases (c : Nat) : (c + 1 = 9223372036854775807 ∧ nx c = c + 2) ∨ (c + 1 ≠ 9223372036854775807 ∧ nx c = c + 1) := by unfold nx; split; exact .inl ⟨‹_›, rfl⟩; exact .inr ⟨‹_›, rfl⟩
theorem nx_le {c d : Nat} (hc : V c) (hd : V d) (h : c < d) : nx c ≤ d ∧ V (nx c) := by
 unfold V at *; have := nx_cases c; omega
theorem nx_gt (c : Nat) : c < nx c := by have := nx_cases c; omega
theorem nx_mono {c d : Nat} (h : c ≤ d) : nx c ≤ nx d := by have := nx_cases c; have := nx_cases d; omega
def RV (r : Nat × Nat) : Prop := V r.1 ∧ V r.2 ∧ r.1 ≤ r.2
def Cov (L : List (Nat × Nat)) (c : Nat) : Prop := ∃ r ∈ L, r.1 ≤ c ∧ c ≤ r.2
def NL (L : List (Nat × Nat)) : Prop := L.Pairwise (fun a b => nx a.2 < b.1) ∧ ∀ r ∈ L, RV r
theorem NL.tail {a : Nat × Nat} {r : List (Nat × Nat)} (h : NL (a :: r)) : NL r := ⟨(List.pairwise_cons.1 h.1).2, fun x hx => h.2 x (List.mem_cons_of_mem _ hx)⟩
theorem NL.head {a : Nat × Nat} {r : List (Nat × Nat)} (h : NL (a :: r)) : ∀ x ∈ r, nx a.2 < x.1 := (List.pairwise_cons.1 h.1).1
theorem NL.cons {a : Nat × Nat} {r : List (Nat × Nat)} (h : NL r) (ha : RV a) (k : ∀ x ∈ r, nx a.2 < x.1) : NL (a :: r) := ⟨List.pairwise_cons.2 ⟨k, h.1⟩, fun x hx => by rcases List.mem_cons.1 hx with rfl | hx; exact ha; exact h.2 x hx⟩
theorem cov_cons (a : Nat × Nat) (r : List (Nat × Nat)) (c : Nat) : Cov (a :: r) c ↔ (a.1 ≤ c ∧ c ≤ a.2) ∨ Cov r c := by simp [Cov]
theorem cov_app (L M : List (Nat × Nat)) (c : Nat) : Cov (L ++ M) c ↔ Cov L c ∨ Cov M c := by
 unfold Cov; constructor
 ·rintro ⟨r, hr, h⟩; rcases List.mem_append.1 hr with k | k; exact .inl ⟨r, k, h⟩; exact .inr ⟨r, k, h⟩
 ·rintro (⟨r, hr, h⟩ | ⟨r, hr, h⟩); exact ⟨r, List.mem_append.2 (.inl hr), h⟩; exact ⟨r, List.mem_append.2 (.inr hr), h⟩
theorem cov_nil (c : Nat) : ¬ Cov [] c := by rintro ⟨_, h, _⟩; cases h
theorem cov_after {a : Nat × Nat} {r : List (Nat × Nat)} (h : NL (a :: r)) {c : Nat} (hc : Cov r c) : nx a.2 < c := by
 obtain ⟨x, hx, h1, h2⟩ := hc; have := h.head x hx; omega
theorem nl_unique : ∀ (L M : List (Nat × Nat)), NL L → NL M → (∀ c, V c → (Cov L c ↔ Cov M c)) → L = M
 | [], [], _, _, _ => rfl
 | [], b :: s, _, hM, h => by
  have vb := hM.2 b (List.mem_cons_self ..)
  exact absurd ((h b.1 vb.1).2 ((cov_cons _ _ _).2 (.inl ⟨Nat.le_refl _, vb.2.2⟩))) (cov_nil _)
 | a :: r, [], hL, _, h => by
  have va := hL.2 a (List.mem_cons_self ..)
  exact absurd ((h a.1 va.1).1 ((cov_cons _ _ _).2 (.inl ⟨Nat.le_refl _, va.2.2⟩))) (cov_nil _)
 | a :: r, b :: s, hL, hM, h => by
  have va := hL.2 a (List.mem_cons_self ..)
  have vb := hM.2 b (List.mem_cons_self ..)
  have la : b.1 ≤ a.1 := by
   have := (h a.1 va.1).1 ((cov_cons _ _ _).2 (.inl ⟨Nat.le_refl _, va.2.2⟩))
   rcases (cov_cons _ _ _).1 this with k | k
   ·exact k.1
   ·have := cov_after hM k; have := nx_gt b.2; have := vb.2.2; omega
  have lb : a.1 ≤ b.1 := by
   have := (h b.1 vb.1).2 ((cov_cons _ _ _).2 (.inl ⟨Nat.le_refl _, vb.2.2⟩))
   rcases (cov_cons _ _ _).1 this with k | k
   ·exact k.1
   ·have := cov_after hL k; have := nx_gt a.2; have := va.2.2; omega
  have hh : a.2 = b.2 := by
   rcases Nat.lt_trichotomy a.2 b.2 with k | k | k
   ·have n := nx_le va.2.1 vb.2.1 k
    have := (h _ n.2).2 ((cov_cons _ _ _).2 (.inl ⟨by have := nx_gt a.2; have := va.2.2; omega, n.1⟩))
    rcases (cov_cons _ _ _).1 this with q | q
    ·have := nx_gt a.2; omega
    ·have := cov_after hL q; omega
   ·exact k
   ·have n := nx_le vb.2.1 va.2.1 k
    have := (h _ n.2).1 ((cov_cons _ _ _).2 (.inl ⟨by have := nx_gt b.2; have := vb.2.2; omega, n.1⟩))
    rcases (cov_cons _ _ _).1 this with q | q
    ·have := nx_gt b.2; omega
    ·have := cov_after hM q; omega
  have e : a = b := Prod.ext (by omega) hh
  subst e
  congr 1
  refine nl_unique r s hL.tail hM.tail fun c hc => ?_
  have k := h c hc
  rw [cov_cons, cov_cons] at k
  constructor
  ·intro q
   have := cov_after hL q
   have := nx_gt a.2
   rcases k.1 (.inr q) with z | z
   ·omega
   ·exact z
  ·intro q
   have := cov_after hM q
   have := nx_gt a.2
   rcases k.2 (.inr q) with z | z
   ·omega
   ·exact z
def nstep (out : List (Nat × Nat)) (f : Nat × Nat) : List (Nat × Nat) :=
 match out.getLast? with
 | none => [f]
 | some l => if nx l.2 < f.1 then out ++ [f] else out.dropLast ++ [(l.1, max l.2 f.2)]
theorem nstep_nil (f : Nat × Nat) : nstep [] f = [f] := rfl
theorem nstep_gap (I : List (Nat × Nat)) (l f : Nat × Nat) (h : nx l.2 < f.1) : nstep (I ++ [l]) f = (I ++ [l]) ++ [f] := by simp [nstep, h]
theorem nstep_in (I : List (Nat × Nat)) (l f : Nat × Nat) (h : ¬ nx l.2 < f.1) : nstep (I ++ [l]) f = I ++ [(l.1, max l.2 f.2)] := by simp [nstep, h]
theorem list_ends (L : List (Nat × Nat)) : L = [] ∨ ∃ I l, L = I ++ [l] := by
 rcases List.eq_nil_or_concat L with h | ⟨I, l, h⟩
 ·exact .inl h
 ·exact .inr ⟨I, l, by simpa using h⟩
theorem nl_app1 {L : List (Nat × Nat)} {f : Nat × Nat} (h : NL L) (hf : RV f) (k : ∀ a ∈ L, nx a.2 < f.1) : NL (L ++ [f]) := by
 refine ⟨List.pairwise_append.2 ⟨h.1, List.pairwise_singleton _ _, fun a ha b hb => ?_⟩, fun x hx => ?_⟩
 ·rw [List.mem_singleton.1 hb]; exact k a ha
 ·rcases List.mem_append.1 hx with q | q
  ·exact h.2 x q
  ·rw [List.mem_singleton.1 q]; exact hf
theorem nl_init {I : List (Nat × Nat)} {l : Nat × Nat} (h : NL (I ++ [l])) : NL I ∧ RV l ∧ ∀ a ∈ I, nx a.2 < l.1 := by
 have p := List.pairwise_append.1 h.1
 exact ⟨⟨p.1, fun x hx => h.2 x (List.mem_append.2 (.inl hx))⟩, h.2 l (List.mem_append.2 (.inr (List.mem_singleton.2 rfl))), fun a ha => p.2.2 a ha l (List.mem_singleton.2 rfl)⟩
theorem rv_max {l f : Nat × Nat} (hl : RV l) (hf : RV f) : RV (l.1, max l.2 f.2) := by
 refine ⟨hl.1, ?_, ?_⟩
 ·show V (max l.2 f.2)
  by_cases h : l.2 ≤ f.2
  ·rw [Nat.max_eq_right h]; exact hf.2.1
  ·rw [Nat.max_eq_left (by omega)]; exact hl.2.1
 ·show l.1 ≤ max l.2 f.2
  have := hl.2.2; omega
theorem nstep_ok (out : List (Nat × Nat)) (f : Nat × Nat) (h : NL out) (hf : RV f) (hs : ∀ a ∈ out, a.1 ≤ f.1) :
    NL (nstep out f) ∧ (∀ c, V c → (Cov (nstep out f) c ↔ Cov out c ∨ (f.1 ≤ c ∧ c ≤ f.2))) ∧ (∀ x, f.1 ≤ x → ∀ a ∈ nstep out f, a.1 ≤ x) ∧ 0 < (nstep out f).length ∧ (nstep out f).length ≤ out.length + 1 := by
 rcases list_ends out with rfl | ⟨I, l, rfl⟩
 ·rw [nstep_nil]
  refine ⟨⟨List.pairwise_singleton _ _, fun x hx => by rw [List.mem_singleton.1 hx]; exact hf⟩, fun c hc => ?_, fun x hx a ha => by rw [List.mem_singleton.1 ha]; exact hx, by simp, by simp⟩
  rw [cov_cons]; simp [cov_nil]
 ·obtain ⟨hI, hl, hg⟩ := nl_init h
  have hlf : l.1 ≤ f.1 := hs l (by simp)
  by_cases g : nx l.2 < f.1
  ·rw [nstep_gap I l f g]
   refine ⟨nl_app1 h hf fun a ha => ?_, fun c hc => ?_, fun x hx a ha => ?_, by simp, by simp⟩
   ·rcases List.mem_append.1 ha with q | q
    ·have := hg a q; have := nx_gt l.2; have := hl.2.2; omega
    ·rw [List.mem_singleton.1 q]; exact g
   ·rw [cov_app _ [f], cov_cons f []]; simp [cov_nil]
   ·rcases List.mem_append.1 ha with q | q
    ·have := hs a q; omega
    ·rw [List.mem_singleton.1 q]; exact hx
  ·rw [nstep_in I l f g]
   refine ⟨nl_app1 hI (rv_max hl hf) hg, fun c hc => ?_, fun x hx a ha => ?_, by simp, by simp⟩
   ·rw [cov_app, cov_app, cov_cons, cov_cons]
    have n := nx_cases l.2
    have v1 := hl.2.1; have v2 := hf.1
    have v3 := hl.2.2; have v4 := hf.2.2
    simp only [cov_nil, or_false]
    unfold V at *
    constructor
    ·rintro (k | k)
     ·exact .inl (.inl k)
     ·by_cases q : c ≤ l.2
      ·exact .inl (.inr ⟨k.1, q⟩)
      ·exact .inr (by omega)
    ·rintro ((k | k) | k)
     ·exact .inl k
     ·exact .inr (by omega)
     ·exact .inr (by omega)
   ·rcases List.mem_append.1 ha with q | q
    ·have := hs a (List.mem_append.2 (.inl q)); omega
    ·rw [List.mem_singleton.1 q]; show l.1 ≤ x; omega
def nfold (S : List (Nat × Nat)) : List (Nat × Nat) := S.foldl nstep []
theorem nfold_snoc (S : List (Nat × Nat)) (f : Nat × Nat) : nfold (S ++ [f]) = nstep (nfold S) f := by simp [nfold]
theorem cov_single (f : Nat × Nat) (c : Nat) : Cov [f] c ↔ f.1 ≤ c ∧ c ≤ f.2 := by rw [cov_cons]; simp [cov_nil]
theorem nfold_ok : ∀ (k : Nat) (S : List (Nat × Nat)), S.length = k → (∀ r ∈ S, RV r) → S.Pairwise (fun a b => a.1 ≤ b.1) → NL (nfold S) ∧ (∀ c, V c → (Cov (nfold S) c ↔ Cov S c)) ∧ (∀ x, (∀ r ∈ S, r.1 ≤ x) → ∀ a ∈ nfold S, a.1 ≤ x) ∧ (nfold S).length ≤ S.length ∧ (0 < S.length → 0 < (nfold S).length)
 | 0, S, hk, hv, hp => by
  obtain rfl : S = [] := List.eq_nil_of_length_eq_zero hk
  exact ⟨⟨List.Pairwise.nil, fun _ h => by cases h⟩, fun c _ => Iff.rfl, fun _ _ _ h => (by cases h), Nat.le_refl _, fun h => by simp at h⟩
 | k + 1, S, hk, hv, hp => by
  rcases list_ends S with rfl | ⟨I, f, rfl⟩
  ·simp at hk
  have p := List.pairwise_append.1 hp
  have ih := nfold_ok k I (by simpa using hk) (fun r hr => hv r (List.mem_append.2 (.inl hr))) p.1
  have hf := hv f (by simp)
  have st := nstep_ok (nfold I) f ih.1 hf (ih.2.2.1 f.1 fun r hr => p.2.2 r hr f (by simp))
  rw [nfold_snoc]
  refine ⟨st.1, fun c hc => ?_, fun x hx => st.2.2.1 x (hx f (by simp)), ?_, fun _ => st.2.2.2.1⟩
  ·rw [st.2.1 c hc, ih.2.1 c hc, cov_app, cov_single]
  ·have := st.2.2.2.2; have := ih.2.2.2.1; simp; omega
def jn : List (Nat × Nat) → Nat × Nat → List (Nat × Nat) × (Nat × Nat)
 | [], r => ([], r)
 | e :: t, r => if nx e.2 < r.1 ∨ nx r.2 < e.1 then (e :: (jn t r).1, (jn t r).2) else jn t (min e.1 r.1, max e.2 r.2)
theorem jn_far (t : List (Nat × Nat)) (r : Nat × Nat) (h : ∀ x ∈ t, nx r.2 < x.1) : jn t r = (t, r) := by
 induction t with
 | nil => rfl
 | cons e t ih => rw [jn, if_pos (.inr (h e (by simp))), ih fun x hx => h x (List.mem_cons_of_mem _ hx)]
theorem rv_join {e r : Nat × Nat} (he : RV e) (hr : RV r) : RV (min e.1 r.1, max e.2 r.2) := by
 refine ⟨?_, ?_, ?_⟩
 ·show V (min e.1 r.1)
  by_cases h : e.1 ≤ r.1
  ·rw [Nat.min_eq_left h]; exact he.1
  ·rw [Nat.min_eq_right (by omega)]; exact hr.1
 ·show V (max e.2 r.2)
  by_cases h : e.2 ≤ r.2
  ·rw [Nat.max_eq_right h]; exact hr.2.1
  ·rw [Nat.max_eq_left (by omega)]; exact he.2.1
 ·show min e.1 r.1 ≤ max e.2 r.2
  have := he.2.2; omega
theorem jn_low (b : Nat) : ∀ (t : List (Nat × Nat)) (r : Nat × Nat), (∀ x ∈ t, b < x.1) → b < r.1 → b < (jn t r).2.1
 | [], r, _, h => h
 | e :: t, r, ht, h => by
  rw [jn]; split
  ·exact jn_low b t r (fun x hx => ht x (List.mem_cons_of_mem _ hx)) h
  ·refine jn_low b t _ (fun x hx => ht x (List.mem_cons_of_mem _ hx)) ?_
   show b < min e.1 r.1
   have := ht e (by simp); omega
theorem jn_ok : ∀ (t : List (Nat × Nat)) (r : Nat × Nat), NL t → RV r →
    NL (jn t r).1 ∧ RV (jn t r).2 ∧ (∀ c, V c → (Cov (jn t r).1 c ∨ ((jn t r).2.1 ≤ c ∧ c ≤ (jn t r).2.2) ↔ Cov t c ∨ (r.1 ≤ c ∧ c ≤ r.2))) ∧ (∀ x ∈ (jn t r).1, x ∈ t ∧ (nx x.2 < (jn t r).2.1 ∨ nx (jn t r).2.2 < x.1)) ∧ (jn t r).1.length ≤ t.length
 | [], r, h, hr => ⟨h, hr, fun c _ => Iff.rfl, fun _ h => (by cases h), Nat.le_refl _⟩
 | e :: t, r, h, hr => by
  have he := h.2 e (by simp)
  by_cases g : nx e.2 < r.1 ∨ nx r.2 < e.1
  ·have ih := jn_ok t r h.tail hr
   rw [jn, if_pos g]
   refine ⟨ih.1.cons he fun x hx => h.head x (ih.2.2.2.1 x hx).1, ih.2.1, fun c hc => ?_, fun x hx => ?_, by simp; exact ih.2.2.2.2⟩
   ·have := ih.2.2.1 c hc
    rw [cov_cons, cov_cons, or_assoc, or_assoc, this]
   ·rcases List.mem_cons.1 hx with rfl | q
    ·refine ⟨by simp, ?_⟩
     rcases g with g | g
     ·exact .inl (jn_low _ t r h.head g)
     ·right
      rw [jn_far t r fun y hy => by have := h.head y hy; have := nx_gt x.2; have := he.2.2; omega]
      exact g
    ·exact ⟨List.mem_cons_of_mem _ (ih.2.2.2.1 x q).1, (ih.2.2.2.1 x q).2⟩
  ·have ih := jn_ok t _ h.tail (rv_join he hr)
   rw [jn, if_neg g]
   refine ⟨ih.1, ih.2.1, fun c hc => ?_, fun x hx => ⟨List.mem_cons_of_mem _ (ih.2.2.2.1 x hx).1, (ih.2.2.2.1 x hx).2⟩, by have := ih.2.2.2.2; simp; omega⟩
   rw [ih.2.2.1 c hc, cov_cons]
   have n1 := nx_cases e.2; have n2 := nx_cases r.2
   have v1 := he.2.1; have v2 := hr.1; have v3 := he.1; have v4 := hr.2.1; have v5 := he.2.2; have v6 := hr.2.2
   unfold V at *
   constructor
   ·rintro (k | k)
    ·exact .inl (.inr k)
    ·replace k : min e.1 r.1 ≤ c ∧ c ≤ max e.2 r.2 := k
     by_cases q : e.1 ≤ c ∧ c ≤ e.2
     ·exact .inl (.inl q)
     ·exact .inr (by omega)
   ·rintro ((k | k) | k)
    ·right; show min e.1 r.1 ≤ c ∧ c ≤ max e.2 r.2; omega
    ·exact .inl k
    ·right; show min e.1 r.1 ≤ c ∧ c ≤ max e.2 r.2; omega
def put (r : Nat × Nat) : Bool → List (Nat × Nat) → List (Nat × Nat) × Bool
 | d, [] => ([], d)
 | d, e :: t => if d = false ∧ r.1 < e.1 then (r :: e :: (put r true t).1, (put r true t).2) else (e :: (put r d t).1, (put r d t).2)
def putL (r : Nat × Nat) (L : List (Nat × Nat)) : List (Nat × Nat) := if (put r false L).2 = true then (put r false L).1 else (put r false L).1 ++ [r]
theorem put_true (r : Nat × Nat) : ∀ L, put r true L = (L, true)
 | [] => rfl
 | e :: t => by rw [put, if_neg (by simp), put_true r t]
theorem putL_cons (r e : Nat × Nat) (t : List (Nat × Nat)) : putL r (e :: t) = if r.1 < e.1 then r :: e :: t else e :: putL r t := by
 have e1 : put r false (e :: t) = if r.1 < e.1 then (r :: e :: t, true) else (e :: (put r false t).1, (put r false t).2) := by
  rw [put]
  by_cases h : r.1 < e.1
  ·rw [if_pos ⟨rfl, h⟩, if_pos h, put_true]
  ·rw [if_neg (fun k => h k.2), if_neg h]
 unfold putL
 rw [e1]
 by_cases h : r.1 < e.1
 ·rw [if_pos h, if_pos h, if_pos rfl]
 ·rw [if_neg h, if_neg h]
  dsimp only
  split <;> rfl
theorem putL_ok (r : Nat × Nat) (hr : RV r) : ∀ L, NL L → (∀ x ∈ L, nx x.2 < r.1 ∨ nx r.2 < x.1) → NL (putL r L) ∧ (∀ c, Cov (putL r L) c ↔ Cov L c ∨ (r.1 ≤ c ∧ c ≤ r.2)) ∧ (∀ x ∈ putL r L, x = r ∨ x ∈ L) ∧ (putL r L).length = L.length + 1
 | [], h, _ => ⟨⟨List.pairwise_singleton _ _, fun x hx => by rw [List.mem_singleton.1 hx]; exact hr⟩, fun c => by show Cov [r] c ↔ _; rw [cov_single]; simp [cov_nil], fun x hx => .inl (List.mem_singleton.1 hx), rfl⟩
 | e :: t, h, g => by
  have he := h.2 e (by simp)
  have ih := putL_ok r hr t h.tail fun x hx => g x (List.mem_cons_of_mem _ hx)
  rw [putL_cons]
  by_cases k : r.1 < e.1
  ·rw [if_pos k]
   have ge : nx r.2 < e.1 := by
    rcases g e (by simp) with q | q
    ·have := nx_gt e.2; have := he.2.2; omega
    ·exact q
   refine ⟨h.cons hr fun x hx => ?_, fun c => ?_, fun x hx => ?_, by simp⟩
   ·rcases List.mem_cons.1 hx with rfl | q
    ·exact ge
    ·have := h.head x q; have := nx_gt e.2; have := he.2.2; omega
   ·rw [cov_cons r]; exact Or.comm
   ·rcases List.mem_cons.1 hx with q | q
    ·exact .inl q
    ·exact .inr q
  ·rw [if_neg k]
   have ge : nx e.2 < r.1 := by
    rcases g e (by simp) with q | q
    ·exact q
    ·have := nx_gt r.2; have := hr.2.2; omega
   refine ⟨ih.1.cons he fun x hx => ?_, fun c => ?_, fun x hx => ?_, by simp; exact ih.2.2.2⟩
   ·rcases ih.2.2.1 x hx with rfl | q
    ·exact ge
    ·exact h.head x q
   ·rw [cov_cons, cov_cons, ih.2.1 c, or_assoc]
   ·rcases List.mem_cons.1 hx with rfl | q
    ·exact .inr (by simp)
    ·rcases ih.2.2.1 x q with z | z
     ·exact .inl z
     ·exact .inr (List.mem_cons_of_mem _ z)
def dstep (D : List (Nat × Nat)) (r : Nat × Nat) : List (Nat × Nat) := putL (jn D r).2 (jn D r).1
theorem dstep_ok (D : List (Nat × Nat)) (r : Nat × Nat) (h : NL D) (hr : RV r) : NL (dstep D r) ∧ (∀ c, V c → (Cov (dstep D r) c ↔ Cov D c ∨ (r.1 ≤ c ∧ c ≤ r.2))) ∧ (dstep D r).length ≤ D.length + 1 := by
 have j := jn_ok D r h hr
 have p := putL_ok (jn D r).2 j.2.1 (jn D r).1 j.1 fun x hx => (j.2.2.2.1 x hx).2
 unfold dstep
 exact ⟨p.1, fun c hc => by rw [p.2.1, j.2.2.1 c hc], by rw [p.2.2.2]; have := j.2.2.2.2; omega⟩
def dfold (S : List (Nat × Nat)) : List (Nat × Nat) := S.foldl dstep []
theorem dfold_snoc (S : List (Nat × Nat)) (f : Nat × Nat) : dfold (S ++ [f]) = dstep (dfold S) f := by simp [dfold]
theorem dfold_ok : ∀ (k : Nat) (S : List (Nat × Nat)), S.length = k → (∀ r ∈ S, RV r) → NL (dfold S) ∧ (∀ c, V c → (Cov (dfold S) c ↔ Cov S c)) ∧ (dfold S).length ≤ S.length
 | 0, S, hk, hv => by
  obtain rfl : S = [] := List.eq_nil_of_length_eq_zero hk
  exact ⟨⟨List.Pairwise.nil, fun _ h => by cases h⟩, fun c _ => Iff.rfl, Nat.le_refl _⟩
 | k + 1, S, hk, hv => by
  rcases list_ends S with rfl | ⟨I, f, rfl⟩
  ·simp at hk
  have ih := dfold_ok k I (by simpa using hk) (fun r hr => hv r (List.mem_append.2 (.inl hr)))
  have st := dstep_ok (dfold I) f ih.1 (hv f (by simp))
  rw [dfold_snoc]
  exact ⟨st.1, fun c hc => by rw [st.2.1 c hc, ih.2.1 c hc, cov_app, cov_single], by have := st.2.2; have := ih.2.2; simp; omega⟩
theorem nfold_dfold (S T : List (Nat × Nat)) (hS : ∀ r ∈ S, RV r) (hp : S.Pairwise (fun a b => a.1 ≤ b.1)) (hT : ∀ r, r ∈ T ↔ r ∈ S) : nfold S = dfold T := by
 have a := nfold_ok _ S rfl hS hp
 have b := dfold_ok _ T rfl fun r hr => hS r ((hT r).1 hr)
 refine nl_unique _ _ a.1 b.1 fun c hc => ?_
 rw [a.2.1 c hc, b.2.1 c hc]
 unfold Cov
 exact ⟨fun ⟨r, h, k⟩ => ⟨r, (hT r).2 h, k⟩, fun ⟨r, h, k⟩ => ⟨r, (hT r).1 h, k⟩⟩
theorem nfold_self (L : List (Nat × Nat)) (h : NL L) : nfold L = L := by
 have a := nfold_ok _ L rfl h.2 (h.1.imp_of_mem fun {a b} ha hb q => by have := nx_gt a.2; have := (h.2 a ha).2.2; omega)
 exact nl_unique _ _ a.1 h fun c hc => a.2.1 c hc
end Fl
end Go.Proofs.YthjfkmjeppdcnaaGreat
namespace Go.Proofs.YthjfkmjeppdcnaaGreat
set_option linter.unusedSimpArgs false
open Go.RowKit
set_option linter.unusedVariables false
def Old (w w' : World) : Prop := Below w.heap.size w w'
theorem Old.refl (w : World) : Old w w := Below.refl _ _
theorem Old.trans {a b c : World} (h : Old a b) (k : Old b c) : Old a c := Below.trans h (Below.mono k h.size)
theorem Old.drew {a w : World} (h : Old a w) : Old a w.drew := Below.drew h
theorem Old.drewN {a w : World} (h : Old a w) (n : Nat) : Old a (w.drewN n) := below_drewN h n
theorem Old.alloc {a w : World} (h : Old a w) (o : Obj) : Old a (w.alloc o) := Below.alloc h h.size o
theorem Old.setCell {a w : World} (h : Old a w) {p : Addr} (hp : a.heap.size ≤ p.block) (u : Value) : Old a (w.setCell p u) := Below.setCell h hp u
theorem Up.old {a w : World} (h : Up a w) : Old a w := h.toBelow
theorem Old.below {a w w' : World} (h : Old a w) (k : Below a.heap.size w w') : Old a w' := Below.trans h k
theorem Old.keep {W w' : World} (h : Old W w') {p : Addr} {v : Value} (hc : W.cell? p = some v) : w'.cell? p = some v := by
 rw [Below.cell (p := p) h (World.block_lt_of_cell? W p hc)]; exact hc
theorem Old.keepF {W w' : World} (h : Old W w') {p : Addr} {v : Value} (hc : W.cell? p = some v) (hf : W.frozen? p = false) : w'.frozen? p = false := by
 rw [Below.frozen (p := p) h (World.block_lt_of_cell? W p hc)]; exact hf
structure Sp where
 a : Nat
 b : Nat
 p : Bool
 q : Bool
def spc (s : Sp) : List Value := [.float .f64 s.a, .float .f64 s.b, .bool s.p, .bool s.q]
def spcs (L : List Sp) : List Value := L.flatMap spc
def rgc (r : Nat × Nat) : List Value := [.int .u64 (r.1 : Nat), .int .u64 (r.2 : Nat)]
def rgcs (L : List (Nat × Nat)) : List Value := L.flatMap rgc
theorem flat_len {α : Type} (c : α → List Value) (k : Nat) (hk : ∀ x, (c x).length = k) : ∀ L : List α, (L.flatMap c).length = L.length * k
 | [] => by simp
 | x :: t => by rw [List.flatMap_cons, List.length_append, hk, flat_len c k hk t, List.length_cons, Nat.add_mul]; omega
theorem flat_get {α : Type} (c : α → List Value) (k : Nat) (hk : ∀ x, (c x).length = k) : ∀ (L : List α) (i j : Nat) (hi : i < L.length), j < k → (L.flatMap c)[i * k + j]? = (c L[i])[j]?
 | [], i, _, hi, _ => by simp at hi
 | x :: t, 0, j, _, hj => by
  rw [List.flatMap_cons, List.getElem?_append_left (by rw [hk]; omega)]; simp
 | x :: t, i + 1, j, hi, hj => by
  rw [List.flatMap_cons, List.getElem?_append_right (by rw [hk, Nat.add_mul]; omega), hk]
  rw [show (i + 1) * k + j - k = i * k + j by rw [Nat.add_mul]; omega]
  rw [flat_get c k hk t i j (by simpa using hi) hj]
  simp
theorem spcs_len (L : List Sp) : (spcs L).length = L.length * 4 := flat_len spc 4 (fun _ => rfl) L
theorem rgcs_len (L : List (Nat × Nat)) : (rgcs L).length = L.length * 2 := flat_len rgc 2 (fun _ => rfl) L
theorem spcs_app (L M : List Sp) : spcs L ++ spcs M = spcs (L ++ M) := by simp [spcs]
theorem rgcs_app (L M : List (Nat × Nat)) : rgcs L ++ rgcs M = rgcs (L ++ M) := by simp [rgcs]
theorem spcs_one (L : List Sp) : ∀ u ∈ spcs L, u.oneCell' = true := by
 intro u hu
 obtain ⟨s, _, h⟩ := List.mem_flatMap.1 hu
 simp [spc] at h
 rcases h with rfl | rfl | rfl | rfl <;> rfl
theorem rgcs_one (L : List (Nat × Nat)) : ∀ u ∈ rgcs L, u.oneCell' = true := by
 intro u hu
 obtain ⟨s, _, h⟩ := List.mem_flatMap.1 hu
 simp [rgc] at h
 rcases h with rfl | rfl <;> rfl
theorem infoSpanZ : (Tryz.prog.info? 93).map (fun i => (i.zero, i.size, i.bytes)) = some (some (.agg #[.float .f64 0, .float .f64 0, .bool false, .bool false]), 4, 24) := by kernel_rfl
theorem infoRangeZ : (Tryz.prog.info? 132).map (fun i => (i.zero, i.size, i.bytes)) = some (some (.agg #[.int .u64 0, .int .u64 0]), 2, 16) := by kernel_rfl
def OwnS (base : Nat) (w : World) (v : Value) (L : List Sp) : Prop := w.ownsRow base 93 4 v L.length (spcs L)
def OwnG (base : Nat) (w : World) (v : Value) (L : List (Nat × Nat)) : Prop := w.ownsRow base 132 2 v L.length (rgcs L)
def SpIn (w : World) (b o : Nat) (s : Sp) : Prop := w.cell? ⟨b, o, none⟩ = some (.float .f64 s.a) ∧ w.cell? ⟨b, o + 1, none⟩ = some (.float .f64 s.b) ∧ w.cell? ⟨b, o + 2, none⟩ = some (.bool s.p) ∧ w.cell? ⟨b, o + 3, none⟩ = some (.bool s.q)
theorem SpIn.old {w w' : World} {b o : Nat} {s : Sp} (h : SpIn w b o s) (u : Old w w') : SpIn w' b o s := ⟨u.keep h.1, u.keep h.2.1, u.keep h.2.2.1, u.keep h.2.2.2⟩
def RgIn (w : World) (b o : Nat) (r : Nat × Nat) : Prop := w.cell? ⟨b, o, none⟩ = some (.int .u64 (r.1 : Nat)) ∧ w.cell? ⟨b, o + 1, none⟩ = some (.int .u64 (r.2 : Nat))
theorem spIn_new (w : World) (s : Sp) (g : Nat) (hg : w.heap.size = g) : ∀ i (hi : i < [s].length), SpIn (w.alloc (.cells #[.float .f64 s.a, .float .f64 s.b, .bool s.p, .bool s.q] 93)) g (0 + i * 4) [s][i] := by
 intro i hi
 obtain rfl : i = 0 := by simpa using hi
 subst hg
 simp [SpIn]
theorem rgIn_new (w : World) (r : Nat × Nat) (g : Nat) (hg : w.heap.size = g) : RgIn (w.alloc (.cells #[.int .u64 (r.1 : Nat), .int .u64 (r.2 : Nat)] 132)) g 0 r := by
 subst hg
 simp [RgIn]
theorem RgIn.old {w w' : World} {b o : Nat} {r : Nat × Nat} (h : RgIn w b o r) (u : Old w w') : RgIn w' b o r := ⟨u.keep h.1, u.keep h.2⟩
theorem own_old {base : Nat} {w w' : World} {t : TypeId} {k n : Nat} {xs : List Value} {v : Value} (h : w.ownsRow base t k v n xs) (u : Old w w') : w'.ownsRow base t k v n xs := by
 refine ⟨h.1, ?_⟩
 rcases h.2 with e | ⟨g, cap, cur, e, hb', hg, r⟩
 ·exact .inl e
 ·exact .inr ⟨g, cap, cur, e, hb', by rw [u.block g (lt_of_block hg)]; exact hg, r⟩
theorem OwnS.old {base : Nat} {w w' : World} {v : Value} {L : List Sp} (h : OwnS base w v L) (u : Old w w') : OwnS base w' v L := own_old h u
theorem OwnG.old {base : Nat} {w w' : World} {v : Value} {L : List (Nat × Nat)} (h : OwnG base w v L) (u : Old w w') : OwnG base w' v L := own_old h u
theorem OwnS.nil (base : Nat) (w : World) : OwnS base w (.slice none 0 0) [] := World.ownsRow_nil w base _ 4
theorem OwnG.nil (base : Nat) (w : World) : OwnG base w (.slice none 0 0) [] := World.ownsRow_nil w base _ 2
theorem OwnS.empty {base g : Nat} {w : World} (hb : base ≤ w.heap.size) (hg : w.heap.size = g) : OwnS base (w.alloc (.cells #[] 93)) (.slice (some ⟨g, 0, none⟩) 0 0) [] := by
 subst hg
 exact World.ownsRow_made w #[] 0 hb (by unfold maxLen; omega) rfl
theorem OwnG.empty {base g : Nat} {w : World} (hb : base ≤ w.heap.size) (hg : w.heap.size = g) : OwnG base (w.alloc (.cells #[] 132)) (.slice (some ⟨g, 0, none⟩) 0 0) [] := by
 subst hg
 exact World.ownsRow_made w #[] 0 hb (by unfold maxLen; omega) rfl
theorem OwnS.len {base : Nat} {w : World} {v : Value} {L : List Sp} (h : OwnS base w v L) : ∃ a c, v = .slice a L.length c := by
 rcases h.2 with ⟨rfl, e⟩ | ⟨g, cap, cur, rfl, _⟩
 ·exact ⟨none, 0, by rw [e]⟩
 ·exact ⟨_, _, rfl⟩
theorem OwnG.len {base : Nat} {w : World} {v : Value} {L : List (Nat × Nat)} (h : OwnG base w v L) : ∃ a c, v = .slice a L.length c := by
 rcases h.2 with ⟨rfl, e⟩ | ⟨g, cap, cur, rfl, _⟩
 ·exact ⟨none, 0, by rw [e]⟩
 ·exact ⟨_, _, rfl⟩
theorem OwnS.shape {base : Nat} {w : World} {v : Value} {L : List Sp} (h : OwnS base w v L) (hn : 0 < L.length) :
    ∃ g cap, v = .slice (some ⟨g, 0, none⟩) L.length cap ∧ base ≤ g ∧ g < w.heap.size ∧ L.length ≤ cap ∧ cap ≤ maxLen ∧ (∀ i (hi : i < L.length), SpIn w g (i * 4) L[i]) ∧ ∀ o, w.frozen? ⟨g, o, none⟩ = false := by
 have h2 := h
 unfold OwnS at h2
 rcases h2.2 with ⟨_, e⟩ | ⟨g, cap, cur, rfl, hb, hg, hnc, hcm, hcs, htk⟩
 ·omega
 ·refine ⟨g, cap, rfl, hb, lt_of_block hg, hnc, hcm, fun i hi => ?_, h2.frozenAt⟩
  have H : ∀ j, j < 4 → w.cell? ⟨g, i * 4 + j, none⟩ = (spc L[i])[j]? := fun j hj => by
   rw [h2.cellAt (i * 4 + j) (by omega)]; exact flat_get spc 4 (fun _ => rfl) L i j hi hj
  exact ⟨H 0 (by omega), H 1 (by omega), H 2 (by omega), H 3 (by omega)⟩
theorem OwnG.shape {base : Nat} {w : World} {v : Value} {L : List (Nat × Nat)} (h : OwnG base w v L) (hn : 0 < L.length) :
    ∃ g cap, v = .slice (some ⟨g, 0, none⟩) L.length cap ∧ base ≤ g ∧ g < w.heap.size ∧ (∀ i (hi : i < L.length), RgIn w g (i * 2) L[i]) := by
 have h2 := h
 unfold OwnG at h2
 rcases h2.2 with ⟨_, e⟩ | ⟨g, cap, cur, rfl, hb, hg, hnc, hcm, hcs, htk⟩
 ·omega
 ·refine ⟨g, cap, rfl, hb, lt_of_block hg, fun i hi => ?_⟩
  have H : ∀ j, j < 2 → w.cell? ⟨g, i * 2 + j, none⟩ = (rgc L[i])[j]? := fun j hj => by
   rw [h2.cellAt (i * 2 + j) (by omega)]; exact flat_get rgc 2 (fun _ => rfl) L i j hi hj
  exact ⟨H 0 (by omega), H 1 (by omega)⟩
theorem wp_appS {ops : Array Oper} {rest : List Oper} {o : Oper} {a : Act} {Q : Exit → Act → World → Prop} {w : World} (hgd : o.guard = none) (s x : Operand)
    (ho : o.op = .call { callee := .builtin .append, args := #[s, x], argTypes := #[31, 31] }) (base : Nat) (v : Value) (L M : List Sp) (g off c1 : Nat)
    (hs : a.eval s = v) (hx : a.eval x = .slice (some ⟨g, off, none⟩) M.length c1) (hown : OwnS base w v L) (hc : ∀ i (hi : i < M.length), SpIn w g (off + i * 4) M[i]) (hb : L.length + M.length ≤ 5864062014805) (hbase : base ≤ w.heap.size)
    (h : ∀ v' w', OwnS base w' v' (L ++ M) → Below base w w' → wpList Tryz.prog ops Q rest (a.put o.dst v') w') : wpList Tryz.prog ops Q (o :: rest) a w := by
 obtain ⟨i0, hi, hz0, hz1, hz2⟩ := info_parts infoSpanZ
 refine wpList_append_own w hgd s x 31 ho base 93 i0 _ 4 24 Tryz.underlying31 hi hz0 hz1 hz2 rfl (by decide) v L.length (spcs L) hs hown ⟨g, off, none⟩ M.length c1 (spcs M) hx (spcs_len M) ?_ (spcs_one M) (by unfold maxLen; omega) (by omega) hbase ?_
 ·intro j u hj
  have hl := spcs_len M
  have hjl : j < M.length * 4 := by rw [← hl]; exact (List.getElem?_eq_some_iff.1 hj).1
  obtain ⟨q, r, hr, rfl⟩ : ∃ q r, r < 4 ∧ j = q * 4 + r := ⟨j / 4, j % 4, Nat.mod_lt _ (by decide), by omega⟩
  have hq : q < M.length := by omega
  rw [spcs, flat_get spc 4 (fun _ => rfl) M q r hq hr] at hj
  have k := hc q hq
  rw [Go.WideShapes.add_plain]
  match r, hr with
  | 0, _ => simp [spc] at hj; subst hj; exact k.1
  | 1, _ => simp [spc] at hj; subst hj; show w.cell? ⟨g, off + (q * 4 + 1), none⟩ = _; rw [← Nat.add_assoc]; exact k.2.1
  | 2, _ => simp [spc] at hj; subst hj; show w.cell? ⟨g, off + (q * 4 + 2), none⟩ = _; rw [← Nat.add_assoc]; exact k.2.2.1
  | 3, _ => simp [spc] at hj; subst hj; show w.cell? ⟨g, off + (q * 4 + 3), none⟩ = _; rw [← Nat.add_assoc]; exact k.2.2.2
 ·intro v' w' h1 h2 h3
  exact h v' w' (by unfold OwnS; rw [spcs_app] at h1; simpa using h1) (Below.grown (Below.refl _ _) h2 hbase (fun k hk => (World.ownsRow.lt hown k hk).1))
theorem wp_appG {ops : Array Oper} {rest : List Oper} {o : Oper} {a : Act} {Q : Exit → Act → World → Prop} {w : World} (hgd : o.guard = none) (s x : Operand)
    (ho : o.op = .call { callee := .builtin .append, args := #[s, x], argTypes := #[107, 107] }) (base : Nat) (v : Value) (L : List (Nat × Nat)) (r : Nat × Nat) (g c1 : Nat)
    (hs : a.eval s = v) (hx : a.eval x = .slice (some ⟨g, 0, none⟩) 1 c1) (hown : OwnG base w v L) (hc : RgIn w g 0 r) (hb : L.length + 1 ≤ 8796093022208) (hbase : base ≤ w.heap.size)
    (h : ∀ v' w', OwnG base w' v' (L ++ [r]) → w.grownBy w' v.ownBlock → wpList Tryz.prog ops Q rest (a.put o.dst v') w') : wpList Tryz.prog ops Q (o :: rest) a w := by
 obtain ⟨i0, hi, hz0, hz1, hz2⟩ := info_parts infoRangeZ
 refine wpList_append_own w hgd s x 107 ho base 132 i0 _ 2 16 Tryz.underlying107 hi hz0 hz1 hz2 rfl (by decide) v L.length (rgcs L) hs hown ⟨g, 0, none⟩ 1 c1 (rgcs [r]) hx rfl ?_ (rgcs_one [r]) (by unfold maxLen; omega) (by omega) hbase ?_
 ·intro j u hj
  rw [Go.WideShapes.add_plain]
  match j with
  | 0 => simp [rgcs, rgc] at hj; subst hj; exact hc.1
  | 1 => simp [rgcs, rgc] at hj; subst hj; exact hc.2
  | j + 2 => simp [rgcs, rgc] at hj
 ·intro v' w' h1 h2 h3
  exact h v' w' (by unfold OwnG; rw [rgcs_app] at h1; simpa using h1) h2
theorem OwnS.mono {base b' : Nat} {w : World} {v : Value} {L : List Sp} (h : OwnS base w v L) (hb : b' ≤ base) : OwnS b' w v L := by
 refine ⟨h.1, ?_⟩
 rcases h.2 with e | ⟨g, cap, cur, e, hb', r⟩
 ·exact .inl e
 ·exact .inr ⟨g, cap, cur, e, by omega, r⟩
theorem OwnG.mono {base b' : Nat} {w : World} {v : Value} {L : List (Nat × Nat)} (h : OwnG base w v L) (hb : b' ≤ base) : OwnG b' w v L := by
 refine ⟨h.1, ?_⟩
 rcases h.2 with e | ⟨g, cap, cur, e, hb', r⟩
 ·exact .inl e
 ·exact .inr ⟨g, cap, cur, e, by omega, r⟩
def SRow (w : World) (v : Value) (n : Nat) (f : Nat → Sp) : Prop := n ≤ 9223372036854775807 ∧ ∃ a c, v = .slice a n c ∧ ∀ i, i < n → ∃ b off, a = some ⟨b, off, none⟩ ∧ Fl.W (f i).a ∧ Fl.W (f i).b ∧ SpIn w b (off + i * 4) (f i)
theorem SRow.old {w w' : World} {v : Value} {n : Nat} {f : Nat → Sp} (h : SRow w v n f) (u : Old w w') : SRow w' v n f := by
 obtain ⟨hm, a, c, hv, hc⟩ := h
 exact ⟨hm, a, c, hv, fun i hi => by obtain ⟨b, off, q1, q2, q3, c0⟩ := hc i hi; exact ⟨b, off, q1, q2, q3, c0.old u⟩⟩
def atS (L : List Sp) (i : Nat) : Sp := (L[i]?).getD ⟨0, 0, false, false⟩
theorem atS_get (L : List Sp) (i : Nat) (h : i < L.length) : atS L i = L[i] := by simp [atS, h]
theorem OwnS.row {base : Nat} {w : World} {v : Value} {L : List Sp} (h : OwnS base w v L) (hW : ∀ s ∈ L, Fl.W s.a ∧ Fl.W s.b) (hl : L.length ≤ 9223372036854775807) : SRow w v L.length (atS L) := by
 refine ⟨hl, ?_⟩
 by_cases hn : 0 < L.length
 ·obtain ⟨g, cap, hv, _, _, _, _, hc, _⟩ := h.shape hn
  refine ⟨_, _, hv, fun i hi => ⟨g, 0, rfl, ?_, ?_, ?_⟩⟩
  ·rw [atS_get L i hi]; exact (hW _ (List.getElem_mem hi)).1
  ·rw [atS_get L i hi]; exact (hW _ (List.getElem_mem hi)).2
  ·rw [atS_get L i hi, Nat.zero_add]; exact hc i hi
 ·obtain ⟨a, c, hv⟩ := h.len
  exact ⟨a, c, hv, fun i hi => absurd hi (by omega)⟩
end Go.Proofs.YthjfkmjeppdcnaaGreat
namespace Go.Proofs.YthjfkmjeppdcnaaGreat
set_option linter.unusedSimpArgs false
open Go.RowKit
set_option linter.unusedVariables false
namespace Fl
def spo (r : Nat × Nat) : Sp := ⟨of r.1, of r.2, false, false⟩
theorem V_isCode {c : Nat} (h : V c) : isCode c = true ∧ c ≠ 0 ∧ W c := by
 refine ⟨(isCode_iff c).2 ?_, ?_, ?_⟩ <;> unfold V at h <;> (try unfold W) <;> omega
theorem of_V {c : Nat} (h : V c) : W (of c) ∧ code (of c) = c ∧ canon (of c) = of c ∧ nan (of c) = false := by
 obtain ⟨h1, h2, h3⟩ := V_isCode h
 have hw : W (of c) := of_lt c h3
 have hc := code_of c h3 h1
 refine ⟨hw, hc, ?_, ?_⟩
 ·rw [← of_code (of c) hw, hc]
 ·cases hn : nan (of c)
  ·rfl
  ·rw [code_nan _ hn] at hc; exact absurd hc.symm h2
theorem V_code {a : Nat} (h : W a) (hn : nan a = false) : V (code a) := by
 have := code_pos a h hn
 have := code_range a h
 unfold V; omega
theorem spo_form {r : Nat × Nat} (h : RV r) : IsForm (of r.1) (of r.2) false := by
 have a := of_V h.1
 have b := of_V h.2.1
 exact ⟨a.1, b.1, fun e => (nomatch e), fun _ => ⟨a.2.2.1, b.2.2.1, a.2.2.2, b.2.2.2, by rw [a.2.1, b.2.1]; exact h.2.2⟩⟩
def cd (s : Sp) : List (Nat × Nat) := if csE s.a s.b s.p s.q = true then [] else [(code (csU s.a s.b s.p s.q), code (csV s.a s.b s.p s.q))]
def cdl (f : Nat → Sp) : Nat → List (Nat × Nat) | 0 => [] | k + 1 => cdl f k ++ cd (f k)
theorem cd_RV (s : Sp) (ha : W s.a) (hb : W s.b) : ∀ r ∈ cd s, RV r := by
 intro r hr
 unfold cd at hr
 split at hr
 ·cases hr
 ·rw [List.mem_singleton.1 hr]
  rename_i h
  have h' : csE s.a s.b s.p s.q = false := by simpa using h
  obtain ⟨w1, w2, _, k⟩ := cs_isForm s.a s.b s.p s.q ha hb
  obtain ⟨_, _, n1, n2, l⟩ := k h'
  exact ⟨V_code w1 n1, V_code w2 n2, l⟩
theorem cd_len (s : Sp) : (cd s).length ≤ 1 := by unfold cd; split <;> simp
theorem cdl_len (f : Nat → Sp) : ∀ k, (cdl f k).length ≤ k
 | 0 => Nat.le_refl _
 | k + 1 => by rw [cdl, List.length_append]; have := cdl_len f k; have := cd_len (f k); omega
theorem cdl_RV (f : Nat → Sp) : ∀ k, (∀ i, i < k → W (f i).a ∧ W (f i).b) → ∀ r ∈ cdl f k, RV r
 | 0, _ => fun r hr => by cases hr
 | k + 1, h => fun r hr => by
  rcases List.mem_append.1 hr with q | q
  ·exact cdl_RV f k (fun i hi => h i (by omega)) r q
  ·exact cd_RV (f k) (h k (by omega)).1 (h k (by omega)).2 r q
theorem cdl_mem (f : Nat → Sp) : ∀ k r, r ∈ cdl f k ↔ ∃ i, i < k ∧ r ∈ cd (f i)
 | 0, r => ⟨fun h => (nomatch h), fun ⟨i, hi, _⟩ => absurd hi (by omega)⟩
 | k + 1, r => by
  rw [cdl, List.mem_append, cdl_mem f k r]
  constructor
  ·rintro (⟨i, hi, h⟩ | h)
   ·exact ⟨i, by omega, h⟩
   ·exact ⟨k, by omega, h⟩
  ·rintro ⟨i, hi, h⟩
   by_cases e : i = k
   ·subst e; exact .inr h
   ·exact .inl ⟨i, by omega, h⟩
theorem cd_spo {r : Nat × Nat} (h : RV r) : cd (spo r) = [r] := by
 have a := of_V h.1
 have b := of_V h.2.1
 obtain ⟨e1, e2, e3⟩ := cs_of_form _ _ _ (spo_form h)
 unfold cd spo
 dsimp only
 rw [e1, e2, e3]
 simp [a.2.1, b.2.1]
theorem cdl_spo (L : List (Nat × Nat)) (h : ∀ r ∈ L, RV r) : cdl (atS (L.map spo)) L.length = L := by
 have : ∀ k, k ≤ L.length → cdl (atS (L.map spo)) k = L.take k := by
  intro k
  induction k with
  | zero => intro _; simp [cdl]
  | succ k ih =>
   intro hk
   have hk' : k < L.length := by omega
   rw [cdl, ih (by omega), atS_get _ _ (by simpa using hk'), List.getElem_map, cd_spo (h _ (List.getElem_mem _)), List.take_succ_eq_append_getElem hk']
 rw [this _ (Nat.le_refl _), List.take_length]
theorem spo_cs (s : Sp) (ha : W s.a) (hb : W s.b) : spo (code (csU s.a s.b s.p s.q), code (csV s.a s.b s.p s.q)) = ⟨csU s.a s.b s.p s.q, csV s.a s.b s.p s.q, false, false⟩ := by
 unfold spo
 dsimp only
 rw [of_code _ (csU_W _ _ _ _ ha), of_code _ (csV_W _ _ _ _ hb), csU_canon _ _ _ _ ha, csV_canon _ _ _ _ hb]
theorem gap_nx {l f : Nat × Nat} (hl : RV l) (hf : RV f) : decide (code (nextB (of l.2)) < code (of f.1)) = decide (nx l.2 < f.1) := by
 have a := of_V hl.2.1
 have b := of_V hf.1
 rw [decide_eq_decide, b.2.1]
 have v1 := hl.2.1
 have v2 := hf.1
 by_cases hi : of l.2 = INF
 ·have c := (code_inf_iff _ a.1).2 hi
  have e : code (nextB (of l.2)) = code (of l.2) := by rw [hi]; decide +kernel
  rw [e, a.2.1]; rw [a.2.1] at c
  have := nx_cases l.2
  unfold V at *; omega
 ·have c : l.2 ≠ 18442240474082181120 := fun h => hi ((code_inf_iff _ a.1).1 (a.2.1.trans h))
  rw [code_next _ a.1 hi, a.2.1]
  have := nx_cases l.2
  unfold nc
  unfold V at *
  (repeat' split) <;> omega
theorem spo_W {r : Nat × Nat} (h : RV r) : W (spo r).a ∧ W (spo r).b := ⟨(of_V h.1).1, (of_V h.2.1).1⟩
theorem mx_of {a b : Nat} (ha : V a) (hb : V b) : mx (of a) (of b) = of (max a b) := by
 have x := of_V ha
 have y := of_V hb
 unfold mx
 rw [x.2.1, y.2.1]
 split
 ·rw [Nat.max_eq_right (by omega)]
 ·rw [Nat.max_eq_left (by omega)]
end Fl
end Go.Proofs.YthjfkmjeppdcnaaGreat
