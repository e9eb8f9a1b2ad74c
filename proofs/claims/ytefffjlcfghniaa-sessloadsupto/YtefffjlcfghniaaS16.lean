/- sess' readers at all bytes: a number within its range; a verdict. Conditions: the Reader lies in memory, alive. -/
import Derived.Test.YtefffjlcfghniaaS14
namespace Go.Proofs.Ytefffjlcfghniaa
open Go.RowKit Go.Lib
set_option linter.unusedVariables false
set_option linter.unusedSimpArgs false
set_option maxRecDepth 20000
/-- A number of a range, taken off bytes. -/
def tkW (l m : Int) (L : List Nat) : Option (Int × List Nat) := match tkN L with | none => none | some (z, B) => if outB z l m = true then none else some (z, B)
theorem tkW_at {l m : Int} {L B : List Nat} {z : Int} (h : tkW l m L = some (z, B)) : tkN L = some (z, B) ∧ outB z l m = false := by
  unfold tkW at h
  split at h
  · cases h
  · rename_i z' B' e
    split at h
    · cases h
    · rename_i q
      cases h
      exact ⟨e, by simpa using q⟩
theorem fail30 (R b0 : Nat) (L : List Nat) (W : World) (h : RL W R b0 L) : Calls Try.prog 54 #[.pointer (some ⟨R, 0, none⟩), .int .i64 30] W fun e w' => Ends R W e w' := by
  obtain ⟨v, hrd, _⟩ := h
  refine (Pk.fail_any R v 30 W hrd 30 (by decide)).mono ?_
  rintro e w' ⟨rfl, rfl⟩
  exact ⟨rfl, (hrd.s1 30).s0 _, (Pk.Chg.set' W ⟨R, 1, none⟩ _).trans (Pk.Chg.set' _ ⟨R, 0, none⟩ _)⟩
set_option maxHeartbeats 400000 in
set_option maxRecDepth 20000 in
theorem rdNum_no (R b0 : Nat) (L : List Nat) (w : World) (h : RL w R b0 L) (hn : tkN L = none) : Calls Try.prog 53 #[.pointer (some ⟨R, 0, none⟩)] w fun e w' => Ends R w e w' := Pk.rnum_no R b0 _ _ w h (tkN_none hn)
set_option maxHeartbeats 1000000 in
set_option maxRecDepth 20000 in
theorem within_at (R b0 : Nat) (l m z : Int) (L B : List Nat) (w : World) (h : RL w R b0 L) (hb : b0 ≠ R) (hz : tkW l m L = some (z, B)) :
    Calls Try.prog 33 #[.pointer (some ⟨R, 0, none⟩), .int .i64 l, .int .i64 m] w fun e w' => e = .returned (.int .i64 z) ∧ RL w' R b0 B ∧ Pk.Chg [R] w w' := by
  obtain ⟨h1, ho⟩ := tkW_at hz
  have HN := hid (rdNum_at R b0 z _ B w h hb h1)
  have HO := hid (fun W => outside_any z l m W)
  rw [ho] at HO
  clear h h1 hz ho
  go_enter Try.func33, Try.ntmps33
  go_wp2_with (first | (go_at_call 53; refine HN.out.mono ?_; rintro e w1 ⟨rfl, r1, c1⟩; have R1 := hid r1; have C1 := hid c1; clear r1 c1) | (go_at_call 24; refine (HO.out _).mono ?_; rintro e w2 ⟨rfl, u2⟩; have U2 := hid u2; clear u2))
  go_ret
  exact ⟨rfl, R1.out.chg (S := []) (Pk.Chg.old U2.out) (by simp) (by simp), C1.out.trans (Pk.Chg.old U2.out)⟩
set_option maxHeartbeats 1000000 in
set_option maxRecDepth 20000 in
theorem within_no (R b0 : Nat) (l m : Int) (L : List Nat) (w : World) (h : RL w R b0 L) (hb : b0 ≠ R) (hz : tkW l m L = none) :
    Calls Try.prog 33 #[.pointer (some ⟨R, 0, none⟩), .int .i64 l, .int .i64 m] w fun e w' => Ends R w e w' := by
  cases hT : tkN L with
  | none =>
    have HN := hid (rdNum_no R b0 L w h hT)
    unfold Ends Pk.ended at HN
    clear h hT hz
    go_enter Try.func33, Try.ntmps33
    go_wp2_with (go_at_call 53; refine HN.out.mono ?_; rintro e w1 ⟨rfl, r1, c1⟩)
    exact ⟨rfl, rfl, r1, c1⟩
  | some p =>
    obtain ⟨z, B⟩ := p
    have ho : outB z l m = true := by
      unfold tkW at hz
      rw [hT] at hz
      simp only at hz
      split at hz
      · assumption
      · cases hz
    have HN := hid (rdNum_at R b0 z _ B w h hb hT)
    have HO := hid (fun W => outside_any z l m W)
    rw [ho] at HO
    have HF := hid (fun (W : World) (r : RL W R b0 B) => fail30 R b0 B W r)
    unfold Ends Pk.ended at HF
    clear h hT hz ho
    go_enter Try.func33, Try.ntmps33
    go_wp2_with (first | (go_at_call 53; refine HN.out.mono ?_; rintro e w1 ⟨rfl, r1, c1⟩; have R1 := hid r1; have C1 := hid c1; clear r1 c1) | (go_at_call 24; refine (HO.out _).mono ?_; rintro e w2 ⟨rfl, u2⟩; have U2 := hid u2; clear u2) | (go_at_call 54; refine (HF.out _ (R1.out.chg (S := []) (Pk.Chg.old U2.out) (by simp) (by simp))).mono ?_; rintro e w3 ⟨rfl, r3, c3⟩))
    exact ⟨rfl, rfl, r3, (C1.out.trans (Pk.Chg.old U2.out)).trans c3⟩
set_option maxHeartbeats 2000000 in
set_option maxRecDepth 20000 in
theorem readVerdict_at (R b0 : Nat) (c m : Int) (L A B : List Nat) (w : World) (h : RL w R b0 L) (hb : b0 ≠ R) (hR : R < w.heap.size) (hb0 : b0 < w.heap.size) (hc : tkW 0 999 L = some (c, A)) (hm : tkW 0 1099511627776 A = some (m, B)) :
    Calls Try.prog 55 #[.pointer (some ⟨R, 0, none⟩)] w fun e w' => e = .returned (.agg #[.int .i64 c, .int .i64 m]) ∧ RL w' R b0 B ∧ Pk.Chg [R] w w' := by
  have HW1 := hid (fun (W : World) (r : RL W R b0 L) => within_at R b0 0 999 c L A W r hb hc)
  have HW2 := hid (fun (W : World) (r : RL W R b0 A) => within_at R b0 0 1099511627776 m A B W r hb hm)
  have HR := hid h
  have HH := hid (And.intro hR hb0)
  have tok1 : True := trivial
  clear h hc hm
  go_enter Try.func55, Try.ntmps55
  go_upto_region 1 with (fail)
  have y0 : (w.alloc (.cells #[.int .i64 0, .int .i64 0] 28)).cell? ⟨w.heap.size, 0, none⟩ = some (.int .i64 0) := by simp
  have y1 : (w.alloc (.cells #[.int .i64 0, .int .i64 0] 28)).cell? ⟨w.heap.size, 1, none⟩ = some (.int .i64 0) := by simp
  have f0 : (w.alloc (.cells #[.int .i64 0, .int .i64 0] 28)).frozen? ⟨w.heap.size, 0, none⟩ = false := by simp
  have f1 : (w.alloc (.cells #[.int .i64 0, .int .i64 0] 28)).frozen? ⟨w.heap.size, 1, none⟩ = false := by simp
  have HR1 := hid (HR.out.chg (S := []) (Pk.Chg.old ((Old.refl w).alloc (.cells #[.int .i64 0, .int .i64 0] 28))) (by simp) (by simp))
  have C0 := hid (show Pk.Chg [R] w (w.alloc (.cells #[.int .i64 0, .int .i64 0] 28)) from Pk.Chg.old ((Old.refl w).alloc _))
  have HV := hid (show w.heap.size ≠ R ∧ w.heap.size ≠ b0 ∧ w.heap.size ≤ w.heap.size from by have := HH.out; omega)
  generalize w.alloc (.cells #[.int .i64 0, .int .i64 0] 28) = w1 at *
  obtain ⟨vb, hvb⟩ : ∃ vb, w.heap.size = vb := ⟨_, rfl⟩
  have HVb := hid (show w.heap.size ≤ vb by omega)
  rw [hvb] at y0 y1 f0 f1 HV ⊢
  clear hvb HR HH
  go_wp2_with (first | (go_at_call 33; have _t := tok1; clear tok1 _t; refine (HW1.out _ HR1.out).mono ?_; rintro e w2 ⟨rfl, r2, c2⟩; have R2 := hid r2; have C2 := hid c2; have q0 := c2.cell' y0 (by simp; exact HV.out.1); have q1 := c2.cell' y1 (by simp; exact HV.out.1); have g0 := c2.fr y0 f0 (by simp; exact HV.out.1); have g1 := c2.fr y1 f1 (by simp; exact HV.out.1); clear r2 c2 y0 y1 f0 f1) | (go_at_call 33; refine (HW2.out _ R2.out).mono ?_; rintro e w3 ⟨rfl, r3, c3⟩; have R3 := hid r3; have C3 := hid c3; have x0 := c3.cell' q0 (by simp; exact HV.out.1); have x1 := c3.cell' q1 (by simp; exact HV.out.1); have h0 := c3.fr q0 g0 (by simp; exact HV.out.1); have h1 := c3.fr q1 g1 (by simp; exact HV.out.1); clear r3 c3 q0 q1 g0 g1))
  obtain ⟨z0, z1⟩ := two_set x0 x1 (.int .i64 c) (.int .i64 m)
  have CS := hid (show Pk.Chg [vb] w3 ((w3.setCell ⟨vb, 0, none⟩ (.int .i64 c)).setCell ⟨vb, 1, none⟩ (.int .i64 m)) from (Pk.Chg.set' w3 ⟨vb, 0, none⟩ _).trans (Pk.Chg.set' _ ⟨vb, 1, none⟩ _))
  refine bodyPost_ret (v := .agg #[.int .i64 c, .int .i64 m]) (by simp [results, Try.results55, go_sem, z0, z1]) rfl ⟨rfl, R3.out.chg CS.out (by simp; exact fun e => HV.out.1 e.symm) (by simp; exact fun e => HV.out.2.1 e.symm), ((C0.out.trans C2.out).trans C3.out).trans' CS.out (by simp; exact HVb.out)⟩
set_option maxHeartbeats 2000000 in
set_option maxRecDepth 20000 in
theorem readVerdict_no1 (R b0 : Nat) (L : List Nat) (w : World) (h : RL w R b0 L) (hb : b0 ≠ R) (hR : R < w.heap.size) (hb0 : b0 < w.heap.size) (hc : tkW 0 999 L = none) :
    Calls Try.prog 55 #[.pointer (some ⟨R, 0, none⟩)] w fun e w' => Ends R w e w' := by
  have HW1 := hid (fun (W : World) (r : RL W R b0 L) => within_no R b0 0 999 L W r hb hc)
  unfold Ends Pk.ended at HW1
  have HR := hid h
  clear h hc
  go_enter Try.func55, Try.ntmps55
  go_upto_region 1 with (fail)
  have HR1 := hid (HR.out.chg (S := []) (Pk.Chg.old ((Old.refl w).alloc (.cells #[.int .i64 0, .int .i64 0] 28))) (by simp) (by simp))
  have C0 := hid (show Pk.Chg [R] w (w.alloc (.cells #[.int .i64 0, .int .i64 0] 28)) from Pk.Chg.old ((Old.refl w).alloc _))
  generalize w.alloc (.cells #[.int .i64 0, .int .i64 0] 28) = w1 at *
  clear HR
  go_wp2_with (go_at_call 33; refine (HW1.out _ HR1.out).mono ?_; rintro e w2 ⟨rfl, r2, c2⟩)
  exact ⟨rfl, rfl, r2, C0.out.trans c2⟩
set_option maxHeartbeats 2000000 in
set_option maxRecDepth 20000 in
theorem readVerdict_no2 (R b0 : Nat) (c : Int) (L A : List Nat) (w : World) (h : RL w R b0 L) (hb : b0 ≠ R) (hR : R < w.heap.size) (hb0 : b0 < w.heap.size) (hc : tkW 0 999 L = some (c, A)) (hm : tkW 0 1099511627776 A = none) :
    Calls Try.prog 55 #[.pointer (some ⟨R, 0, none⟩)] w fun e w' => Ends R w e w' := by
  have HW1 := hid (fun (W : World) (r : RL W R b0 L) => within_at R b0 0 999 c L A W r hb hc)
  have HW2 := hid (fun (W : World) (r : RL W R b0 A) => within_no R b0 0 1099511627776 A W r hb hm)
  unfold Ends Pk.ended at HW2
  have HR := hid h
  have tok1 : True := trivial
  clear h hc hm
  go_enter Try.func55, Try.ntmps55
  go_upto_region 1 with (fail)
  have HR1 := hid (HR.out.chg (S := []) (Pk.Chg.old ((Old.refl w).alloc (.cells #[.int .i64 0, .int .i64 0] 28))) (by simp) (by simp))
  have C0 := hid (show Pk.Chg [R] w (w.alloc (.cells #[.int .i64 0, .int .i64 0] 28)) from Pk.Chg.old ((Old.refl w).alloc _))
  generalize w.alloc (.cells #[.int .i64 0, .int .i64 0] 28) = w1 at *
  clear HR
  go_wp2_with (first | (go_at_call 33; have _t := tok1; clear tok1 _t; refine (HW1.out _ HR1.out).mono ?_; rintro e w2 ⟨rfl, r2, c2⟩; have R2 := hid r2; have C2 := hid c2; clear r2 c2) | (go_at_call 33; refine (HW2.out _ R2.out).mono ?_; rintro e w3 ⟨rfl, r3, c3⟩))
  exact ⟨rfl, rfl, r3, (C0.out.trans C2.out).trans c3⟩
/-- A verdict, taken off bytes. -/
def tkV (L : List Nat) : Option ((Int × Int) × List Nat) := match tkW 0 999 L with | none => none | some (c, A) => match tkW 0 1099511627776 A with | none => none | some (m, B) => some ((c, m), B)
/-- sess.readVerdict at all bytes. -/
theorem readVerdict_any (R b0 : Nat) (L : List Nat) (w : World) (h : RL w R b0 L) (hb : b0 ≠ R) (hR : R < w.heap.size) (hb0 : b0 < w.heap.size) :
    Calls Try.prog 55 #[.pointer (some ⟨R, 0, none⟩)] w fun e w' => (∃ c m B, tkV L = some ((c, m), B) ∧ e = .returned (.agg #[.int .i64 c, .int .i64 m]) ∧ RL w' R b0 B ∧ Pk.Chg [R] w w') ∨ (tkV L = none ∧ Ends R w e w') := by
  cases h1 : tkW 0 999 L with
  | none => exact (readVerdict_no1 R b0 L w h hb hR hb0 h1).mono fun e w' q => .inr ⟨by unfold tkV; rw [h1], q⟩
  | some p =>
    obtain ⟨c, A⟩ := p
    cases h2 : tkW 0 1099511627776 A with
    | none => exact (readVerdict_no2 R b0 c L A w h hb hR hb0 h1 h2).mono fun e w' q => .inr ⟨by unfold tkV; rw [h1]; simp only; rw [h2], q⟩
    | some q =>
      obtain ⟨m, B⟩ := q
      exact (readVerdict_at R b0 c m L A B w h hb hR hb0 h1 h2).mono fun e w' q => .inl ⟨c, m, B, by unfold tkV; rw [h1]; simp only; rw [h2], q⟩
end Go.Proofs.Ytefffjlcfghniaa
