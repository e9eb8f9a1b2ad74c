/- The law ClientAll, walked; conditions: its row lies in memory. -/
import Derived.Test.YthjfkmjeppdcnaaGreatKl18
namespace Go.Proofs.YthjfkmjeppdcnaaGreat
open Go.RowKit Go.Lib
set_option linter.unusedVariables false
set_option linter.unusedSimpArgs false
set_option maxRecDepth 20000
attribute [local go_sem] run_bits run_frombits run_store_float eqF
theorem box12 {w : World} {b : Nat} {v0 v1 v2 v3 v4 v5 v6 v7 v8 v9 va vb : Value} {t : TypeId} (h : w.heap[b]? = some (.cells #[v0, v1, v2, v3, v4, v5, v6, v7, v8, v9, va, vb] t (0, 0))) : w.cell? ⟨b, 0, none⟩ = some v0 ∧ w.cell? ⟨b, 1, none⟩ = some v1 ∧ w.cell? ⟨b, 2, none⟩ = some v2 ∧ w.cell? ⟨b, 3, none⟩ = some v3 ∧ w.cell? ⟨b, 4, none⟩ = some v4 ∧ w.cell? ⟨b, 5, none⟩ = some v5 ∧ w.cell? ⟨b, 6, none⟩ = some v6 ∧ w.cell? ⟨b, 7, none⟩ = some v7 ∧ w.cell? ⟨b, 8, none⟩ = some v8 ∧ w.cell? ⟨b, 9, none⟩ = some v9 ∧ w.cell? ⟨b, 10, none⟩ = some va ∧ w.cell? ⟨b, 11, none⟩ = some vb := by
 refine ⟨?_, ?_, ?_, ?_, ?_, ?_, ?_, ?_, ?_, ?_, ?_, ?_⟩ <;> simp [World.cell?, h]
theorem KSt.open0 {w0 : World} {cb : Nat} {s : Cs} {w : World} (h : KSt w0 cb s w) (h0 : s.op.length = 0) : Calls Tryz.prog 14 #[.pointer (some ⟨cb, 0, none⟩)] w fun e w' => ∃ a c, e = .returned (.slice a 0 c) ∧ Old w w' := by
 refine h.open.mono ?_
 rintro e w' ⟨v, rfl, o, u⟩
 obtain ⟨a, c, rfl⟩ := o.len
 exact ⟨a, c, by rw [List.length_map, h0], u⟩
theorem KSt.open1 {w0 : World} {cb : Nat} {s : Cs} {w : World} (h : KSt w0 cb s w) {m : Nat} (h0 : s.op.length = m + 1) : Calls Tryz.prog 14 #[.pointer (some ⟨cb, 0, none⟩)] w fun e w' => ∃ g c x y, e = .returned (.slice (some ⟨g, 0, none⟩) (m + 1) c) ∧ (w'.cell? ⟨g, 0, none⟩ = some (.int .i64 x) ∧ w'.cell? ⟨g, m, none⟩ = some (.int .i64 y)) ∧ (1 ≤ x ∧ 1 ≤ y ∧ y - x < 8 ∧ x ≤ s.la ∧ y ≤ s.la) ∧ Old w w' := by
 refine h.open.mono ?_
 rintro e w' ⟨v, rfl, o, u⟩
 have hl : (s.op.map (·.1)).length = m + 1 := by rw [List.length_map, h0]
 obtain ⟨g, c, rfl, hx⟩ := o.at 0 (by omega)
 obtain ⟨g', c', e', hy⟩ := o.at m (by omega)
 simp only [Value.slice.injEq, Option.some.injEq, Addr.mk.injEq] at e'
 obtain ⟨⟨rfl, -⟩, -, rfl⟩ := e'
 have h1 : 0 < s.op.length := by omega
 have h2 : m < s.op.length := by omega
 have ex : (s.op.map (·.1))[0]'(by omega) = (s.op[0]).1 := by simp
 have ey : (s.op.map (·.1))[m]'(by omega) = (s.op[m]).1 := by simp
 rw [ex] at hx
 rw [ey] at hy
 have m1 := List.getElem_mem h1
 have m2 := List.getElem_mem h2
 have r1 := h.1.rg _ m1
 have r2 := h.1.rg _ m2
 have r3 := h.1.wd _ m1 _ m2
 exact ⟨g, c, _, _, by rw [hl], ⟨hx, hy⟩, ⟨r1.1, r2.1, r3, r1.2, r2.2⟩, u⟩
theorem tgt3 {s : Cs} (h : CsOk s) (hm : s.ms = [2, 5, 7]) : tgt s = 2 ∨ tgt s = 5 ∨ tgt s = 7 := by
 have := tgt_mem h
 rw [hm] at this
 simpa using this
set_option maxHeartbeats 16000000 in
theorem allLaw (v : Value) (n : Nat) (f : Nat → Opc) (w : World) (hr : OpcRow w v n f) :
    Calls Tryz.prog 4 #[v] w fun e w' => e = .returned (.bool true) ∧ Old w w' := by
 obtain ⟨hn, p, c, rfl, hc1, hc2, hc⟩ := hr
 have HR := hid hc
 clear hc
 have HAl := hid (fun (W : World) => alive_any W)
 go_enter Tryz.func4, Tryz.ntmps4
 go_upto_region 2 with (go_at_call 6; refine (KSx.new 3 _ 3 exG w _ ((Old.refl w).alloc _) (exG_row w)).mono ?_; rintro e w1 ⟨cb, FB, rfl, k, u⟩; have K1 := hid k; clear k u)
 go_upto_region 4 with (go_at_call 7; refine (HAl.out w1).mono ?_; rintro e w2 ⟨rfl, u⟩; have K2 := hid (K1.out.old u); clear u)
 have HI0 := hid (show ∃ s FB, KSx w cb FB s w2 ∧ s.ms = [2, 5, 7] ∧ s.la = ((0 : Nat) : Int) from ⟨_, _, K2.out, exG_ms, rfl⟩)
 clear K1 K2 HAl
 go_wp2
 go_loopw [4, 28] (fun gv iv wx => ∃ (k lN : Nat), k ≤ n ∧ lN ≤ k ∧ gv = .int .i64 (lN : Nat) ∧ iv = .int .i64 (k : Nat) ∧ Hid (∃ s FB, KSx w cb FB s wx ∧ s.ms = [2, 5, 7] ∧ s.la = (lN : Int))) (fun _ i _ => n - (intOf i).toNat)
 case atStart => exact ⟨0, 0, Nat.zero_le _, Nat.zero_le _, rfl, rfl, HI0⟩
 case round =>
  clear HI0
  obtain ⟨k, lN, hk, hlN, rfl, rfl, HI⟩ := hrel
  obtain ⟨s, FB, ks, hms, hla⟩ := HI.out
  have K0 := hid ks
  have HM := hid hms
  have HL := hid hla
  clear HI ks hms hla
  by_cases hlt : k < n
  ·obtain ⟨g, off, rfl, hin, hx, hq⟩ := HR.out k hlt
   have hin2 := hin.old K0.out.2.2.1
   have HX := hid hx
   have HQ := hid hq
   clear hin hx hq
   generalize f k = o at *
   obtain ⟨ok, ⟨s1, s2, s3, a1, a2, a3, n1, n2, n3, c1, c2, c3, x1, x3, f2⟩, oq, oc, on, oe, ol⟩ := o
   obtain ⟨q0, q1, q2, q3, q4, q5, q6, q7, q8, q9, qa, qb⟩ := hin2
   dsimp only at q0 q1 q2 q3 q4 q5 q6 q7 q8 q9 qa qb
   have l1' : (0 : Int) ≤ (k : Int) := by omega
   have l2' : (k : Int) < (n : Int) := by omega
   go_upto_region 8 with fail
   clear q0 q1 q2 q3 q4 q5 q6 q7 q8 q9 qa qb
   have K3 := hid (K0.out.old ((Old.refl wr).alloc (.cells #[.int .i64 ok, .int .i64 s1, .int .i64 s2, .int .i64 s3, .slice a1 n1 c1, .slice a2 n2 c2, .slice a3 n3 c3, .int .i64 oq, .int .i64 oc, .int .i64 on, .int .i64 oe, .int .i64 ol] 47)))
   have B3 := hid (alloc_at wr (.cells #[.int .i64 ok, .int .i64 s1, .int .i64 s2, .int .i64 s3, .slice a1 n1 c1, .slice a2 n2 c2, .slice a3 n3 c3, .int .i64 oq, .int .i64 oc, .int .i64 on, .int .i64 oe, .int .i64 ol] 47))
   have HX3 := hid (show Sb.Ok (⟨s1, s2, s3, a1, a2, a3, n1, n2, n3, c1, c2, c3, x1, x3, f2⟩ : Sb) (wr.alloc (.cells #[.int .i64 ok, .int .i64 s1, .int .i64 s2, .int .i64 s3, .slice a1 n1 c1, .slice a2 n2 c2, .slice a3 n3 c3, .int .i64 oq, .int .i64 oc, .int .i64 on, .int .i64 oe, .int .i64 ol] 47)) from Sb.Ok.old HX.out (K0.out.2.2.1.trans ((Old.refl wr).alloc (.cells #[.int .i64 ok, .int .i64 s1, .int .i64 s2, .int .i64 s3, .slice a1 n1 c1, .slice a2 n2 c2, .slice a3 n3 c3, .int .i64 oq, .int .i64 oc, .int .i64 on, .int .i64 oe, .int .i64 ol] 47))))
   clear K0 HX HR
   generalize wr.alloc (.cells #[.int .i64 ok, .int .i64 s1, .int .i64 s2, .int .i64 s3, .slice a1 n1 c1, .slice a2 n2 c2, .slice a3 n3 c3, .int .i64 oq, .int .i64 oc, .int .i64 on, .int .i64 oe, .int .i64 ol] 47) = w3 at *
   generalize wr.heap.size = ob at *
   obtain ⟨q0, q1, q2, q3, q4, q5, q6, q7, q8, q9, qa, qb⟩ := box12 B3.out
   clear B3
   by_cases h1 : ok = 1
   ·subst h1
    go_upto_region 10 with fail
    by_cases hz : addK s (⟨s1, s2, s3, a1, a2, a3, n1, n2, n3, c1, c2, c3, x1, x3, f2⟩ : Sb) = 0
    ·have HAd := hid (show Calls Tryz.prog 8 #[.pointer (some ⟨cb, 0, none⟩), .agg #[.int .i64 s1, .int .i64 s2, .int .i64 s3, .slice a1 n1 c1, .slice a2 n2 c2, .slice a3 n3 c3]] w3 fun e w' => e = .returned (.tuple #[.int .i64 ((lN : Int) + 1), .int .i64 0]) ∧ ∃ s' FB', KSx w cb FB' s' w' ∧ s'.ms = [2, 5, 7] ∧ s'.la = ((lN + 1 : Nat) : Int) from (K3.out.add (⟨s1, s2, s3, a1, a2, a3, n1, n2, n3, c1, c2, c3, x1, x3, f2⟩ : Sb) HX3.out).mono (by
       rintro e w' (⟨_, rfl, p1, p2, p3, z1, z2, z3, FB', kk, -⟩ | ⟨y, _⟩)
       ·exact ⟨by rw [HL.out], _, FB', kk, HM.out, by show s.la + 1 = _; rw [HL.out]; rfl⟩
       ·exact absurd hz y))
     clear hz K3 HX3 HM HL HQ
     have w1' : IntKind.i64.wrap ((lN : Int) + 1) = (lN : Int) + 1 := IntWalk.i64_in _ (by omega)
     have t1' : ((lN : Int) + 1 != (lN : Int) + 1) = false := by simp
     go_upto_region 17 with (go_at_call 8; refine HAd.out.mono ?_; rintro e w5 ⟨rfl, kk⟩; have HK := hid kk; clear kk q0 q1 q2 q3 q4 q5 q6 q7 q8 q9 qa qb)
     clear w1' t1'
     obtain ⟨s5, FB5, ks, hms, hla⟩ := HK.out
     obtain ⟨l5, hl5⟩ : ∃ l5, lN + 1 = l5 := ⟨_, rfl⟩
     have hc5 : ((lN : Nat) : Int) + 1 = ((l5 : Nat) : Int) := by omega
     rw [hl5] at hla
     rw [hc5]
     have K5 := hid ks
     have HM5 := hid hms
     have HL5 := hid hla
     have hl5k : l5 ≤ k + 1 := by omega
     have hT := tgt3 ks.1 hms
     clear ks hms hla HK
     by_cases hl0 : s5.op.length = 0
     ·go_upto_region 18 with (go_at_call 14; refine (K5.out.st.open0 hl0).mono ?_; rintro e w6 ⟨a6, c6, rfl, u6⟩; have K6 := hid (K5.out.old u6); clear u6)
      clear hl0 K5
      go_quiet (fail)
      have HT := hid hT
      clear hT
      rcases HT.out with hT | hT | hT <;> (
       have HTg := hid (fun (W : World) (u : Old w6 W) => show Calls Tryz.prog 12 #[.pointer (some ⟨cb, 0, none⟩)] W fun e w' => e = .returned (.int .i64 (tgt s5)) ∧ Old W w' from (K6.out.old u).st.target)
       rw [hT] at HTg
       clear hT
       go_wp2_with (go_at_call 12; refine (HTg.out _ (by first | exact Old.refl _ | exact (Old.refl _).drewN _)).mono ?_; rintro e w7 ⟨rfl, u7⟩; have K7 := hid (K6.out.old (Old.trans (by first | exact Old.refl _ | exact (Old.refl _).drewN _) u7)); clear u7)
       go_roundw
       (case rel => exact ⟨k + 1, l5, by omega, hl5k, rfl, by go_num, hid ⟨s5, _, K7.out, HM5.out, HL5.out⟩⟩)
       (case measure => (simp [intOf]; omega)))
     ·obtain ⟨m, hm⟩ : ∃ m, s5.op.length = m + 1 := ⟨s5.op.length - 1, by omega⟩
      clear hl0
      go_upto_region 18 with (go_at_call 14; refine (K5.out.st.open1 hm).mono ?_; rintro e w6 ⟨g6, c6, x6, y6, rfl, ⟨e0, e1⟩, r6, u6⟩; rw [HL5.out] at r6; have K6 := hid (K5.out.old u6); clear u6)
      obtain ⟨r1, r2, r3, r4, r5⟩ := r6
      have m8 : m ≤ 8 := by have := K5.out.1.few; omega
      have z1 : IntKind.i64.wrap (((m + 1 : Nat) : Int) - 1) = (m : Int) := by rw [show ((m + 1 : Nat) : Int) - 1 = (m : Int) by omega]; exact IntWalk.i64_in _ (by omega)
      have z1b : IntKind.i64.wrap ((m : Int) + 1 - 1) = (m : Int) := by rw [show (m : Int) + 1 - 1 = (m : Int) by omega]; exact IntWalk.i64_in _ (by omega)
      have z2 : IntKind.i64.wrap (y6 - x6) = y6 - x6 := IntWalk.i64_in _ (by omega)
      have z3 : decide (y6 - x6 ≥ 8) = false := decide_eq_false (by omega)
      have z3b : decide (8 ≤ y6 - x6) = false := decide_eq_false (by omega)
      have z4 : decide (y6 > (l5 : Int)) = false := decide_eq_false (by omega)
      have z4b : decide ((l5 : Int) < y6) = false := decide_eq_false (by omega)
      have z5 : decide (((m + 1 : Nat) : Int) > 0) = true := decide_eq_true (by omega)
      have z5b : decide ((0 : Int) < (m : Int) + 1) = true := decide_eq_true (by omega)
      have z6 : (m : Int) < ((m + 1 : Nat) : Int) := by omega
      have z6b : (m : Int) < (m : Int) + 1 := by omega
      have z7 : (0 : Int) < ((m + 1 : Nat) : Int) := by omega
      have z7b : (0 : Int) < (m : Int) + 1 := by omega
      have z8 : (0 : Int) ≤ (m : Int) := by omega
      clear K5 hm r1 r2 r3 r4 r5
      go_quiet (fail)
      clear z1 z1b z2 z3 z3b z4 z4b z5 z5b z6 z6b z7 z7b z8 e0 e1
      have HT := hid hT
      clear hT
      rcases HT.out with hT | hT | hT <;> (
       have HTg := hid (fun (W : World) (u : Old w6 W) => show Calls Tryz.prog 12 #[.pointer (some ⟨cb, 0, none⟩)] W fun e w' => e = .returned (.int .i64 (tgt s5)) ∧ Old W w' from (K6.out.old u).st.target)
       rw [hT] at HTg
       clear hT
       go_wp2_with (go_at_call 12; refine (HTg.out _ (by first | exact Old.refl _ | exact (Old.refl _).drewN _)).mono ?_; rintro e w7 ⟨rfl, u7⟩; have K7 := hid (K6.out.old (Old.trans (by first | exact Old.refl _ | exact (Old.refl _).drewN _) u7)); clear u7)
       go_roundw
       (case rel => exact ⟨k + 1, l5, by omega, hl5k, rfl, by go_num, hid ⟨s5, _, K7.out, HM5.out, HL5.out⟩⟩)
       (case measure => (simp [intOf]; omega)))
    ·obtain ⟨kc, hkc⟩ : ∃ kc, addK s (⟨s1, s2, s3, a1, a2, a3, n1, n2, n3, c1, c2, c3, x1, x3, f2⟩ : Sb) = kc := ⟨_, rfl⟩
     have HAd := hid (show Calls Tryz.prog 8 #[.pointer (some ⟨cb, 0, none⟩), .agg #[.int .i64 s1, .int .i64 s2, .int .i64 s3, .slice a1 n1 c1, .slice a2 n2 c2, .slice a3 n3 c3]] w3 fun e w' => e = .returned (.tuple #[.int .i64 0, .int .i64 kc]) ∧ ∃ s' FB', KSx w cb FB' s' w' ∧ s'.ms = [2, 5, 7] ∧ s'.la = ((lN : Nat) : Int) from (K3.out.add (⟨s1, s2, s3, a1, a2, a3, n1, n2, n3, c1, c2, c3, x1, x3, f2⟩ : Sb) HX3.out).mono (by
      rintro e w' (⟨y, _⟩ | ⟨_, rfl, kk, -⟩)
      ·exact absurd y hz
      ·exact ⟨by rw [hkc], _, FB, kk, HM.out, HL.out⟩))
     rw [hkc] at hz
     have t1' : (kc == 0) = false := beq_eq_false_iff_ne.2 hz
     clear hz hkc K3 HX3 HM HL HQ
     go_upto_region 17 with (go_at_call 8; refine HAd.out.mono ?_; rintro e w5 ⟨rfl, kk⟩; have HK := hid kk; clear kk q0 q1 q2 q3 q4 q5 q6 q7 q8 q9 qa qb)
     clear t1'
     obtain ⟨s5, FB5, ks, hms, hla⟩ := HK.out
     obtain ⟨l5, rfl⟩ : ∃ l5, l5 = lN := ⟨_, rfl⟩
     have K5 := hid ks
     have HM5 := hid hms
     have HL5 := hid hla
     have hl5k : l5 ≤ k + 1 := by omega
     have hT := tgt3 ks.1 hms
     clear ks hms hla HK
     by_cases hl0 : s5.op.length = 0
     ·go_upto_region 18 with (go_at_call 14; refine (K5.out.st.open0 hl0).mono ?_; rintro e w6 ⟨a6, c6, rfl, u6⟩; have K6 := hid (K5.out.old u6); clear u6)
      clear hl0 K5
      go_quiet (fail)
      have HT := hid hT
      clear hT
      rcases HT.out with hT | hT | hT <;> (
       have HTg := hid (fun (W : World) (u : Old w6 W) => show Calls Tryz.prog 12 #[.pointer (some ⟨cb, 0, none⟩)] W fun e w' => e = .returned (.int .i64 (tgt s5)) ∧ Old W w' from (K6.out.old u).st.target)
       rw [hT] at HTg
       clear hT
       go_wp2_with (go_at_call 12; refine (HTg.out _ (by first | exact Old.refl _ | exact (Old.refl _).drewN _)).mono ?_; rintro e w7 ⟨rfl, u7⟩; have K7 := hid (K6.out.old (Old.trans (by first | exact Old.refl _ | exact (Old.refl _).drewN _) u7)); clear u7)
       go_roundw
       (case rel => exact ⟨k + 1, l5, by omega, hl5k, rfl, by go_num, hid ⟨s5, _, K7.out, HM5.out, HL5.out⟩⟩)
       (case measure => (simp [intOf]; omega)))
     ·obtain ⟨m, hm⟩ : ∃ m, s5.op.length = m + 1 := ⟨s5.op.length - 1, by omega⟩
      clear hl0
      go_upto_region 18 with (go_at_call 14; refine (K5.out.st.open1 hm).mono ?_; rintro e w6 ⟨g6, c6, x6, y6, rfl, ⟨e0, e1⟩, r6, u6⟩; rw [HL5.out] at r6; have K6 := hid (K5.out.old u6); clear u6)
      obtain ⟨r1, r2, r3, r4, r5⟩ := r6
      have m8 : m ≤ 8 := by have := K5.out.1.few; omega
      have z1 : IntKind.i64.wrap (((m + 1 : Nat) : Int) - 1) = (m : Int) := by rw [show ((m + 1 : Nat) : Int) - 1 = (m : Int) by omega]; exact IntWalk.i64_in _ (by omega)
      have z1b : IntKind.i64.wrap ((m : Int) + 1 - 1) = (m : Int) := by rw [show (m : Int) + 1 - 1 = (m : Int) by omega]; exact IntWalk.i64_in _ (by omega)
      have z2 : IntKind.i64.wrap (y6 - x6) = y6 - x6 := IntWalk.i64_in _ (by omega)
      have z3 : decide (y6 - x6 ≥ 8) = false := decide_eq_false (by omega)
      have z3b : decide (8 ≤ y6 - x6) = false := decide_eq_false (by omega)
      have z4 : decide (y6 > (l5 : Int)) = false := decide_eq_false (by omega)
      have z4b : decide ((l5 : Int) < y6) = false := decide_eq_false (by omega)
      have z5 : decide (((m + 1 : Nat) : Int) > 0) = true := decide_eq_true (by omega)
      have z5b : decide ((0 : Int) < (m : Int) + 1) = true := decide_eq_true (by omega)
      have z6 : (m : Int) < ((m + 1 : Nat) : Int) := by omega
      have z6b : (m : Int) < (m : Int) + 1 := by omega
      have z7 : (0 : Int) < ((m + 1 : Nat) : Int) := by omega
      have z7b : (0 : Int) < (m : Int) + 1 := by omega
      have z8 : (0 : Int) ≤ (m : Int) := by omega
      clear K5 hm r1 r2 r3 r4 r5
      go_quiet (fail)
      clear z1 z1b z2 z3 z3b z4 z4b z5 z5b z6 z6b z7 z7b z8 e0 e1
      have HT := hid hT
      clear hT
      rcases HT.out with hT | hT | hT <;> (
       have HTg := hid (fun (W : World) (u : Old w6 W) => show Calls Tryz.prog 12 #[.pointer (some ⟨cb, 0, none⟩)] W fun e w' => e = .returned (.int .i64 (tgt s5)) ∧ Old W w' from (K6.out.old u).st.target)
       rw [hT] at HTg
       clear hT
       go_wp2_with (go_at_call 12; refine (HTg.out _ (by first | exact Old.refl _ | exact (Old.refl _).drewN _)).mono ?_; rintro e w7 ⟨rfl, u7⟩; have K7 := hid (K6.out.old (Old.trans (by first | exact Old.refl _ | exact (Old.refl _).drewN _) u7)); clear u7)
       go_roundw
       (case rel => exact ⟨k + 1, l5, by omega, hl5k, rfl, by go_num, hid ⟨s5, _, K7.out, HM5.out, HL5.out⟩⟩)
       (case measure => (simp [intOf]; omega)))
   ·have t1' : (ok == 1) = false := beq_eq_false_iff_ne.2 h1
    by_cases h2 : ok = 2
    ·subst h2
     have HHd := hid ((K3.out.heard oq oc on oe ol HQ.out).mono (show ∀ e w', _ → e = .returned (.tuple #[]) ∧ ∃ s' FB', KSx w cb FB' s' w' ∧ s'.ms = [2, 5, 7] ∧ s'.la = ((lN : Nat) : Int) from by
      rintro e w' ⟨kx, FB', rfl, -, kk, -⟩
      exact ⟨rfl, _, FB', kk, by rw [(heardC_ms s oq oc on oe kx).1]; exact HM.out, by rw [(heardC_ms s oq oc on oe kx).2]; exact HL.out⟩))
     clear K3 HX3 HM HL HQ h1 t1'
     go_upto_region 17 with (go_at_call 11; refine HHd.out.mono ?_; rintro e w5 ⟨rfl, kk⟩; have HK := hid kk; clear kk q0 q1 q2 q3 q4 q5 q6 q7 q8 q9 qa qb)
     obtain ⟨s5, FB5, ks, hms, hla⟩ := HK.out
     obtain ⟨l5, rfl⟩ : ∃ l5, l5 = lN := ⟨_, rfl⟩
     have K5 := hid ks
     have HM5 := hid hms
     have HL5 := hid hla
     have hl5k : l5 ≤ k + 1 := by omega
     have hT := tgt3 ks.1 hms
     clear ks hms hla HK
     by_cases hl0 : s5.op.length = 0
     ·go_upto_region 18 with (go_at_call 14; refine (K5.out.st.open0 hl0).mono ?_; rintro e w6 ⟨a6, c6, rfl, u6⟩; have K6 := hid (K5.out.old u6); clear u6)
      clear hl0 K5
      go_quiet (fail)
      have HT := hid hT
      clear hT
      rcases HT.out with hT | hT | hT <;> (
       have HTg := hid (fun (W : World) (u : Old w6 W) => show Calls Tryz.prog 12 #[.pointer (some ⟨cb, 0, none⟩)] W fun e w' => e = .returned (.int .i64 (tgt s5)) ∧ Old W w' from (K6.out.old u).st.target)
       rw [hT] at HTg
       clear hT
       go_wp2_with (go_at_call 12; refine (HTg.out _ (by first | exact Old.refl _ | exact (Old.refl _).drewN _)).mono ?_; rintro e w7 ⟨rfl, u7⟩; have K7 := hid (K6.out.old (Old.trans (by first | exact Old.refl _ | exact (Old.refl _).drewN _) u7)); clear u7)
       go_roundw
       (case rel => exact ⟨k + 1, l5, by omega, hl5k, rfl, by go_num, hid ⟨s5, _, K7.out, HM5.out, HL5.out⟩⟩)
       (case measure => (simp [intOf]; omega)))
     ·obtain ⟨m, hm⟩ : ∃ m, s5.op.length = m + 1 := ⟨s5.op.length - 1, by omega⟩
      clear hl0
      go_upto_region 18 with (go_at_call 14; refine (K5.out.st.open1 hm).mono ?_; rintro e w6 ⟨g6, c6, x6, y6, rfl, ⟨e0, e1⟩, r6, u6⟩; rw [HL5.out] at r6; have K6 := hid (K5.out.old u6); clear u6)
      obtain ⟨r1, r2, r3, r4, r5⟩ := r6
      have m8 : m ≤ 8 := by have := K5.out.1.few; omega
      have z1 : IntKind.i64.wrap (((m + 1 : Nat) : Int) - 1) = (m : Int) := by rw [show ((m + 1 : Nat) : Int) - 1 = (m : Int) by omega]; exact IntWalk.i64_in _ (by omega)
      have z1b : IntKind.i64.wrap ((m : Int) + 1 - 1) = (m : Int) := by rw [show (m : Int) + 1 - 1 = (m : Int) by omega]; exact IntWalk.i64_in _ (by omega)
      have z2 : IntKind.i64.wrap (y6 - x6) = y6 - x6 := IntWalk.i64_in _ (by omega)
      have z3 : decide (y6 - x6 ≥ 8) = false := decide_eq_false (by omega)
      have z3b : decide (8 ≤ y6 - x6) = false := decide_eq_false (by omega)
      have z4 : decide (y6 > (l5 : Int)) = false := decide_eq_false (by omega)
      have z4b : decide ((l5 : Int) < y6) = false := decide_eq_false (by omega)
      have z5 : decide (((m + 1 : Nat) : Int) > 0) = true := decide_eq_true (by omega)
      have z5b : decide ((0 : Int) < (m : Int) + 1) = true := decide_eq_true (by omega)
      have z6 : (m : Int) < ((m + 1 : Nat) : Int) := by omega
      have z6b : (m : Int) < (m : Int) + 1 := by omega
      have z7 : (0 : Int) < ((m + 1 : Nat) : Int) := by omega
      have z7b : (0 : Int) < (m : Int) + 1 := by omega
      have z8 : (0 : Int) ≤ (m : Int) := by omega
      clear K5 hm r1 r2 r3 r4 r5
      go_quiet (fail)
      clear z1 z1b z2 z3 z3b z4 z4b z5 z5b z6 z6b z7 z7b z8 e0 e1
      have HT := hid hT
      clear hT
      rcases HT.out with hT | hT | hT <;> (
       have HTg := hid (fun (W : World) (u : Old w6 W) => show Calls Tryz.prog 12 #[.pointer (some ⟨cb, 0, none⟩)] W fun e w' => e = .returned (.int .i64 (tgt s5)) ∧ Old W w' from (K6.out.old u).st.target)
       rw [hT] at HTg
       clear hT
       go_wp2_with (go_at_call 12; refine (HTg.out _ (by first | exact Old.refl _ | exact (Old.refl _).drewN _)).mono ?_; rintro e w7 ⟨rfl, u7⟩; have K7 := hid (K6.out.old (Old.trans (by first | exact Old.refl _ | exact (Old.refl _).drewN _) u7)); clear u7)
       go_roundw
       (case rel => exact ⟨k + 1, l5, by omega, hl5k, rfl, by go_num, hid ⟨s5, _, K7.out, HM5.out, HL5.out⟩⟩)
       (case measure => (simp [intOf]; omega)))
    ·have t2' : (ok == 2) = false := beq_eq_false_iff_ne.2 h2
     go_upto_region 17 with fail
     clear q0 q1 q2 q3 q4 q5 q6 q7 q8 q9 qa qb t1' t2' h1 h2 HX3 HQ
     have ks := K3.out
     have hms := HM.out
     have hla := HL.out
     have HK := hid trivial
     obtain ⟨s5, rfl⟩ : ∃ z, z = s := ⟨_, rfl⟩
     obtain ⟨w5, rfl⟩ : ∃ z, z = w3 := ⟨_, rfl⟩
     obtain ⟨l5, rfl⟩ : ∃ l5, l5 = lN := ⟨_, rfl⟩
     clear K3 HM HL
     have K5 := hid ks
     have HM5 := hid hms
     have HL5 := hid hla
     have hl5k : l5 ≤ k + 1 := by omega
     have hT := tgt3 ks.1 hms
     clear ks hms hla HK
     by_cases hl0 : s5.op.length = 0
     ·go_upto_region 18 with (go_at_call 14; refine (K5.out.st.open0 hl0).mono ?_; rintro e w6 ⟨a6, c6, rfl, u6⟩; have K6 := hid (K5.out.old u6); clear u6)
      clear hl0 K5
      go_quiet (fail)
      have HT := hid hT
      clear hT
      rcases HT.out with hT | hT | hT <;> (
       have HTg := hid (fun (W : World) (u : Old w6 W) => show Calls Tryz.prog 12 #[.pointer (some ⟨cb, 0, none⟩)] W fun e w' => e = .returned (.int .i64 (tgt s5)) ∧ Old W w' from (K6.out.old u).st.target)
       rw [hT] at HTg
       clear hT
       go_wp2_with (go_at_call 12; refine (HTg.out _ (by first | exact Old.refl _ | exact (Old.refl _).drewN _)).mono ?_; rintro e w7 ⟨rfl, u7⟩; have K7 := hid (K6.out.old (Old.trans (by first | exact Old.refl _ | exact (Old.refl _).drewN _) u7)); clear u7)
       go_roundw
       (case rel => exact ⟨k + 1, l5, by omega, hl5k, rfl, by go_num, hid ⟨s5, _, K7.out, HM5.out, HL5.out⟩⟩)
       (case measure => (simp [intOf]; omega)))
     ·obtain ⟨m, hm⟩ : ∃ m, s5.op.length = m + 1 := ⟨s5.op.length - 1, by omega⟩
      clear hl0
      go_upto_region 18 with (go_at_call 14; refine (K5.out.st.open1 hm).mono ?_; rintro e w6 ⟨g6, c6, x6, y6, rfl, ⟨e0, e1⟩, r6, u6⟩; rw [HL5.out] at r6; have K6 := hid (K5.out.old u6); clear u6)
      obtain ⟨r1, r2, r3, r4, r5⟩ := r6
      have m8 : m ≤ 8 := by have := K5.out.1.few; omega
      have z1 : IntKind.i64.wrap (((m + 1 : Nat) : Int) - 1) = (m : Int) := by rw [show ((m + 1 : Nat) : Int) - 1 = (m : Int) by omega]; exact IntWalk.i64_in _ (by omega)
      have z1b : IntKind.i64.wrap ((m : Int) + 1 - 1) = (m : Int) := by rw [show (m : Int) + 1 - 1 = (m : Int) by omega]; exact IntWalk.i64_in _ (by omega)
      have z2 : IntKind.i64.wrap (y6 - x6) = y6 - x6 := IntWalk.i64_in _ (by omega)
      have z3 : decide (y6 - x6 ≥ 8) = false := decide_eq_false (by omega)
      have z3b : decide (8 ≤ y6 - x6) = false := decide_eq_false (by omega)
      have z4 : decide (y6 > (l5 : Int)) = false := decide_eq_false (by omega)
      have z4b : decide ((l5 : Int) < y6) = false := decide_eq_false (by omega)
      have z5 : decide (((m + 1 : Nat) : Int) > 0) = true := decide_eq_true (by omega)
      have z5b : decide ((0 : Int) < (m : Int) + 1) = true := decide_eq_true (by omega)
      have z6 : (m : Int) < ((m + 1 : Nat) : Int) := by omega
      have z6b : (m : Int) < (m : Int) + 1 := by omega
      have z7 : (0 : Int) < ((m + 1 : Nat) : Int) := by omega
      have z7b : (0 : Int) < (m : Int) + 1 := by omega
      have z8 : (0 : Int) ≤ (m : Int) := by omega
      clear K5 hm r1 r2 r3 r4 r5
      go_quiet (fail)
      clear z1 z1b z2 z3 z3b z4 z4b z5 z5b z6 z6b z7 z7b z8 e0 e1
      have HT := hid hT
      clear hT
      rcases HT.out with hT | hT | hT <;> (
       have HTg := hid (fun (W : World) (u : Old w6 W) => show Calls Tryz.prog 12 #[.pointer (some ⟨cb, 0, none⟩)] W fun e w' => e = .returned (.int .i64 (tgt s5)) ∧ Old W w' from (K6.out.old u).st.target)
       rw [hT] at HTg
       clear hT
       go_wp2_with (go_at_call 12; refine (HTg.out _ (by first | exact Old.refl _ | exact (Old.refl _).drewN _)).mono ?_; rintro e w7 ⟨rfl, u7⟩; have K7 := hid (K6.out.old (Old.trans (by first | exact Old.refl _ | exact (Old.refl _).drewN _) u7)); clear u7)
       go_roundw
       (case rel => exact ⟨k + 1, l5, by omega, hl5k, rfl, by go_num, hid ⟨s5, _, K7.out, HM5.out, HL5.out⟩⟩)
       (case measure => (simp [intOf]; omega)))
  ·clear HR
   have hlk : lN ≤ 977343669134 := by omega
   obtain ⟨L1, hL1⟩ : ∃ L1, lN + 1 = L1 := ⟨_, rfl⟩
   have hmk := fun (W : World) => mkI L1 (by omega) W
   have w1' : IntKind.i64.wrap ((lN : Int) + 1) = (L1 : Int) := by rw [show (lN : Int) + 1 = (L1 : Int) by omega]; exact IntWalk.i64_in _ (by omega)
   have HL1 := hid hL1
   clear hL1
   go_upto_region 25 with fail
   clear hmk w1'
   have HW := hid (WRow.new wr L1 3 _ rfl _ rfl)
   have K4 := hid (K0.out.old HW.out.2)
   have HF := hid (show ∀ g ∈ FB, g ∉ [wr.heap.size] from fun g q z => by have := (K0.out.lt g q).2; simp at z; omega)
   have HGb := hid (show w.heap.size ≤ wr.heap.size from K0.out.2.2.1.size)
   have HW4 := hid HW.out.1
   clear HW K0
   generalize wr.alloc (.cells (madeCells #[.int .i64 0] L1) 3) = w4 at *
   generalize wr.heap.size = gb at *
   have HGl := hid HW4.out.lt
   obtain ⟨KL, hKL⟩ : ∃ KL, s.op.map (·.1) = KL := ⟨_, rfl⟩
   have HKL := hid hKL
   obtain ⟨m1, hm1⟩ : ∃ m1, KL.length = m1 := ⟨_, rfl⟩
   have HM1 := hid hm1
   have m18 : m1 ≤ 8 := by have := K4.out.1.few; rw [← hm1, ← hKL, List.length_map]; exact this
   have HKL8 := hid (show KL.length ≤ 8 from by rw [hm1]; exact m18)
   go_upto_region 26 with (go_at_call 14; refine K4.out.st.open.mono ?_; rintro e w5 ⟨v5, rfl, o5, u5⟩; rw [hKL] at o5; obtain ⟨a5, c5, rfl⟩ := o5.len; rw [hm1]; rw [hm1] at o5; have O5 := hid o5; have U5 := hid u5; clear o5 u5)
   have K5 := hid (K4.out.old U5.out)
   have HI1 := hid (show ∃ W, WRow w5 gb W 3 ∧ Cnt W lN (KL.take 0) ∧ Chg [gb] w5 w5 from ⟨_, HW4.out.old U5.out, by rw [← HL1.out]; exact Cnt.zero lN, Chg.refl _ _⟩)
   clear K4 HW4 hm1 U5 hKL
   go_wp2
   go_loopw [109] (fun iv wx => ∃ j : Nat, j ≤ m1 ∧ iv = .int .i64 (j : Nat) ∧ Hid (∃ W, WRow wx gb W 3 ∧ Cnt W lN (KL.take j) ∧ Chg [gb] w5 wx)) (fun j _ => m1 - (intOf j).toNat)
   case atStart => exact ⟨0, Nat.zero_le _, rfl, HI1⟩
   case round =>
    clear HI1
    obtain ⟨j, hj, rfl, HI⟩ := hrel
    obtain ⟨W, hW, hCn, hCh⟩ := HI.out
    have RW := hid hW
    have RN := hid hCn
    have RC := hid hCh
    clear HI hW hCn hCh
    by_cases hjl : j < m1
    ·have hjl' : j < KL.length := by rw [HM1.out]; exact hjl
     have o5' : OwnN w4.heap.size w5 (.slice a5 KL.length c5) KL := by rw [HM1.out]; exact O5.out
     obtain ⟨g, cap, e5, hx⟩ := o5'.at j hjl'
     have hgl : w4.heap.size ≤ g := (World.ownsRow.lt (show w5.ownsRow w4.heap.size 2 1 _ _ (ils _) from o5') g (by rw [e5]; rfl)).1
     simp only [Value.slice.injEq] at e5
     obtain ⟨rfl, -, rfl⟩ := e5
     have hr : 1 ≤ KL[j] ∧ KL[j] ≤ (lN : Int) := by
      have hmem := List.getElem_mem hjl'
      obtain ⟨p0, hp0, ep⟩ := List.mem_map.1 (show KL[j] ∈ s.op.map (·.1) from by rw [HKL.out]; exact hmem)
      have := K5.out.1.rg p0 hp0
      rw [HL.out] at this
      rw [← ep]
      exact this
     obtain ⟨m, hm⟩ : ∃ m : Nat, KL[j] = (m : Int) := ⟨(KL[j]).toNat, by omega⟩
     have HTk := hid (show KL.take (j + 1) = KL.take j ++ [(m : Int)] from by rw [take_one _ _ hjl', hm])
     rw [hm] at hx hr
     have hxx := RC.out.cell hx (by simp; have := HGl.out; omega)
     have hmL : m ≤ lN := by omega
     obtain ⟨wc, wf⟩ := RW.out.cell m (by rw [RN.out.1]; omega)
     obtain ⟨y, hy⟩ : ∃ y, W.getD m 0 = y := ⟨_, rfl⟩
     rw [hy] at wc
     have hyr : 0 ≤ y ∧ y ≤ 8 := by
      have h1 := RN.out.2 m hmL
      have h2 : (KL.take j).count ((m : Nat) : Int) ≤ j := Nat.le_trans List.count_le_length (by rw [List.length_take]; omega)
      rw [← hy, h1]; omega
     have l1' : (0 : Int) ≤ (j : Int) := by omega
     have l2' : (j : Int) < (m1 : Int) := by omega
     have l3' : (0 : Int) ≤ (m : Int) := by omega
     have l4' : (m : Int) < (L1 : Int) := by have := HL1.out; omega
     have wy : IntKind.i64.wrap (y + 1) = y + 1 := IntWalk.i64_in _ (by omega)
     have HRel := hid (show ∃ W', WRow (wr.setCell ⟨gb, m, none⟩ (.int .i64 (y + 1))) gb W' 3 ∧ Cnt W' lN (KL.take (j + 1)) ∧ Chg [gb] w5 (wr.setCell ⟨gb, m, none⟩ (.int .i64 (y + 1))) from ⟨_, RW.out.set m (y + 1), by rw [HTk.out, ← hy]; exact RN.out.step m hmL, RC.out.trans (Chg.set wr ⟨gb, m, none⟩ _ (by simp))⟩)
     clear hx hr hm hgl o5' hjl' hy HTk hmL
     go_wp2
     go_roundw
     (case rel => exact ⟨j + 1, by omega, by go_num, HRel⟩)
     (case measure => (simp [intOf]; omega))
    ·have hjm : j = m1 := by omega
     subst hjm
     have RN2 := hid (show Cnt W lN KL from by have := RN.out; rw [List.take_of_length_le (by rw [HM1.out]; exact Nat.le_refl _)] at this; exact this)
     have K6 := hid (K5.out.chg RC.out HF.out (Old.below K5.out.2.2.1 (RC.out.below w.heap.size (fun k q => by simp at q; have := HGb.out; omega) K5.out.2.2.1.size)))
     have RW2 := RW
     clear hjl K5 RN RC O5 HM1 RW
     have HGl6 := hid RW2.out.lt
     obtain ⟨m2, hm2⟩ : ∃ m2, s.rs.length = m2 := ⟨_, rfl⟩
     have HM2 := hid hm2
     have m28 : m2 ≤ lN := by have h1 := K6.out.1.ct; rw [HL.out, hm2] at h1; omega
     go_upto_region 31 with (go_at_call 13; refine K6.out.st.results.mono ?_; rintro e w7 ⟨v7, rfl, o7, u7⟩; obtain ⟨a7, c7, rfl⟩ := OwnR.len o7; rw [hm2]; have O7 := hid o7; have U7 := hid u7; clear o7 u7)
     have K7 := hid (K6.out.old U7.out)
     have HI2 := hid (show ∃ W, WRow w7 gb W 3 ∧ Cnt W lN (KL ++ (s.rs.map (·.1)).take 0) ∧ Chg [gb] w7 w7 from ⟨W, RW2.out.old U7.out, by rw [List.take_zero, List.append_nil]; exact RN2.out, Chg.refl _ _⟩)
     have HGl7 := hid (show gb < wr.heap.size from HGl6.out)
     obtain ⟨wz, hwz⟩ : ∃ z, z = wr := ⟨_, rfl⟩
     subst hwz
     clear K6 RW2 RN2 hm2 U7 HGl6 HGl
     go_wp2
     go_loopw [123] (fun iv wx => ∃ j : Nat, j ≤ m2 ∧ iv = .int .i64 (j : Nat) ∧ Hid (∃ W, WRow wx gb W 3 ∧ Cnt W lN (KL ++ (s.rs.map (·.1)).take j) ∧ Chg [gb] w7 wx)) (fun j _ => m2 - (intOf j).toNat)
     case atStart => exact ⟨0, Nat.zero_le _, rfl, HI2⟩
     case round =>
      clear HI2
      obtain ⟨j, hj, rfl, HI⟩ := hrel
      obtain ⟨W, hW, hCn, hCh⟩ := HI.out
      have RW := hid hW
      have RN := hid hCn
      have RC := hid hCh
      clear HI hW hCn hCh
      by_cases hjl : j < m2
      ·have hjl' : j < s.rs.length := by rw [HM2.out]; exact hjl
       obtain ⟨g, cap, e7, hx0, hx1, hx2⟩ := O7.out.at j hjl'
       have hgl : wz.heap.size ≤ g := (World.ownsRow.lt (show w7.ownsRow wz.heap.size 51 3 _ _ (rcs _) from O7.out) g (by rw [e7]; rfl)).1
       simp only [Value.slice.injEq] at e7
       obtain ⟨rfl, -, rfl⟩ := e7
       have hr : 1 ≤ s.rs[j].1 ∧ s.rs[j].1 ≤ (lN : Int) := by
        have := K7.out.2.1.r s.rs[j].1 (List.mem_append_right _ (List.mem_map.2 ⟨_, List.getElem_mem hjl', rfl⟩))
        rw [HL.out] at this
        exact this
       obtain ⟨m, hm⟩ : ∃ m : Nat, s.rs[j].1 = (m : Int) := ⟨(s.rs[j].1).toNat, by omega⟩
       have HTk := hid (show KL ++ (s.rs.map (·.1)).take (j + 1) = (KL ++ (s.rs.map (·.1)).take j) ++ [(m : Int)] from by
        rw [take_one _ _ (by rw [List.length_map]; exact hjl'), List.append_assoc, List.getElem_map, hm])
       rw [hm] at hx0 hr
       have hne : ∀ i, (⟨g, i, none⟩ : Addr).block ∉ [gb] := fun i => by simp; have := HGl7.out; omega
       have hy0 := RC.out.cell hx0 (hne _)
       have hy1 := RC.out.cell hx1 (hne _)
       have hy2 := RC.out.cell hx2 (hne _)
       have hmL : m ≤ lN := by omega
       generalize s.rs[j].2.1 = r1 at *
       generalize s.rs[j].2.2 = r2 at *
       obtain ⟨wc, wf⟩ := (RW.out.old ((Old.refl wr).alloc (.cells #[.int .i64 (m : Nat), .int .i64 r1, .int .i64 r2] 51))).cell m (by rw [RN.out.1]; omega)
       obtain ⟨y, hy⟩ : ∃ y, W.getD m 0 = y := ⟨_, rfl⟩
       rw [hy] at wc
       have hyr : 0 ≤ y ∧ y ≤ 1099511627776 := by
        have h1 := RN.out.2 m hmL
        have h2 : (KL ++ (s.rs.map (·.1)).take j).count ((m : Nat) : Int) ≤ _ := List.count_le_length
        have h3 := K7.out.1.few
        rw [List.length_append, List.length_take, List.length_map] at h2
        have hk8 := HKL8.out
        rw [← hy, h1]; omega
       have B9 := hid (alloc_at wr (.cells #[.int .i64 (m : Nat), .int .i64 r1, .int .i64 r2] 51))
       have HRel := hid (show ∃ W', WRow ((wr.alloc (.cells #[.int .i64 (m : Nat), .int .i64 r1, .int .i64 r2] 51)).setCell ⟨gb, m, none⟩ (.int .i64 (y + 1))) gb W' 3 ∧ Cnt W' lN (KL ++ (s.rs.map (·.1)).take (j + 1)) ∧ Chg [gb] w7 ((wr.alloc (.cells #[.int .i64 (m : Nat), .int .i64 r1, .int .i64 r2] 51)).setCell ⟨gb, m, none⟩ (.int .i64 (y + 1))) from ⟨_, (RW.out.old ((Old.refl wr).alloc _)).set m (y + 1), by rw [HTk.out, ← hy]; exact RN.out.step m hmL, (RC.out.trans (Chg.ofOld ((Old.refl wr).alloc _))).trans (Chg.set _ ⟨gb, m, none⟩ _ (by simp))⟩)
       have l1' : (0 : Int) ≤ (j : Int) := by omega
       have l2' : (j : Int) < (m2 : Int) := by omega
       have l3' : (0 : Int) ≤ (m : Int) := by omega
       have l4' : (m : Int) < (L1 : Int) := by have := HL1.out; omega
       have d1' : decide ((m : Int) < 1) = false := decide_eq_false (by omega)
       have d2' : decide ((m : Int) > (lN : Int)) = false := decide_eq_false (by omega)
       have d3' : decide ((lN : Int) < (m : Int)) = false := decide_eq_false (by omega)
       have d4' : ¬ lN < m := by omega
       have d5' : decide (lN < m) = false := decide_eq_false (by omega)
       have wy : IntKind.i64.wrap (y + 1) = y + 1 := IntWalk.i64_in _ (by omega)
       clear hx0 hx1 hx2 hr hm hgl hjl' hy HTk hmL hne
       go_upto_region 33 with fail
       clear hy0 hy1 hy2
       generalize wr.alloc (.cells #[.int .i64 (m : Nat), .int .i64 r1, .int .i64 r2] 51) = w9 at *
       generalize wr.heap.size = xb at *
       have y0 : w9.cell? ⟨xb, 0, none⟩ = some (.int .i64 (m : Nat)) := by rw [Go.Joins.cell_of_block B9.out]; rfl
       go_wp2
       exact ⟨⟨j + 1, by omega, by go_num, HRel⟩, by simp [intOf]; omega⟩
      ·have hjm : j = m2 := by omega
       subst hjm
       have RN2 := hid (show Cnt W lN (nums s) from by have := RN.out; rw [← HKL.out, List.take_of_length_le (by rw [List.length_map, HM2.out]; exact Nat.le_refl _)] at this; exact this)
       have H1 := hid (fun (i : Nat) (hi : i < lN) => show wr.cell? ⟨gb, 1 + i, none⟩ = some (.int .i64 1) from by
        have h1 := (RW.out.cell (1 + i) (by rw [RN2.out.1]; omega)).1
        rw [RN2.out.2 (1 + i) (by omega), K7.out.2.1.c _ (by omega) (by rw [HL.out]; omega)] at h1
        exact h1)
       have UE := hid (Old.below K7.out.2.2.1 (RC.out.below w.heap.size (fun k q => by simp at q; have := HGb.out; omega) K7.out.2.2.1.size))
       clear hjl K7 RN RC RW O7 HM2 RN2 HF HGb HGl7
       by_cases hz : lN = 0
       ·have hone : L1 = 1 := by have := HL1.out; omega
        subst hone
        clear H1
        go_upto_region 38 with fail
        go_wp2
        go_loopw [147] (fun iv wx => iv = .int .i64 0 ∧ Old wr wx) (fun _ _ => 0)
        case atStart => exact ⟨rfl, Old.refl _⟩
        case round =>
         obtain ⟨rfl, hup⟩ := hrel
         go_wp2
         go_ret
         exact ⟨rfl, UE.out.trans hup⟩
       ·have h1' : (1 : Int) ≤ (L1 : Int) := by have := HL1.out; omega
        have h2' : 1 ≤ L1 := by have := HL1.out; omega
        have h3' : ¬ L1 = 1 := by have := HL1.out; omega
        have h8' : L1 - 1 = lN := by have := HL1.out; omega
        clear hz
        go_upto_region 38 with fail
        clear h1' h2' h3' h8'
        go_wp2
        go_loopw [147] (fun iv wx => ∃ i : Nat, i ≤ lN ∧ iv = .int .i64 (i : Nat) ∧ Old wr wx) (fun i _ => lN - (intOf i).toNat)
        case atStart => exact ⟨0, Nat.zero_le _, rfl, Old.refl _⟩
        case round =>
         obtain ⟨i, hi, rfl, hup⟩ := hrel
         by_cases hil : i < lN
         ·have hc := hup.keep (H1.out i hil)
          have l1' : (0 : Int) ≤ (i : Int) := by omega
          have l2' : (i : Int) < (lN : Int) := by omega
          have UR := hid hup
          clear hup
          go_wp2
          exact ⟨⟨i + 1, by omega, by go_num, UR.out⟩, by simp [intOf]; omega⟩
         ·have hil2 : i = lN := by omega
          subst hil2
          clear hil
          go_wp2
          go_ret
          exact ⟨rfl, UE.out.trans hup⟩
end Go.Proofs.YthjfkmjeppdcnaaGreat
