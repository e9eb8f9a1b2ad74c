/- The document's Canon at every submission; conditions: the lengths fit. -/
import Derived.Test.YthjfkmjeppdcnaaGreatClI
namespace Go.Proofs.YthjfkmjeppdcnaaGreat
set_option linter.unusedSimpArgs false
open Go.RowKit
set_option linter.unusedVariables false
attribute [local go_sem] run_bits run_frombits run_store_float eqF
theorem newSub (W : World) (m : Nat) (hm : W.heap.size = m) (s1 s2 s3 : Int) (a1 a2 a3 : Option Addr) (n1 n2 n3 c1 c2 c3 : Nat) : SubAt m s1 s2 s3 (.slice a1 n1 c1) (.slice a2 n2 c2) (.slice a3 n3 c3) (W.alloc (.cells #[.int .i64 s1, .int .i64 s2, .int .i64 s3, .slice a1 n1 c1, .slice a2 n2 c2, .slice a3 n3 c3] 33)) ∧ ∀ j, j < 6 → (W.alloc (.cells #[.int .i64 s1, .int .i64 s2, .int .i64 s3, .slice a1 n1 c1, .slice a2 n2 c2, .slice a3 n3 c3] 33)).frozen? ⟨m, j, none⟩ = false := by
 subst hm
 refine ⟨by simp [SubAt], fun j hj => ?_⟩
 match j, hj with
 | 0, _ => simp
 | 1, _ => simp
 | 2, _ => simp
 | 3, _ => simp
 | 4, _ => simp
 | 5, _ => simp
theorem TB.start (w : World) (s1 s2 s3 : Int) (a1 a2 a3 : Option Addr) (n1 n2 n3 c1 c2 c3 : Nat) : TB w.heap.size s1 s2 s3 (.slice a1 n1 c1) (.slice a2 n2 c2) (.slice a3 n3 c3) (.slice a1 n1 c1) (.slice a2 n2 c2) (.slice a3 n3 c3) (((w.alloc (.cells #[.int .i64 s1, .int .i64 s2, .int .i64 s3, .slice a1 n1 c1, .slice a2 n2 c2, .slice a3 n3 c3] 33)).alloc (.cells #[.int .i64 0, .int .i64 0, .int .i64 0, .slice none 0 0, .slice none 0 0, .slice none 0 0] 33)).alloc (.cells #[.int .i64 s1, .int .i64 s2, .int .i64 s3, .slice a1 n1 c1, .slice a2 n2 c2, .slice a3 n3 c3] 33)) := by
 have x := newSub w _ rfl s1 s2 s3 a1 a2 a3 n1 n2 n3 c1 c2 c3
 have y := newSub (w.alloc (.cells #[.int .i64 s1, .int .i64 s2, .int .i64 s3, .slice a1 n1 c1, .slice a2 n2 c2, .slice a3 n3 c3] 33)) (w.heap.size + 1) (by simp) 0 0 0 none none none 0 0 0 0 0 0
 have z := newSub ((w.alloc (.cells #[.int .i64 s1, .int .i64 s2, .int .i64 s3, .slice a1 n1 c1, .slice a2 n2 c2, .slice a3 n3 c3] 33)).alloc (.cells #[.int .i64 0, .int .i64 0, .int .i64 0, .slice none 0 0, .slice none 0 0, .slice none 0 0] 33)) (w.heap.size + 2) (by simp) s1 s2 s3 a1 a2 a3 n1 n2 n3 c1 c2 c3
 refine ⟨SubAt.old (((Old.refl _).alloc _).alloc _) x.1, SubAt.old ((Old.refl _).alloc _) y.1, z.1, fun j hj => ?_, z.2⟩
 obtain ⟨q, hq⟩ := y.1.cellJ j hj
 exact ((Old.refl _).alloc _).keepF hq (y.2 j hj)
theorem CanRows.old {B : Nat} {L1 : List Nat} {L2 : List Sp} {L3 : List Nat} {p1 p2 p3 : Option Addr} {q1 q2 q3 : Nat} {W W' : World} (h : CanRows B L1 L2 L3 p1 p2 p3 q1 q2 q3 W) (u : Old W W') : CanRows B L1 L2 L3 p1 p2 p3 q1 q2 q3 W' := ⟨h.1.old u, h.2.1.old u, h.2.2.old u⟩
theorem CanRows.setR {m : Nat} {L1 : List Nat} {L2 : List Sp} {L3 : List Nat} {p1 p2 p3 : Option Addr} {q1 q2 q3 : Nat} {W : World} (h : CanRows (m + 3) L1 L2 L3 p1 p2 p3 q1 q2 q3 W) (o : Nat) (v : Value) : CanRows (m + 3) L1 L2 L3 p1 p2 p3 q1 q2 q3 (W.setCell ⟨m + 1, o, none⟩ v) := ⟨h.1.set1 (by omega) o v, ownsRow_setCell_below h.2.1 (by show m + 1 < m + 3; omega) v, h.2.2.set1 (by omega) o v⟩
set_option maxHeartbeats 8000000 in
set_option maxRecDepth 20000 in
theorem refCanon_core (s1 s2 s3 : Int) (a1 a2 a3 : Option Addr) (n1 n2 n3 c1 c2 c3 : Nat) (L1 L3 : List Nat) (D : List (Nat × Nat)) (L2 : List Sp) (m : Nat) (cc : Int) (G : Nat → Bool) (f2 : Nat → Sp) (w : World) (hm : w.heap.size = m) (HR2 : Hid (SRow w (.slice a2 n2 c2) n2 f2)) (HGj : Hid (∀ j, G j = (Fl.nan (f2 j).a || Fl.nan (f2 j).b)))
    (K1 : Hid (∀ W, Old w W → Calls Tryz.prog 46 #[.slice a1 n1 c1] W fun e w' => ∃ v' : Value, e = .returned v' ∧ FOwn W.heap.size w' v' L1 ∧ Old W w'))
    (K3 : Hid (∀ W, Old w W → Calls Tryz.prog 46 #[.slice a3 n3 c3] W fun e w' => ∃ v' : Value, e = .returned v' ∧ FOwn W.heap.size w' v' L3 ∧ Old W w'))
    (K2 : Hid (∀ W, Old w W → Calls Tryz.prog 48 #[.slice a2 n2 c2] W fun e w' => ∃ v' : Value, e = .returned v' ∧ OwnG W.heap.size w' v' D ∧ Old W w'))
    (X2 : Hid (∀ v base W, OwnG base W v D → Calls Tryz.prog 47 #[v] W fun e w' => ∃ v' : Value, e = .returned v' ∧ OwnS W.heap.size w' v' L2 ∧ Old W w'))
    (HCk : Hid (∀ p1 p2 p3 q1 q2 q3 W, CanRows (m + 3) L1 L2 L3 p1 p2 p3 q1 q2 q3 W → Calls Tryz.prog 49 #[.agg #[.int .i64 s1, .int .i64 s2, .int .i64 s3, .slice p1 L1.length q1, .slice p2 L2.length q2, .slice p3 L3.length q3]] W fun e w' => e = .returned (.int .i64 cc) ∧ Old W w')) :
    Calls Tryz.prog 29 #[.agg #[.int .i64 s1, .int .i64 s2, .int .i64 s3, .slice a1 n1 c1, .slice a2 n2 c2, .slice a3 n3 c3]] w fun e w' => CanPost (CanRows (m + 3) L1 L2 L3) s1 s2 s3 L1.length L2.length L3.length (if cc = 0 then (if Fl.anyG G n2 = true then 41 else 0) else cc) w e w' := by
 go_enter Tryz.func29, Tryz.ntmps29
 go_upto_region 2 with fail
 have HT0 : TB w.heap.size s1 s2 s3 (.slice a1 n1 c1) (.slice a2 n2 c2) (.slice a3 n3 c3) (.slice a1 n1 c1) (.slice a2 n2 c2) (.slice a3 n3 c3) (((w.alloc (.cells #[.int .i64 s1, .int .i64 s2, .int .i64 s3, .slice a1 n1 c1, .slice a2 n2 c2, .slice a3 n3 c3] 33)).alloc (.cells #[.int .i64 0, .int .i64 0, .int .i64 0, .slice none 0 0, .slice none 0 0, .slice none 0 0] 33)).alloc (.cells #[.int .i64 s1, .int .i64 s2, .int .i64 s3, .slice a1 n1 c1, .slice a2 n2 c2, .slice a3 n3 c3] 33)) := TB.start w s1 s2 s3 a1 a2 a3 n1 n2 n3 c1 c2 c3
 have U30 : Old w (((w.alloc (.cells #[.int .i64 s1, .int .i64 s2, .int .i64 s3, .slice a1 n1 c1, .slice a2 n2 c2, .slice a3 n3 c3] 33)).alloc (.cells #[.int .i64 0, .int .i64 0, .int .i64 0, .slice none 0 0, .slice none 0 0, .slice none 0 0] 33)).alloc (.cells #[.int .i64 s1, .int .i64 s2, .int .i64 s3, .slice a1 n1 c1, .slice a2 n2 c2, .slice a3 n3 c3] 33)) := (((Old.refl w).alloc _).alloc _).alloc _
 have hz30 : (((w.alloc (.cells #[.int .i64 s1, .int .i64 s2, .int .i64 s3, .slice a1 n1 c1, .slice a2 n2 c2, .slice a3 n3 c3] 33)).alloc (.cells #[.int .i64 0, .int .i64 0, .int .i64 0, .slice none 0 0, .slice none 0 0, .slice none 0 0] 33)).alloc (.cells #[.int .i64 s1, .int .i64 s2, .int .i64 s3, .slice a1 n1 c1, .slice a2 n2 c2, .slice a3 n3 c3] 33)).heap.size = w.heap.size + 3 := by simp
 generalize (((w.alloc (.cells #[.int .i64 s1, .int .i64 s2, .int .i64 s3, .slice a1 n1 c1, .slice a2 n2 c2, .slice a3 n3 c3] 33)).alloc (.cells #[.int .i64 0, .int .i64 0, .int .i64 0, .slice none 0 0, .slice none 0 0, .slice none 0 0] 33)).alloc (.cells #[.int .i64 s1, .int .i64 s2, .int .i64 s3, .slice a1 n1 c1, .slice a2 n2 c2, .slice a3 n3 c3] 33)) = w3 at *
 rw [hm] at HT0 hz30
 have hx2 : w.heap.size ≤ m + 2 := by omega
 have HT := hid HT0
 have U3 := hid U30
 have HZ3 := hid hz30
 obtain ⟨_, _, _, j3, j4, j5⟩ := HT0.s
 obtain ⟨_, _, _, k3, k4, k5⟩ := HT0.o
 clear HT0 U30 hz30
 go_upto_region 5 with (first | (go_at_call_of 46 (Value.slice a1 n1 c1); refine (K1.out _ U3.out).mono ?_; rintro e W1 ⟨r1, rfl, g1, u1⟩; obtain ⟨p1, q1, hr1⟩ := g1.len'; subst hr1; have T1 := hid (HT.out.old u1); have UU1 := hid (U3.out.trans u1); have zz1 := u1.size; have G1 := hid g1; clear g1 u1 j3 j4 j5 k3 k4 k5; obtain ⟨_, _, _, j3, j4, j5⟩ := T1.out.s; obtain ⟨_, _, _, k3, k4, k5⟩ := T1.out.o; have z3 := T1.out.fo 3 (by omega); have z4 := T1.out.fo 4 (by omega); have z5 := T1.out.fo 5 (by omega)) | (go_at_call_of 46 (Value.slice a3 n3 c3); refine (K3.out _ (UU1.out.setCell hx2 _)).mono ?_; rintro e W2 ⟨r3, rfl, g3, u2⟩; obtain ⟨p3, q3, hr3⟩ := g3.len'; subst hr3; have T2 := hid ((T1.out.set _).1.old u2); have UU2 := hid ((UU1.out.setCell hx2 _).trans u2); have V2 := hid u2; have G3 := hid g3; clear g3 u2; clear j3 j4 j5 k3 k4 k5 z3 z4 z5; obtain ⟨_, _, _, j3, j4, j5⟩ := T2.out.s; obtain ⟨_, _, _, k3, k4, k5⟩ := T2.out.o; have z3 := T2.out.fo 3 (by omega); have z4 := T2.out.fo 4 (by omega); have z5 := T2.out.fo 5 (by omega)) | (go_at_call 48; refine (K2.out _ (UU2.out.setCell hx2 _)).mono ?_; rintro e W4 ⟨r4, rfl, g4, u4⟩; have T4 := hid ((T2.out.set _).2.2.old u4); have UU4 := hid ((UU2.out.setCell hx2 _).trans u4); have V4 := hid u4; have G4 := hid g4; clear g4 u4) | (go_at_call 47; refine (X2.out _ _ _ G4.out).mono ?_; rintro e W5 ⟨r2, rfl, g2, u5⟩; obtain ⟨p2, q2, hr2⟩ := g2.len'; subst hr2; have T5 := hid (T4.out.old u5); have UU5 := hid (UU4.out.trans u5); have V5 := hid u5; have G2 := hid g2; clear g2 u5; clear j3 j4 j5 k3 k4 k5 z3 z4 z5; obtain ⟨_, _, _, j3, j4, j5⟩ := T5.out.s; obtain ⟨_, _, _, k3, k4, k5⟩ := T5.out.o; have z3 := T5.out.fo 3 (by omega); have z4 := T5.out.fo 4 (by omega); have z5 := T5.out.fo 5 (by omega)))
 have TX := hid (T5.out.set (.slice p2 L2.length q2)).2.1
 have hb3 : m + 2 < m + 3 := by omega
 have zX2 := V2.out.size
 have zX4 := V4.out.size
 have zX5 := V5.out.size
 have h30 := HZ3.out
 have RX0 : CanRows (m + 3) L1 L2 L3 p1 p2 p3 q1 q2 q3 (W5.setCell ⟨m + 2, 4, none⟩ (.slice p2 L2.length q2)) := by
  refine ⟨?_, ?_, ?_⟩
  ·exact ((((((G1.out.mono' (by omega)).set1 hb3 _ _).old V2.out).set1 hb3 _ _).old V4.out).old V5.out).set1 hb3 _ _
  ·exact ownsRow_setCell_below (OwnS.mono' G2.out (by simp at zX2 zX4; omega)) (by show m + 2 < m + 3; omega) _
  ·exact ((((G3.out.mono' (by simp; omega)).set1 hb3 _ _).old V4.out).old V5.out).set1 hb3 _ _
 have RX := hid RX0
 have UX := hid (UU5.out.setCell (p := ⟨m + 2, 4, none⟩) hx2 (.slice p2 L2.length q2))
 clear RX0 T1 T2 T4 T5 G1 G2 G3 G4 V2 V4 V5 UU1 UU2 UU4 UU5 HT U3 zX2 zX4 zX5 zz1 j3 j4 j5 k3 k4 k5 z3 z4 z5 K1 K2 K3 X2
 generalize W5.setCell ⟨m + 2, 4, none⟩ (.slice p2 L2.length q2) = X at *
 have hx1 : w.heap.size ≤ m + 1 := by omega
 obtain ⟨o0', o1', o2', o3', o4', o5'⟩ := TX.out.o
 by_cases hcc : cc = 0
 ·subst hcc
  go_wp2_with (first | (go_at_call 49; refine (HCk.out _ _ _ _ _ _ _ RX.out).mono ?_; rintro e wc ⟨rfl, uc⟩; have UC := hid uc; have TC := hid (TX.out.old uc); have RC := hid (CanRows.old RX.out uc); obtain ⟨r0, r1, r2, r3, r4, r5⟩ := TC.out.r; obtain ⟨o0, o1, o2, o3, o4, o5⟩ := TC.out.o; have y0 := TC.out.fr 0 (by omega); have y1 := TC.out.fr 1 (by omega); have y2 := TC.out.fr 2 (by omega); have y3 := TC.out.fr 3 (by omega); have y4 := TC.out.fr 4 (by omega); have y5 := TC.out.fr 5 (by omega); obtain ⟨_, _, _, i3, i4, i5⟩ := TC.out.s; clear uc))
  have UR0 := hid (UX.out.trans UC.out)
  obtain ⟨_, av, cv, hvv, hcx⟩ := HR2.out
  cases hvv
  have HC := hid hcx
  clear hcx
  go_loopw [5, 6] (fun e i wr => ∃ j : Nat, j ≤ n2 ∧ i = .int .i64 (j : Nat) ∧ e = .int .i64 (if Fl.anyG G j = true then 41 else 0) ∧ Old wc wr) (fun _ i _ => n2 - (intOf i).toNat)
  case atStart => exact ⟨0, Nat.zero_le _, rfl, rfl, Old.refl _⟩
  case round =>
   obtain ⟨j, hj, rfl, rfl, hu⟩ := hrel
   obtain ⟨_, _, _, i3', i4', i5'⟩ := SubAt.old hu TC.out.s
   by_cases hlt : j < n2
   ·obtain ⟨b, off, ha, hWa, hWb, x0, x1, x2, x3⟩ := HC.out j hlt
    subst ha
    replace x0 := (UR0.out.trans hu).keep x0
    replace x1 := (UR0.out.trans hu).keep x1
    have HNa0 := fun W => refNan_any (f2 j).a hWa W
    have HNb0 := fun W => refNan_any (f2 j).b hWb W
    have HGx := hid (HGj.out j)
    have l1 : (0 : Int) ≤ (j : Int) := by omega
    have l2 : (j : Int) < (n2 : Int) := by omega
    clear hWa hWb x2 x3 HC
    generalize hA : (f2 j).a = A at *
    generalize hB : (f2 j).b = B at *
    clear hA hB
    cases hna : Fl.nan A
    ·cases hnb : Fl.nan B
     ·rw [hna] at HNa0 HGx
      rw [hnb] at HNb0 HGx
      have HNa := hid HNa0
      have HNb := hid HNb0
      clear HNa0 HNb0 hna hnb
      have HGs := hid (show Fl.anyG G (j + 1) = (Fl.anyG G j || false) by show (Fl.anyG G j || G j) = _; rw [HGx.out]; rfl)
      generalize Fl.anyG G j = aj at *
      clear HGx
      go_wp2_with (first | (go_at_call_of 50 (Value.float FloatKind.f64 A); refine (HNa.out _).mono ?_; rintro o wn ⟨rfl, hw⟩; have hw2 := hw.symm; subst hw2) | (go_at_call_of 50 (Value.float FloatKind.f64 B); refine (HNb.out _).mono ?_; rintro o wn ⟨rfl, hw⟩; have hw2 := hw.symm; subst hw2))
      go_roundw
      case rel => exact ⟨j + 1, hlt, by go_num, by rw [HGs.out]; cases aj <;> rfl, hu⟩
      case measure => simp [intOf]; omega
     ·rw [hna] at HNa0 HGx
      rw [hnb] at HNb0 HGx
      have HNa := hid HNa0
      have HNb := hid HNb0
      clear HNa0 HNb0 hna hnb
      have HGs := hid (show Fl.anyG G (j + 1) = (Fl.anyG G j || true) by show (Fl.anyG G j || G j) = _; rw [HGx.out]; rfl)
      generalize Fl.anyG G j = aj at *
      clear HGx
      go_wp2_with (first | (go_at_call_of 50 (Value.float FloatKind.f64 A); refine (HNa.out _).mono ?_; rintro o wn ⟨rfl, hw⟩; have hw2 := hw.symm; subst hw2) | (go_at_call_of 50 (Value.float FloatKind.f64 B); refine (HNb.out _).mono ?_; rintro o wn ⟨rfl, hw⟩; have hw2 := hw.symm; subst hw2))
      go_roundw
      case rel => exact ⟨j + 1, hlt, by go_num, by rw [HGs.out]; cases aj <;> rfl, hu⟩
      case measure => simp [intOf]; omega
    ·rw [hna] at HNa0 HGx
     have HNa := hid HNa0
     have HNb := hid HNb0
     clear HNa0 HNb0 hna
     have HGs := hid (show Fl.anyG G (j + 1) = (Fl.anyG G j || true) by show (Fl.anyG G j || G j) = _; rw [HGx.out]; rfl)
     generalize Fl.anyG G j = aj at *
     clear HGx
     go_wp2_with (first | (go_at_call_of 50 (Value.float FloatKind.f64 A); refine (HNa.out _).mono ?_; rintro o wn ⟨rfl, hw⟩; have hw2 := hw.symm; subst hw2) | (go_at_call_of 50 (Value.float FloatKind.f64 B); refine (HNb.out _).mono ?_; rintro o wn ⟨rfl, hw⟩; have hw2 := hw.symm; subst hw2))
     go_roundw
     case rel => exact ⟨j + 1, hlt, by go_num, by rw [HGs.out]; cases aj <;> rfl, hu⟩
     case measure => simp [intOf]; omega
   ·obtain rfl : j = n2 := by omega
    have UR := hid (UR0.out.trans hu)
    have RR := hid (CanRows.old RC.out hu)
    have TR := TC.out.old hu
    obtain ⟨r0', r1', r2', r3', r4', r5'⟩ := TR.r
    obtain ⟨u0, u1, u2, u3, u4, u5⟩ := TR.o
    have y0' := TR.fr 0 (by omega)
    have y1' := TR.fr 1 (by omega)
    have y2' := TR.fr 2 (by omega)
    have y3' := TR.fr 3 (by omega)
    have y4' := TR.fr 4 (by omega)
    have y5' := TR.fr 5 (by omega)
    clear TR HC r0 r1 r2 r3 r4 r5 o0 o1 o2 o3 o4 o5 y0 y1 y2 y3 y4 y5 o0' o1' o2' o3' o4' o5'
    cases hg : Fl.anyG G j
    ·have HE := hid hg
     rw [if_neg Bool.false_ne_true]
     go_wp2
     refine bodyPost_ret (v := .tuple #[.agg #[.int .i64 s1, .int .i64 s2, .int .i64 s3, .slice p1 L1.length q1, .slice p2 L2.length q2, .slice p3 L3.length q3], .int .i64 0]) (by simp [results, Tryz.results29, go_sem, *]) rfl (by unfold CanPost; exact ⟨p1, p2, p3, q1, q2, q3, by first | rfl | (rw [HE.out]; rfl) | (simp [HE.out]), CanRows.setR (CanRows.setR (CanRows.setR (CanRows.setR (CanRows.setR (CanRows.setR (RR.out) _ _) _ _) _ _) _ _) _ _) _ _, (((((((UR.out)).setCell hx1 _).setCell hx1 _).setCell hx1 _).setCell hx1 _).setCell hx1 _).setCell hx1 _⟩)
    ·have HE := hid hg
     rw [if_pos rfl]
     go_wp2
     refine bodyPost_ret (v := .tuple #[.agg #[.int .i64 0, .int .i64 0, .int .i64 0, .slice none 0 0, .slice none 0 0, .slice none 0 0], .int .i64 41]) (by simp [results, Tryz.results29, go_sem, *]) rfl (by unfold CanPost; exact ⟨p1, p2, p3, q1, q2, q3, by first | rfl | (rw [HE.out]; rfl) | (simp [HE.out]), CanRows.setR (CanRows.setR (CanRows.setR (CanRows.setR (CanRows.setR (CanRows.setR (RR.out) _ _) _ _) _ _) _ _) _ _) _ _, (((((((UR.out)).setCell hx1 _).setCell hx1 _).setCell hx1 _).setCell hx1 _).setCell hx1 _).setCell hx1 _⟩)
 ·have tc : (cc == 0) = false := by simpa using hcc
  have tn : (cc != 0) = true := by simpa using hcc
  have HE := hid hcc
  clear hcc
  go_wp2_with (first | (go_at_call 49; refine (HCk.out _ _ _ _ _ _ _ RX.out).mono ?_; rintro e wc ⟨rfl, uc⟩; have UC := hid uc; have TC := hid (TX.out.old uc); have RC := hid (CanRows.old RX.out uc); obtain ⟨r0, r1, r2, r3, r4, r5⟩ := TC.out.r; obtain ⟨o0, o1, o2, o3, o4, o5⟩ := TC.out.o; have y0 := TC.out.fr 0 (by omega); have y1 := TC.out.fr 1 (by omega); have y2 := TC.out.fr 2 (by omega); have y3 := TC.out.fr 3 (by omega); have y4 := TC.out.fr 4 (by omega); have y5 := TC.out.fr 5 (by omega); obtain ⟨_, _, _, i3, i4, i5⟩ := TC.out.s; clear uc))
  refine bodyPost_ret (v := .tuple #[.agg #[.int .i64 0, .int .i64 0, .int .i64 0, .slice none 0 0, .slice none 0 0, .slice none 0 0], .int .i64 cc]) (by simp [results, Tryz.results29, go_sem, *]) rfl (by unfold CanPost; exact ⟨p1, p2, p3, q1, q2, q3, by first | rfl | rw [if_neg HE.out, if_neg HE.out] | (simp [HE.out]), CanRows.setR (CanRows.setR (CanRows.setR (CanRows.setR (CanRows.setR (CanRows.setR (RC.out) _ _) _ _) _ _) _ _) _ _) _ _, (((((((UX.out.trans UC.out)).setCell hx1 _).setCell hx1 _).setCell hx1 _).setCell hx1 _).setCell hx1 _).setCell hx1 _⟩)
end Go.Proofs.YthjfkmjeppdcnaaGreat
namespace Go.Proofs.YthjfkmjeppdcnaaGreat
set_option linter.unusedSimpArgs false
open Go.RowKit
set_option linter.unusedVariables false
theorem can_chk (m c k z : Bool) : (if chkC m c k = 0 then (if z = true then 41 else 0) else chkC m c k) = canC m c k z := by
 unfold chkC canC; cases m <;> cases c <;> cases k <;> cases z <;> rfl
theorem spo_rows' {L : List (Nat × Nat)} (h : ∀ r ∈ L, Fl.RV r) : ∀ s ∈ L.map Fl.spo, Fl.W s.a ∧ Fl.W s.b := by
 intro s hs
 obtain ⟨r, hr, rfl⟩ := List.mem_map.1 hs
 exact Fl.spo_W (h r hr)
set_option maxHeartbeats 1000000 in
set_option maxRecDepth 20000 in
theorem refCanon_any (s1 s2 s3 : Int) (a1 a2 a3 : Option Addr) (n1 n2 n3 c1 c2 c3 : Nat) (x1 x3 : Nat → Nat) (f2 : Nat → Sp) (b1 : n1 ≤ 17592186044000) (b2 : n2 ≤ 5864062014805) (b3 : n3 ≤ 17592186044000) (w : World) (h1 : FRow w (.slice a1 n1 c1) n1 x1) (h2 : SRow w (.slice a2 n2 c2) n2 f2) (h3 : FRow w (.slice a3 n3 c3) n3 x3) :
    Calls Tryz.prog 29 #[.agg #[.int .i64 s1, .int .i64 s2, .int .i64 s3, .slice a1 n1 c1, .slice a2 n2 c2, .slice a3 n3 c3]] w fun e w' => CanPost (CanRows (w.heap.size + 3) (Fl.sortL x1 n1) ((Fl.dfold (Fl.cdl f2 n2)).map Fl.spo) (Fl.sortL x3 n3)) s1 s2 s3 (Fl.sortL x1 n1).length ((Fl.dfold (Fl.cdl f2 n2)).map Fl.spo).length (Fl.sortL x3 n3).length (canC (misB s1 s2 s3) (crowdB (Fl.sortL x1 n1).length ((Fl.dfold (Fl.cdl f2 n2)).map Fl.spo).length (Fl.sortL x3 n3).length) (Fl.anyG (fun i => Fl.nan (atN (Fl.sortL x1 n1) i)) (Fl.sortL x1 n1).length || Fl.anyG (fun i => Fl.nan (atN (Fl.sortL x3 n3) i)) (Fl.sortL x3 n3).length) (Fl.anyG (fun i => Fl.nan (f2 i).a || Fl.nan (f2 i).b) n2)) w e w' := by
 have w1 : ∀ i, i < n1 → Fl.W (x1 i) := fun i hi => by obtain ⟨_, _, _, _, hc⟩ := h1; obtain ⟨_, _, _, q, _⟩ := hc i hi; exact q
 have w3 : ∀ i, i < n3 → Fl.W (x3 i) := fun i hi => by obtain ⟨_, _, _, _, hc⟩ := h3; obtain ⟨_, _, _, q, _⟩ := hc i hi; exact q
 have w2 := Fl.cdl_RV f2 n2 fun i hi => by obtain ⟨_, _, _, _, hc⟩ := h2; obtain ⟨_, _, _, q1, q2, _⟩ := hc i hi; exact (⟨q1, q2⟩ : Fl.W (f2 i).a ∧ Fl.W (f2 i).b)
 have hD := Fl.dfold_ok _ (Fl.cdl f2 n2) rfl w2
 have hDl : (Fl.dfold (Fl.cdl f2 n2)).length ≤ n2 := by have := hD.2.2; have := Fl.cdl_len f2 n2; omega
 have l1 := Fl.sortL_len x1 n1
 have l3 := Fl.sortL_len x3 n3
 have hml : ((Fl.dfold (Fl.cdl f2 n2)).map Fl.spo).length = (Fl.dfold (Fl.cdl f2 n2)).length := List.length_map ..
 rw [← can_chk]
 refine refCanon_core s1 s2 s3 a1 a2 a3 n1 n2 n3 c1 c2 c3 (Fl.sortL x1 n1) (Fl.sortL x3 n3) (Fl.dfold (Fl.cdl f2 n2)) _ w.heap.size _ (fun i => Fl.nan (f2 i).a || Fl.nan (f2 i).b) f2 w rfl h2 (fun j => rfl) ?_ ?_ ?_ ?_ ?_
 ·exact fun W hW => sortR_any _ n1 x1 b1 W (h1.old hW)
 ·exact fun W hW => sortR_any _ n3 x3 b3 W (h3.old hW)
 ·exact fun W hW => refNorm_any _ n2 f2 b2 W (h2.old hW)
 ·exact fun v base W h => spans_any v base _ W h hD.1.2 (by omega)
 ·rintro p1 p2 p3 q1 q2 q3 W ⟨g1, g2, g3⟩
  have r2 := g2.row (spo_rows' hD.1.2) (by rw [hml]; omega)
  rw [hml] at r2 ⊢
  exact refCheck_form s1 s2 s3 p1 p2 p3 _ _ _ q1 q2 q3 W (g1.row (sortL_W x1 n1 w1) (by omega)) r2 (g3.row (sortL_W x3 n3 w3) (by omega)) hD.1 (sortL_again x1 n1 w1) (sortL_again x3 n3 w3) (sortL_W x1 n1 w1) (sortL_W x3 n3 w3)
end Go.Proofs.YthjfkmjeppdcnaaGreat
