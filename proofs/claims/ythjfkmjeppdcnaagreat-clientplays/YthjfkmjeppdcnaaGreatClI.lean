/- The document's nan of a row, and its Check at a form; conditions: the lengths fit. -/
import Derived.Test.YthjfkmjeppdcnaaGreatClH
import Derived.Test.YthjfkmjeppdcnaaGreatClD
import Derived.Sort.AtCall
namespace Go.Proofs.YthjfkmjeppdcnaaGreat
set_option linter.unusedSimpArgs false
open Go.RowKit
set_option linter.unusedVariables false
attribute [local go_sem] run_bits run_frombits run_store_float eqF
set_option maxHeartbeats 1000000 in
set_option maxRecDepth 20000 in
theorem refNans_any (v : Value) (n : Nat) (x : Nat → Nat) (w : World) (hv : FRow w v n x) :
    Calls Tryz.prog 77 #[v] w fun e w' => e = .returned (.bool (Fl.anyG (fun i => Fl.nan (x i)) n)) ∧ Old w w' := by
 obtain ⟨hm, a, c, rfl, hc⟩ := hv
 have HC := hid hc
 generalize hg : (fun i => Fl.nan (x i)) = g
 have HG := hid hg
 clear hc hg
 go_enter Tryz.func77, Tryz.ntmps77
 go_wp2
 go_loopw [3] (fun i wr => ∃ j : Nat, j ≤ n ∧ i = .int .i64 (j : Nat) ∧ Fl.anyG g j = false ∧ Old w wr) (fun i _ => n - (intOf i).toNat)
 case atStart => exact ⟨0, Nat.zero_le _, rfl, rfl, Old.refl _⟩
 case round =>
  obtain ⟨j, hj, rfl, h0, hu⟩ := hrel
  by_cases hlt : j < n
  ·obtain ⟨b, off, ha, hW, c0⟩ := HC.out j hlt
   subst ha
   have x0 := hu.keep c0
   have HK := fun W => refNan_any (x j) hW W
   have hgj : Fl.nan (x j) = g j := by rw [← HG.out]
   rw [hgj] at HK
   have HN := hid HK
   have l1 : (0 : Int) ≤ (j : Int) := by omega
   have l2 : (j : Int) < (n : Int) := by omega
   have H0 := hid h0
   clear c0 h0 hgj HK HC HG
   generalize x j = X at *
   cases hg : g j
   ·rw [hg] at HN
    have HS := hid (Fl.anyG_step g j H0.out hg)
    clear hg
    go_wp2_with (go_at_call 50; refine (HN.out _).mono ?_; rintro o w5 ⟨rfl, hw⟩; have hw2 := hw.symm; subst hw2)
    go_roundw
    case rel => exact ⟨j + 1, hlt, by go_num, HS.out, hu⟩
    case measure => simp [intOf]; omega
   ·have HT := hid (Fl.anyG_true g n j hlt hg)
    rw [hg] at HN
    clear hg
    go_wp2_with (go_at_call 50; refine (HN.out _).mono ?_; rintro o w5 ⟨rfl, hw⟩; have hw2 := hw.symm; subst hw2)
    go_ret
    exact ⟨ret_b HT.out.symm, hu⟩
  ·obtain rfl : j = n := by omega
   have H0 := hid h0
   clear h0
   go_wp2
   go_ret
   exact ⟨ret_b H0.out.symm, hu⟩
def chkC (m c k : Bool) : Int := if m = true then 43 else if c = true then 3 else if k = true then 40 else 0
set_option maxHeartbeats 4000000 in
set_option maxRecDepth 20000 in
theorem refCheck_early (s1 s2 s3 : Int) (p1 p2 p3 : Option Addr) (m1 m2 m3 q1 q2 q3 : Nat) (w : World) (h : misB s1 s2 s3 = true ∨ (misB s1 s2 s3 = false ∧ crowdB m1 m2 m3 = true)) :
    Calls Tryz.prog 49 #[.agg #[.int .i64 s1, .int .i64 s2, .int .i64 s3, .slice p1 m1 q1, .slice p2 m2 q2, .slice p3 m3 q3]] w fun e w' => e = .returned (.int .i64 (if misB s1 s2 s3 = true then 43 else 3)) ∧ Old w w' := by
 rcases h with h | ⟨h, hc⟩
 ·rw [if_pos h]
  have h2 : s1 < 1 ∨ 1099511627776 < s1 ∨ s2 < 1 ∨ 1099511627776 < s2 ∨ s3 < 0 ∨ 1099511627776 < s3 := by
   unfold misB outB at h; simp at h; omega
  clear h
  by_cases t1 : s1 < 1
  ·go_enter Tryz.func49, Tryz.ntmps49
   go_wp2
   go_ret
   exact ⟨rfl, (Old.refl w).alloc _⟩
  by_cases t2 : 1099511627776 < s1
  ·go_enter Tryz.func49, Tryz.ntmps49
   go_wp2
   go_ret
   exact ⟨rfl, (Old.refl w).alloc _⟩
  by_cases t3 : s2 < 1
  ·go_enter Tryz.func49, Tryz.ntmps49
   go_wp2
   go_ret
   exact ⟨rfl, (Old.refl w).alloc _⟩
  by_cases t4 : 1099511627776 < s2
  ·go_enter Tryz.func49, Tryz.ntmps49
   go_wp2
   go_ret
   exact ⟨rfl, (Old.refl w).alloc _⟩
  by_cases t5 : s3 < 0
  ·go_enter Tryz.func49, Tryz.ntmps49
   go_wp2
   go_ret
   exact ⟨rfl, (Old.refl w).alloc _⟩
  have t6 : 1099511627776 < s3 := by omega
  go_enter Tryz.func49, Tryz.ntmps49
  go_wp2
  go_ret
  exact ⟨rfl, (Old.refl w).alloc _⟩
 ·rw [if_neg (by rw [h]; simp)]
  have h2 : ¬ s1 < 1 ∧ ¬ 1099511627776 < s1 ∧ ¬ s2 < 1 ∧ ¬ 1099511627776 < s2 ∧ ¬ s3 < 0 ∧ ¬ 1099511627776 < s3 := by
   unfold misB outB at h; simp at h; omega
  obtain ⟨t1, t2, t3, t4, t5, t6⟩ := h2
  have h3 : 16 < m1 ∨ 8 < m2 ∨ 16 < m3 := by unfold crowdB at hc; simp at hc; omega
  clear h hc
  by_cases u1 : 16 < m1
  ·have v1 : (16 : Int) < (m1 : Int) := by omega
   go_enter Tryz.func49, Tryz.ntmps49
   go_wp2
   go_ret
   exact ⟨rfl, (Old.refl w).alloc _⟩
  have v1 : ¬ (16 : Int) < (m1 : Int) := by omega
  by_cases u2 : 8 < m2
  ·have v2 : (8 : Int) < (m2 : Int) := by omega
   go_enter Tryz.func49, Tryz.ntmps49
   go_wp2
   go_ret
   exact ⟨rfl, (Old.refl w).alloc _⟩
  have v2 : ¬ (8 : Int) < (m2 : Int) := by omega
  have v3 : (16 : Int) < (m3 : Int) := by omega
  go_enter Tryz.func49, Tryz.ntmps49
  go_wp2
  go_ret
  exact ⟨rfl, (Old.refl w).alloc _⟩
theorem spo_of {r : Nat × Nat} (h : Fl.RV r) : Fl.rL (Fl.spo r).a (Fl.spo r).b (Fl.spo r).p (Fl.spo r).q = r.1 ∧ Fl.rH (Fl.spo r).a (Fl.spo r).b (Fl.spo r).p (Fl.spo r).q = r.2 := by
 obtain ⟨e1, e2, e3⟩ := Fl.cs_of_form _ _ _ (Fl.spo_form h)
 have a := Fl.of_V h.1
 have b := Fl.of_V h.2.1
 unfold Fl.rL Fl.rH Fl.spo
 dsimp only
 rw [e1, e2, e3]
 exact ⟨a.2.1, b.2.1⟩
set_option maxHeartbeats 8000000 in
set_option maxRecDepth 20000 in
theorem refCheck_late (s1 s2 s3 : Int) (p1 p2 p3 : Option Addr) (L1 L3 : List Nat) (D : List (Nat × Nat)) (q1 q2 q3 : Nat) (w : World) (hm : misB s1 s2 s3 = false) (hc : crowdB L1.length D.length L3.length = false)
    (h1 : FRow w (.slice p1 L1.length q1) L1.length (atN L1)) (h2 : SRow w (.slice p2 D.length q2) D.length (atS (D.map Fl.spo))) (h3 : FRow w (.slice p3 L3.length q3) L3.length (atN L3))
    (hD : Fl.NL D) (e1 : Fl.sortL (atN L1) L1.length = L1) (e3 : Fl.sortL (atN L3) L3.length = L3) (hW1 : ∀ y ∈ L1, Fl.W y) (hW3 : ∀ y ∈ L3, Fl.W y) :
    Calls Tryz.prog 49 #[.agg #[.int .i64 s1, .int .i64 s2, .int .i64 s3, .slice p1 L1.length q1, .slice p2 D.length q2, .slice p3 L3.length q3]] w fun e w' => e = .returned (.int .i64 (if (Fl.anyG (fun i => Fl.nan (atN L1 i)) L1.length || Fl.anyG (fun i => Fl.nan (atN L3 i)) L3.length) = true then 40 else 0)) ∧ Old w w' := by
 have h4 : ¬ s1 < 1 ∧ ¬ 1099511627776 < s1 ∧ ¬ s2 < 1 ∧ ¬ 1099511627776 < s2 ∧ ¬ s3 < 0 ∧ ¬ 1099511627776 < s3 := by
  unfold misB outB at hm; simp at hm; omega
 obtain ⟨t1, t2, t3, t4, t5, t6⟩ := h4
 have h5 : ¬ 16 < L1.length ∧ ¬ 8 < D.length ∧ ¬ 16 < L3.length := by unfold crowdB at hc; simp at hc; omega
 have b1 : L1.length ≤ 16 := by omega
 have b2 : D.length ≤ 8 := by omega
 have b3 : L3.length ≤ 16 := by omega
 have v1 : ¬ (16 : Int) < (L1.length : Int) := by omega
 have v2 : ¬ (8 : Int) < (D.length : Int) := by omega
 have v3 : ¬ (16 : Int) < (L3.length : Int) := by omega
 have K1 := hid (fun W (hW : Old w W) => refNans_any _ _ _ W (h1.old hW))
 have K3 := hid (fun W (hW : Old w W) => refNans_any _ _ _ W (h3.old hW))
 have S1 := hid (show ∀ W, Old w W → Calls Tryz.prog 46 #[.slice p1 L1.length q1] W fun e w' => ∃ v' : Value, e = .returned v' ∧ FRow w' v' L1.length (atN L1) ∧ Old W w' from fun W hW => by
  refine (sortR_any _ _ _ (by omega) W (h1.old hW)).mono ?_
  rintro e w' ⟨v', rfl, ho, hu⟩
  rw [e1] at ho
  exact ⟨v', rfl, ho.row hW1 (by omega), hu⟩)
 have S3 := hid (show ∀ W, Old w W → Calls Tryz.prog 46 #[.slice p3 L3.length q3] W fun e w' => ∃ v' : Value, e = .returned v' ∧ FRow w' v' L3.length (atN L3) ∧ Old W w' from fun W hW => by
  refine (sortR_any _ _ _ (by omega) W (h3.old hW)).mono ?_
  rintro e w' ⟨v', rfl, ho, hu⟩
  rw [e3] at ho
  exact ⟨v', rfl, ho.row hW3 (by omega), hu⟩)
 have N2 := hid (show ∀ W, Old w W → Calls Tryz.prog 48 #[.slice p2 D.length q2] W fun e w' => ∃ v' : Value, e = .returned v' ∧ OwnG W.heap.size w' v' D ∧ Old W w' from fun W hW => by
  have q := refNorm_any _ _ _ (by omega) W (h2.old hW)
  have hk := Fl.dfold_ok _ D rfl hD.2
  rw [Fl.cdl_spo D hD.2, Fl.nl_unique _ _ hk.1 hD hk.2.1] at q
  exact q)
 have X2 := hid (fun v base W (h : OwnG base W v D) => spans_any v base D W h hD.2 (by omega))
 have HRow := hid (show ∀ base W v, OwnS base W v (D.map Fl.spo) → SRow W v D.length (atS (D.map Fl.spo)) from fun base W v h => by have q := h.row (fun s hs => by obtain ⟨r, hr, rfl⟩ := List.mem_map.1 hs; exact Fl.spo_W (hD.2 r hr)) (by rw [List.length_map]; omega); rw [List.length_map] at q; exact q)
 have R1 := hid h1
 have R2 := hid h2
 have R3 := hid h3
 have HDv := hid hD.2
 generalize hk1 : Fl.anyG (fun i => Fl.nan (atN L1 i)) L1.length = k1 at *
 generalize hk3 : Fl.anyG (fun i => Fl.nan (atN L3 i)) L3.length = k3 at *
 clear hk1 hk3 hm hc h5 h1 h2 h3 hD e1 e3 hW1 hW3
 have s0 : SubAt w.heap.size s1 s2 s3 (.slice p1 L1.length q1) (.slice p2 D.length q2) (.slice p3 L3.length q3) (w.alloc (.cells #[.int .i64 s1, .int .i64 s2, .int .i64 s3, .slice p1 L1.length q1, .slice p2 D.length q2, .slice p3 L3.length q3] 33)) := by simp [SubAt]
 have HS := hid s0
 clear s0
 generalize hn1 : L1.length = n1 at *
 generalize hn3 : L3.length = n3 at *
 clear hn1 hn3
 cases k1
 ·cases k3
  ·go_enter Tryz.func49, Tryz.ntmps49
   go_wp2_with (first | (go_at_call_of 77 (Value.slice p1 n1 q1); refine (K1.out _ ((Old.refl w).alloc _)).mono ?_; rintro o w5 ⟨rfl, u5⟩; have U5 := hid (((Old.refl w).alloc _).trans u5); have B5 := hid (SubAt.old u5 HS.out); obtain ⟨_, _, _, f3, f4, f5⟩ := B5.out; clear u5) | (go_at_call_of 77 (Value.slice p3 n3 q3); refine (K3.out _ U5.out).mono ?_; rintro o w6 ⟨rfl, u6⟩; have U6 := hid (U5.out.trans u6); have B6 := hid (SubAt.old u6 B5.out); clear u6))
   go_loopw [3] (fun i wr => ∃ j : Nat, j ≤ D.length ∧ i = .int .i64 (j : Nat) ∧ Old w6 wr) (fun i _ => D.length - (intOf i).toNat)
   case atStart => exact ⟨0, Nat.zero_le _, rfl, Old.refl _⟩
   case round =>
    obtain ⟨j, hj, rfl, hu⟩ := hrel
    have HU := hid (U6.out.trans hu)
    obtain ⟨g0, g1, g2, g3, g4, g5⟩ := SubAt.old hu B6.out
    have BR : Hid (SubAt w.heap.size s1 s2 s3 (.slice p1 n1 q1) (.slice p2 D.length q2) (.slice p3 n3 q3) wr) := ⟨g0, g1, g2, g3, g4, g5⟩
    by_cases hlt : j < D.length
    ·obtain ⟨_, a, c, hv, hcx⟩ := R2.out.old HU.out
     cases hv
     obtain ⟨b, off, ha, hWa, hWb, x0, x1, x2, x3⟩ := hcx j hlt
     subst ha
     have hjm : j < (D.map Fl.spo).length := by rw [List.length_map]; exact hlt
     rw [atS_get _ j hjm, List.getElem_map] at hWa hWb x0 x1 x2 x3
     have hrv := HDv.out D[j] (List.getElem_mem hlt)
     obtain ⟨y1, y2⟩ := spo_of hrv
     have HO0 := fun W => rOf_any (Fl.spo D[j]).a (Fl.spo D[j]).b hWa hWb (Fl.spo D[j]).p (Fl.spo D[j]).q W
     rw [y1, y2] at HO0
     have HE0 := fun W => rEmpty_any D[j].1 D[j].2 W
     rw [show decide (D[j].2 < D[j].1) = false from decide_eq_false (by have := hrv.2.2; omega)] at HE0
     have HO := hid HO0
     have HE := hid HE0
     have l1 : (0 : Int) ≤ (j : Int) := by omega
     have l2 : (j : Int) < (D.length : Int) := by omega
     clear HO0 HE0 y1 y2 hcx hWa hWb hrv
     generalize D[j].1 = RL at *
     generalize D[j].2 = RH at *
     generalize (Fl.spo D[j]).a = sa at *
     generalize (Fl.spo D[j]).b = sb at *
     generalize (Fl.spo D[j]).p = sp at *
     generalize (Fl.spo D[j]).q = sq at *
     go_wp2_with (first | (go_at_call 74; refine (HO.out _).mono ?_; rintro o w7 ⟨rfl, u7⟩; have U7 := hid u7.old; clear u7) | (go_at_call 75; refine (HE.out _).mono ?_; rintro o w8 ⟨rfl, u8⟩; have U8 := hid (U7.out.trans u8.old); clear u8))
     go_roundw
     case rel => exact ⟨j + 1, hlt, by go_num, hu.trans U8.out⟩
     case measure => simp [intOf]; omega
    ·obtain rfl : j = D.length := by omega
     go_wp2_with fail
     go_region_held3 (SubAt w.heap.size s1 s2 s3 (.slice p1 n1 q1) (.slice p2 D.length q2) (.slice p3 n3 q3)) (first | assumption | exact BR.out | (refine SubAt.old ?_ BR.out; assumption)) (first | (go_at_call_of 46 (Value.slice p1 n1 q1); refine (S1.out _ (HU.out.drew)).mono ?_; rintro o wa ⟨va, rfl, ra, ua⟩; have Ua : Old wr wa := ((Old.refl _).drew).trans ua) | (go_at_call_of 78 (Value.slice p1 n1 q1); refine (sameF _ _ n1 (atN L1) _ (R1.out.old (HU.out.trans Ua)) ra).mono ?_; rintro o wb ⟨rfl, ub⟩; have Ub : Old wr wb := Ua.trans ub) | (go_at_call_of 46 (Value.slice p3 n3 q3); refine (S3.out _ (HU.out.trans Ub)).mono ?_; rintro o wd ⟨vd, rfl, rd, ud⟩; have Ud : Old wr wd := Ub.trans ud) | (go_at_call_of 78 (Value.slice p3 n3 q3); refine (sameF _ _ n3 (atN L3) _ (R3.out.old (HU.out.trans Ud)) rd).mono ?_; rintro o we ⟨rfl, ue⟩; have Ue : Old wr we := Ud.trans ue) | (go_at_call 48; refine (N2.out _ (HU.out.trans Ue)).mono ?_; rintro o wf ⟨vf, rfl, gf, uf⟩; have Uf : Old wr wf := Ue.trans uf) | (go_at_call 47; refine (X2.out _ _ _ gf).mono ?_; rintro o wg ⟨vg, rfl, gg, ug⟩; have Ug : Old wr wg := Uf.trans ug) | (go_at_call 79; refine (same_rows _ _ D.length (atS (D.map Fl.spo)) _ (R2.out.old (HU.out.trans Ug)) (HRow.out _ _ _ gg)).mono ?_; rintro o wh ⟨rfl, uh⟩; have Uh : Old wr wh := Ug.trans uh))
     all_goals go_wp2
     all_goals go_ret
     all_goals exact ⟨rfl, HU.out.trans Uh⟩
  ·go_enter Tryz.func49, Tryz.ntmps49
   go_wp2_with (first | (go_at_call_of 77 (Value.slice p1 n1 q1); refine (K1.out _ ((Old.refl w).alloc _)).mono ?_; rintro o w5 ⟨rfl, u5⟩; have U5 := hid (((Old.refl w).alloc _).trans u5); have B5 := hid (SubAt.old u5 HS.out); obtain ⟨_, _, _, f3, f4, f5⟩ := B5.out; clear u5) | (go_at_call_of 77 (Value.slice p3 n3 q3); refine (K3.out _ U5.out).mono ?_; rintro o w6 ⟨rfl, u6⟩; have U6 := hid (U5.out.trans u6); have B6 := hid (SubAt.old u6 B5.out); clear u6))
   go_ret
   exact ⟨rfl, U6.out⟩
 ·go_enter Tryz.func49, Tryz.ntmps49
  go_wp2_with (first | (go_at_call_of 77 (Value.slice p1 n1 q1); refine (K1.out _ ((Old.refl w).alloc _)).mono ?_; rintro o w5 ⟨rfl, u5⟩; have U5 := hid (((Old.refl w).alloc _).trans u5); have B5 := hid (SubAt.old u5 HS.out); obtain ⟨_, _, _, f3, f4, f5⟩ := B5.out; clear u5) | (go_at_call_of 77 (Value.slice p3 n3 q3); refine (K3.out _ U5.out).mono ?_; rintro o w6 ⟨rfl, u6⟩; have U6 := hid (U5.out.trans u6); have B6 := hid (SubAt.old u6 B5.out); clear u6))
  go_ret
  exact ⟨rfl, U5.out⟩
end Go.Proofs.YthjfkmjeppdcnaaGreat
namespace Go.Proofs.YthjfkmjeppdcnaaGreat
set_option linter.unusedSimpArgs false
open Go.RowKit
set_option linter.unusedVariables false
attribute [local go_sem] run_bits run_frombits run_store_float eqF
end Go.Proofs.YthjfkmjeppdcnaaGreat
namespace Go.Proofs.YthjfkmjeppdcnaaGreat
set_option linter.unusedSimpArgs false
open Go.RowKit
set_option linter.unusedVariables false
attribute [local go_sem] run_bits run_frombits run_store_float eqF
structure TB (m : Nat) (s1 s2 s3 : Int) (v1 v2 v3 x y z : Value) (W : World) : Prop where
 s : SubAt m s1 s2 s3 v1 v2 v3 W
 r : SubAt (m + 1) 0 0 0 (.slice none 0 0) (.slice none 0 0) (.slice none 0 0) W
 o : SubAt (m + 2) s1 s2 s3 x y z W
 fr : ∀ j, j < 6 → W.frozen? ⟨m + 1, j, none⟩ = false
 fo : ∀ j, j < 6 → W.frozen? ⟨m + 2, j, none⟩ = false
theorem SubAt.cellJ {m : Nat} {s1 s2 s3 : Int} {v1 v2 v3 : Value} {w : World} (h : SubAt m s1 s2 s3 v1 v2 v3 w) (j : Nat) (hj : j < 6) : ∃ z, w.cell? ⟨m, j, none⟩ = some z := by
 match j, hj with
 | 0, _ => exact ⟨_, h.1⟩
 | 1, _ => exact ⟨_, h.2.1⟩
 | 2, _ => exact ⟨_, h.2.2.1⟩
 | 3, _ => exact ⟨_, h.2.2.2.1⟩
 | 4, _ => exact ⟨_, h.2.2.2.2.1⟩
 | 5, _ => exact ⟨_, h.2.2.2.2.2⟩
theorem TB.old {m : Nat} {s1 s2 s3 : Int} {v1 v2 v3 x y z : Value} {W W' : World} (h : TB m s1 s2 s3 v1 v2 v3 x y z W) (u : Old W W') : TB m s1 s2 s3 v1 v2 v3 x y z W' :=
 ⟨SubAt.old u h.s, SubAt.old u h.r, SubAt.old u h.o, fun j hj => by obtain ⟨q, hq⟩ := h.r.cellJ j hj; exact u.keepF hq (h.fr j hj), fun j hj => by obtain ⟨q, hq⟩ := h.o.cellJ j hj; exact u.keepF hq (h.fo j hj)⟩
theorem SubAt.otherB {m k o : Nat} {s1 s2 s3 : Int} {v1 v2 v3 : Value} {w : World} (h : SubAt m s1 s2 s3 v1 v2 v3 w) (hk : k ≠ m) (u : Value) : SubAt m s1 s2 s3 v1 v2 v3 (w.setCell ⟨k, o, none⟩ u) := by
 have F : ∀ j, (w.setCell ⟨k, o, none⟩ u).cell? ⟨m, j, none⟩ = w.cell? ⟨m, j, none⟩ := fun j => World.cell?_setCell_far w ⟨k, o, none⟩ ⟨m, j, none⟩ u hk
 exact ⟨by rw [F]; exact h.1, by rw [F]; exact h.2.1, by rw [F]; exact h.2.2.1, by rw [F]; exact h.2.2.2.1, by rw [F]; exact h.2.2.2.2.1, by rw [F]; exact h.2.2.2.2.2⟩
theorem SubAt.setF {m : Nat} {s1 s2 s3 : Int} {x y z : Value} {w : World} (h : SubAt m s1 s2 s3 x y z w) (u : Value) : SubAt m s1 s2 s3 u y z (w.setCell ⟨m, 3, none⟩ u) ∧ SubAt m s1 s2 s3 x u z (w.setCell ⟨m, 4, none⟩ u) ∧ SubAt m s1 s2 s3 x y u (w.setCell ⟨m, 5, none⟩ u) := by
 have F : ∀ (o j : Nat), o ≠ j → (w.setCell ⟨m, o, none⟩ u).cell? ⟨m, j, none⟩ = w.cell? ⟨m, j, none⟩ := fun o j hn => World.cell?_setCell_other _ _ _ _ (fun q => hn (by cases q; rfl))
 obtain ⟨h0, h1, h2, h3, h4, h5⟩ := h
 refine ⟨⟨?_, ?_, ?_, ?_, ?_, ?_⟩, ⟨?_, ?_, ?_, ?_, ?_, ?_⟩, ⟨?_, ?_, ?_, ?_, ?_, ?_⟩⟩
 ·rw [F 3 0 (by decide)]; exact h0
 ·rw [F 3 1 (by decide)]; exact h1
 ·rw [F 3 2 (by decide)]; exact h2
 ·exact World.cell?_setCell_same _ _ _ h3
 ·rw [F 3 4 (by decide)]; exact h4
 ·rw [F 3 5 (by decide)]; exact h5
 ·rw [F 4 0 (by decide)]; exact h0
 ·rw [F 4 1 (by decide)]; exact h1
 ·rw [F 4 2 (by decide)]; exact h2
 ·rw [F 4 3 (by decide)]; exact h3
 ·exact World.cell?_setCell_same _ _ _ h4
 ·rw [F 4 5 (by decide)]; exact h5
 ·rw [F 5 0 (by decide)]; exact h0
 ·rw [F 5 1 (by decide)]; exact h1
 ·rw [F 5 2 (by decide)]; exact h2
 ·rw [F 5 3 (by decide)]; exact h3
 ·rw [F 5 4 (by decide)]; exact h4
 ·exact World.cell?_setCell_same _ _ _ h5
theorem TB.set {m : Nat} {s1 s2 s3 : Int} {v1 v2 v3 x y z : Value} {W : World} (h : TB m s1 s2 s3 v1 v2 v3 x y z W) (u : Value) : TB m s1 s2 s3 v1 v2 v3 u y z (W.setCell ⟨m + 2, 3, none⟩ u) ∧ TB m s1 s2 s3 v1 v2 v3 x u z (W.setCell ⟨m + 2, 4, none⟩ u) ∧ TB m s1 s2 s3 v1 v2 v3 x y u (W.setCell ⟨m + 2, 5, none⟩ u) :=
 ⟨⟨h.s.otherB (by omega) u, h.r.otherB (by omega) u, (h.o.setF u).1, fun j hj => by simpa using h.fr j hj, fun j hj => by simpa using h.fo j hj⟩,
  ⟨h.s.otherB (by omega) u, h.r.otherB (by omega) u, (h.o.setF u).2.1, fun j hj => by simpa using h.fr j hj, fun j hj => by simpa using h.fo j hj⟩,
  ⟨h.s.otherB (by omega) u, h.r.otherB (by omega) u, (h.o.setF u).2.2, fun j hj => by simpa using h.fr j hj, fun j hj => by simpa using h.fo j hj⟩⟩
theorem refCheck_form (s1 s2 s3 : Int) (p1 p2 p3 : Option Addr) (L1 L3 : List Nat) (D : List (Nat × Nat)) (q1 q2 q3 : Nat) (w : World)
    (h1 : FRow w (.slice p1 L1.length q1) L1.length (atN L1)) (h2 : SRow w (.slice p2 D.length q2) D.length (atS (D.map Fl.spo))) (h3 : FRow w (.slice p3 L3.length q3) L3.length (atN L3))
    (hD : Fl.NL D) (e1 : Fl.sortL (atN L1) L1.length = L1) (e3 : Fl.sortL (atN L3) L3.length = L3) (hW1 : ∀ y ∈ L1, Fl.W y) (hW3 : ∀ y ∈ L3, Fl.W y) :
    Calls Tryz.prog 49 #[.agg #[.int .i64 s1, .int .i64 s2, .int .i64 s3, .slice p1 L1.length q1, .slice p2 D.length q2, .slice p3 L3.length q3]] w fun e w' => e = .returned (.int .i64 (chkC (misB s1 s2 s3) (crowdB L1.length D.length L3.length) (Fl.anyG (fun i => Fl.nan (atN L1 i)) L1.length || Fl.anyG (fun i => Fl.nan (atN L3 i)) L3.length))) ∧ Old w w' := by
 cases hm : misB s1 s2 s3
 ·cases hc : crowdB L1.length D.length L3.length
  ·have H := refCheck_late s1 s2 s3 p1 p2 p3 L1 L3 D q1 q2 q3 w hm hc h1 h2 h3 hD e1 e3 hW1 hW3
   unfold chkC; simpa using H
  ·have H := refCheck_early s1 s2 s3 p1 p2 p3 L1.length D.length L3.length q1 q2 q3 w (.inr ⟨hm, hc⟩)
   rw [hm] at H
   unfold chkC; simpa using H
 ·have H := refCheck_early s1 s2 s3 p1 p2 p3 L1.length D.length L3.length q1 q2 q3 w (.inl hm)
  rw [hm] at H
  unfold chkC; simpa using H
end Go.Proofs.YthjfkmjeppdcnaaGreat
namespace Go.Proofs.YthjfkmjeppdcnaaGreat
open Go.RowKit Go.Lib
set_option linter.unusedVariables false
set_option linter.unusedSimpArgs false
set_option maxRecDepth 20000
def spEq (s t : Sp) : Bool := (s.p == t.p) && (s.q == t.q) && (decide (s.a = t.a) && decide (s.b = t.b))
namespace Fl
def spU (f g : Nat → Sp) : Nat → Bool | 0 => true | n + 1 => spU f g n && spEq (f n) (g n)
theorem spU_false (f g : Nat → Sp) : ∀ n k, k < n → spEq (f k) (g k) = false → spU f g n = false
 | n + 1, k, h, e => by
  show (spU f g n && spEq (f n) (g n)) = false
  by_cases q : k = n
  ·subst q; rw [e, Bool.and_false]
  ·rw [spU_false f g n k (by omega) e]; rfl
end Fl
theorem FRow.nlen {w : World} {v : Value} {n : Nat} {x : Nat → Nat} (h : FRow w v n x) : n ≤ 9223372036854775807 ∧ ∃ a c, v = .slice a n c := by
 obtain ⟨h1, a, c, e, _⟩ := h
 exact ⟨h1, a, c, e⟩
theorem SRow.nlen {w : World} {v : Value} {n : Nat} {f : Nat → Sp} (h : SRow w v n f) : ∃ a c, v = .slice a n c := by
 obtain ⟨h1, a, c, e, _⟩ := h
 exact ⟨a, c, e⟩
abbrev X82 (b o b' o' : Nat) (s t : Sp) (w : World) : Prop := (w.cell? ⟨b, o, none⟩ = some (.float .f64 s.a) ∧ w.cell? ⟨b, o + 1, none⟩ = some (.float .f64 s.b) ∧ w.cell? ⟨b, o + 2, none⟩ = some (.bool s.p) ∧ w.cell? ⟨b, o + 3, none⟩ = some (.bool s.q)) ∧ w.cell? ⟨b', o', none⟩ = some (.float .f64 t.a) ∧ w.cell? ⟨b', o' + 1, none⟩ = some (.float .f64 t.b) ∧ w.cell? ⟨b', o' + 2, none⟩ = some (.bool t.p) ∧ w.cell? ⟨b', o' + 3, none⟩ = some (.bool t.q)
theorem X82.old {b o b' o' : Nat} {s t : Sp} {w w' : World} (u : Old w w') (h : X82 b o b' o' s t w) : X82 b o b' o' s t w' := ⟨⟨u.keep h.1.1, u.keep h.1.2.1, u.keep h.1.2.2.1, u.keep h.1.2.2.2⟩, u.keep h.2.1, u.keep h.2.2.1, u.keep h.2.2.2.1, u.keep h.2.2.2.2⟩
attribute [local go_sem] run_bits run_frombits run_store_float eqF
set_option maxHeartbeats 400000 in
theorem sameKeys_ne (a b : Option Addr) (n m c d : Nat) (h : n ≠ m) (w : World) : Calls Tryz.prog 78 #[.slice a n c, .slice b m d] w fun e w' => e = .returned (.bool false) ∧ w' = w := by
 have t : ((n : Int) != (m : Int)) = true := by rw [bne_iff_ne]; omega
 clear h
 go_enter Tryz.func78, Tryz.ntmps78
 go_wp2
 go_ret
 exact ⟨rfl, rfl⟩
theorem sameKeysG (v1 v2 : Value) (n m : Nat) (x y : Nat → Nat) (w : World) (h1 : FRow w v1 n x) (h2 : FRow w v2 m y) :
    Calls Tryz.prog 78 #[v1, v2] w fun e w' => e = .returned (.bool (decide (n = m) && Fl.sameU x y n)) ∧ Old w w' := by
 by_cases e : n = m
 ·subst e
  rw [decide_eq_true rfl, Bool.true_and]
  have hb := h1.nlen.1
  rcases h1.cases with ⟨rfl, a, c, rfl⟩ | ⟨hn, b, off, c, rfl, hc⟩
  ·obtain ⟨_, a', c', rfl⟩ := h2.nlen
   exact (sameKeys_none a a' c c' w).mono fun e w' h => ⟨h.1, by rw [h.2]; exact Old.refl _⟩
  ·rcases h2.cases with ⟨h0, _⟩ | ⟨_, b', off', c', rfl, hc'⟩
   ·omega
   ·exact (sameKeys_any b off c b' off' c' n x y (by unfold maxLen; omega) w (fun i hi => (hc i hi).2) (fun i hi => (hc' i hi).2)).mono fun e w' h => ⟨h.1, h.2.old⟩
 ·rw [decide_eq_false e, Bool.false_and]
  obtain ⟨_, a, c, rfl⟩ := h1.nlen
  obtain ⟨_, a', c', rfl⟩ := h2.nlen
  exact (sameKeys_ne a a' n m c c' e w).mono fun e w' h => ⟨h.1, by rw [h.2]; exact Old.refl _⟩
set_option maxHeartbeats 400000 in
theorem sameSpans_ne (a b : Option Addr) (n m c d : Nat) (h : n ≠ m) (w : World) : Calls Tryz.prog 79 #[.slice a n c, .slice b m d] w fun e w' => e = .returned (.bool false) ∧ w' = w := by
 have t : ((n : Int) != (m : Int)) = true := by rw [bne_iff_ne]; omega
 clear h
 go_enter Tryz.func79, Tryz.ntmps79
 go_wp2
 go_ret
 exact ⟨rfl, rfl⟩
set_option maxHeartbeats 1000000 in
theorem sameSpans_eq (v1 v2 : Value) (n : Nat) (f g : Nat → Sp) (w : World) (h1 : SRow w v1 n f) (h2 : SRow w v2 n g) :
    Calls Tryz.prog 79 #[v1, v2] w fun e w' => e = .returned (.bool (Fl.spU f g n)) ∧ Old w w' := by
 obtain ⟨hm, a, c, rfl, hc⟩ := h1
 obtain ⟨_, a', c', rfl, hc'⟩ := h2
 have HC := hid hc
 have HC' := hid hc'
 clear hc hc'
 go_enter Tryz.func79, Tryz.ntmps79
 go_wp2
 go_loopw [5] (fun i wr => ∃ j : Nat, j ≤ n ∧ i = .int .i64 (j : Nat) ∧ Fl.spU f g j = true ∧ Old w wr) (fun i _ => n - (intOf i).toNat)
 case atStart => exact ⟨0, Nat.zero_le _, rfl, rfl, Old.refl _⟩
 case round =>
  obtain ⟨j, hj, rfl, hs, hu⟩ := hrel
  have HSU := hid hs
  clear hs
  by_cases hlt : j < n
  ·obtain ⟨b, off, ha, _, _, c0, c1, c2, c3⟩ := HC.out j hlt
   obtain ⟨b', off', ha', _, _, d0, d1, d2, d3⟩ := HC'.out j hlt
   subst ha ha'
   have hX : X82 b (off + j * 4) b' (off' + j * 4) (f j) (g j) wr := ⟨⟨hu.keep c0, hu.keep c1, hu.keep c2, hu.keep c3⟩, hu.keep d0, hu.keep d1, hu.keep d2, hu.keep d3⟩
   have HK0 := fun W => sameSpan_any (f j).a (f j).b (g j).a (g j).b (f j).p (f j).q (g j).p (g j).q W
   have l1 : (0 : Int) ≤ (j : Int) := by omega
   have l2 : (j : Int) < (n : Int) := by omega
   clear c0 c1 c2 c3 d0 d1 d2 d3
   have HSt := hid (show Fl.spU f g (j + 1) = (Fl.spU f g j && spEq (f j) (g j)) from rfl)
   have HFl := hid (fun (e : spEq (f j) (g j) = false) => Fl.spU_false f g n j hlt e)
   have HQ := hid (show ((f j).p == (g j).p && (f j).q == (g j).q && (decide ((f j).a = (g j).a) && decide ((f j).b = (g j).b))) = spEq (f j) (g j) from rfl)
   rw [HQ.out] at HK0
   have HK := hid HK0
   clear HK0 HQ
   generalize hs1 : f j = s1 at *
   generalize hs2 : g j = s2 at *
   clear hs1 hs2
   cases hq : spEq s1 s2
   ·have HF := hid (HFl.out hq)
    rw [hq] at HK
    clear hq HFl HSt
    go_wp2_with fail
    go_region_held3 (X82 b (off + j * 4) b' (off' + j * 4) s1 s2) (first | assumption | exact hX | (refine X82.old ?_ hX; assumption)) (first | (go_at_call 116; refine (HK.out _).mono ?_; rintro o w5 ⟨rfl, u5⟩; have U5 : Old wr w5 := ((Old.refl _).drew).trans u5.old))
    all_goals go_wp2
    go_ret
    exact ⟨ret_b HF.out.symm, Old.trans hu U5⟩
   ·have HF := hid (show Fl.spU f g (j + 1) = true by rw [HSt.out, HSU.out, hq, Bool.and_true])
    rw [hq] at HK
    clear hq HFl HSt
    go_wp2_with fail
    go_region_held3 (X82 b (off + j * 4) b' (off' + j * 4) s1 s2) (first | assumption | exact hX | (refine X82.old ?_ hX; assumption)) (first | (go_at_call 116; refine (HK.out _).mono ?_; rintro o w5 ⟨rfl, u5⟩; have U5 : Old wr w5 := ((Old.refl _).drew).trans u5.old))
    all_goals go_wp2
    go_roundw
    case rel => exact ⟨j + 1, hlt, by go_num, HF.out, Old.trans hu U5⟩
    case measure => simp [intOf]; omega
  ·obtain rfl : j = n := by omega
   go_wp2
   go_ret
   exact ⟨ret_b HSU.out.symm, hu⟩
theorem sameSpansG (v1 v2 : Value) (n m : Nat) (f g : Nat → Sp) (w : World) (h1 : SRow w v1 n f) (h2 : SRow w v2 m g) :
    Calls Tryz.prog 79 #[v1, v2] w fun e w' => e = .returned (.bool (decide (n = m) && Fl.spU f g n)) ∧ Old w w' := by
 by_cases e : n = m
 ·subst e
  rw [decide_eq_true rfl, Bool.true_and]
  exact sameSpans_eq v1 v2 n f g w h1 h2
 ·rw [decide_eq_false e, Bool.false_and]
  obtain ⟨a, c, rfl⟩ := h1.nlen
  obtain ⟨a', c', rfl⟩ := h2.nlen
  exact (sameSpans_ne a a' n m c c' e w).mono fun e w' h => ⟨h.1, by rw [h.2]; exact Old.refl _⟩
end Go.Proofs.YthjfkmjeppdcnaaGreat
namespace Go.Proofs.YthjfkmjeppdcnaaGreat
open Go.RowKit Go.Lib
set_option linter.unusedVariables false
set_option linter.unusedSimpArgs false
set_option maxRecDepth 20000
theorem sp_ext {s t : Sp} (h : spEq s t = true) : s = t := by
 obtain ⟨a, b, p, q⟩ := s
 obtain ⟨a', b', p', q'⟩ := t
 simp [spEq] at h
 simp [h]
theorem spEq_false {s t : Sp} (h : spEq s t = false) : s ≠ t := fun e => by subst e; simp [spEq] at h
theorem ordE (a b : Nat) (ha : Fl.W a) (hb : Fl.W b) : (FloatKind.f64.format.order a b == some .eq) = (!Fl.nan a && !Fl.nan b && decide (Fl.code b = Fl.code a)) := (Fl.ord_gt_code a b ha hb).2.1
abbrev P82 (m : Nat) (s t : Sp) (w : World) : Prop := SpAt m s.a s.b s.p s.q w ∧ SpAt (m + 1) t.a t.b t.p t.q w
theorem sp_new (w : World) (a b : Nat) (p q : Bool) (w1 : World) (e : w.alloc (.cells #[.float .f64 a, .float .f64 b, .bool p, .bool q] 93) = w1) (m : Nat) (hm : w.heap.size = m) : SpAt m a b p q w1 ∧ Old w w1 := by
 subst e hm
 exact ⟨by simp [SpAt], (Old.refl w).alloc _⟩
theorem SpAt.oldq {m a b : Nat} {p q : Bool} {w w' : World} (u : Old w w') (h : SpAt m a b p q w) : SpAt m a b p q w' := ⟨u.keep h.1, u.keep h.2.1, u.keep h.2.2.1, u.keep h.2.2.2⟩
attribute [local go_sem] run_bits run_frombits run_store_float eqF
set_option maxHeartbeats 400000 in
theorem alike_any (a b : Nat) (ha : Fl.W a) (hb : Fl.W b) (w : World) : Calls Tryz.prog 93 #[.float .f64 a, .float .f64 b] w fun e w' => e = .returned (.bool (decide (a = b))) ∧ w' = w := by
 go_enter Tryz.func93, Tryz.ntmps93
 go_wp2
 go_ret
 refine ⟨ret_b ?_, rfl⟩
 by_cases e : a = b
 ·subst e; simp
 ·have : ((a : Int) == (b : Int)) = false := by rw [beq_eq_false_iff_ne]; omega
  simp [this, e]
set_option maxHeartbeats 1000000 in
theorem spansAlike_any (s t : Sp) (h1 : Fl.W s.a) (h2 : Fl.W s.b) (h3 : Fl.W t.a) (h4 : Fl.W t.b) (na : Fl.nan s.a = false) (nb : Fl.nan s.b = false) (w : World) :
    Calls Tryz.prog 95 #[.agg #[.float .f64 s.a, .float .f64 s.b, .bool s.p, .bool s.q], .agg #[.float .f64 t.a, .float .f64 t.b, .bool t.p, .bool t.q]] w fun e w' => e = .returned (.bool (spEq s t)) ∧ Old w w' := by
 have HO1 := ordE s.a t.a h1 h3
 have HO2 := ordE s.b t.b h2 h4
 rw [na] at HO1
 rw [nb] at HO2
 have A1 := hid (fun W => alike_any s.a t.a h1 h3 W)
 have A2 := hid (fun W => alike_any s.b t.b h2 h4 W)
 have HE := hid (show spEq s t = ((s.p == t.p) && (s.q == t.q) && (decide (s.a = t.a) && decide (s.b = t.b))) from rfl)
 have HV := hid (((Old.refl w).alloc (.cells #[.float .f64 s.a, .float .f64 s.b, .bool s.p, .bool s.q] 93)).alloc (.cells #[.float .f64 t.a, .float .f64 t.b, .bool t.p, .bool t.q] 93))
 by_cases e1 : s.a = t.a
 ·by_cases e2 : s.b = t.b
  ·have o1 : (FloatKind.f64.format.order s.a t.a == some .eq) = true := by rw [HO1, ← e1, na]; simp
   have o2 : (FloatKind.f64.format.order s.b t.b == some .eq) = true := by rw [HO2, ← e2, nb]; simp
   rw [decide_eq_true e1] at A1 HE
   rw [decide_eq_true e2] at A2 HE
   clear HO1 HO2 e1 e2
   generalize spEq s t = r at *
   generalize s.p = sp at *
   generalize t.p = tp at *
   generalize s.q = sq at *
   generalize t.q = tq at *
   cases hp : (sp == tp)
   ·rw [hp] at HE
    go_enter Tryz.func95, Tryz.ntmps95
    go_wp2_with (first | (go_at_call_of 93 (Value.float .f64 t.a); refine (A1.out _).mono ?_; rintro e w5 ⟨rfl, hq⟩; have hq2 := hq.symm; subst hq2) | (go_at_call_of 93 (Value.float .f64 t.b); refine (A2.out _).mono ?_; rintro e w6 ⟨rfl, hq⟩; have hq2 := hq.symm; subst hq2))
    all_goals go_ret
    all_goals exact ⟨by rw [HE.out]; simp, ((Old.refl w).alloc _).alloc _⟩
   ·rw [hp] at HE
    cases hq0 : (sq == tq)
    ·rw [hq0] at HE
     go_enter Tryz.func95, Tryz.ntmps95
     go_wp2_with (first | (go_at_call_of 93 (Value.float .f64 t.a); refine (A1.out _).mono ?_; rintro e w5 ⟨rfl, hq⟩; have hq2 := hq.symm; subst hq2) | (go_at_call_of 93 (Value.float .f64 t.b); refine (A2.out _).mono ?_; rintro e w6 ⟨rfl, hq⟩; have hq2 := hq.symm; subst hq2))
     all_goals go_ret
     all_goals exact ⟨by rw [HE.out]; simp, ((Old.refl w).alloc _).alloc _⟩
    ·rw [hq0] at HE
     go_enter Tryz.func95, Tryz.ntmps95
     go_wp2_with (first | (go_at_call_of 93 (Value.float .f64 t.a); refine (A1.out _).mono ?_; rintro e w5 ⟨rfl, hq⟩; have hq2 := hq.symm; subst hq2) | (go_at_call_of 93 (Value.float .f64 t.b); refine (A2.out _).mono ?_; rintro e w6 ⟨rfl, hq⟩; have hq2 := hq.symm; subst hq2))
     all_goals go_ret
     all_goals exact ⟨by rw [HE.out]; simp, ((Old.refl w).alloc _).alloc _⟩
  ·have HE2 := hid (show spEq s t = false by rw [HE.out, decide_eq_false e2]; simp)
   rw [decide_eq_true e1] at A1
   rw [decide_eq_false e2] at A2
   rw [HE2.out]
   clear HO1 HO2 e1 e2 HE HE2
   go_enter Tryz.func95, Tryz.ntmps95
   go_wp2_with (first | (go_at_call_of 93 (Value.float .f64 t.a); refine (A1.out _).mono ?_; rintro e w5 ⟨rfl, hq⟩; have hq2 := hq.symm; subst hq2) | (go_at_call_of 93 (Value.float .f64 t.b); refine (A2.out _).mono ?_; rintro e w6 ⟨rfl, hq⟩; have hq2 := hq.symm; subst hq2))
   all_goals go_ret
   all_goals exact ⟨rfl, ((Old.refl w).alloc _).alloc _⟩
 ·have HE2 := hid (show spEq s t = false by rw [HE.out, decide_eq_false e1]; simp)
  rw [decide_eq_false e1] at A1
  rw [HE2.out]
  clear HO1 HO2 e1 HE HE2 A2
  go_enter Tryz.func95, Tryz.ntmps95
  go_wp2_with (first | (go_at_call_of 93 (Value.float .f64 t.a); refine (A1.out _).mono ?_; rintro e w5 ⟨rfl, hq⟩; have hq2 := hq.symm; subst hq2))
  all_goals go_ret
  all_goals exact ⟨rfl, ((Old.refl w).alloc _).alloc _⟩
set_option maxHeartbeats 1000000 in
theorem equalF_any (v1 v2 : Value) (n m : Nat) (x y : Nat → Nat) (w : World) (h1 : FRow w v1 n x) (h2 : FRow w v2 m y) :
    Calls Tryz.prog 92 #[v1, v2, .func (.func 93) #[] #[]] w fun e w' => e = .returned (.bool (decide (n = m) && Fl.sameU x y n)) ∧ Old w w' := by
 obtain ⟨hb, a, c, rfl, hc⟩ := h1
 obtain ⟨hb', a', c', rfl, hc'⟩ := h2
 by_cases e : n = m
 ·subst e
  rw [decide_eq_true rfl, Bool.true_and]
  have HC := hid hc
  have HC' := hid hc'
  clear hc hc' hb'
  go_enter Tryz.func92, Tryz.ntmps92
  go_wp2
  go_loopw [17] (fun i wr => ∃ j : Nat, j ≤ n ∧ i = .int .i64 (j : Nat) ∧ Fl.sameU x y j = true ∧ Old w wr) (fun i _ => n - (intOf i).toNat)
  case atStart => exact ⟨0, Nat.zero_le _, rfl, rfl, Old.refl _⟩
  case round =>
   obtain ⟨j, hj, rfl, hs, hu⟩ := hrel
   have HSU := hid hs
   have HU := hid hu
   clear hs hu
   by_cases hlt : j < n
   ·obtain ⟨b, off, ha, hW, c0⟩ := HC.out j hlt
    obtain ⟨b', off', ha', hW', d0⟩ := HC'.out j hlt
    subst ha ha'
    have x0 := HU.out.keep c0
    have y0 := HU.out.keep d0
    have HA := hid (fun W => alike_any (x j) (y j) hW hW' W)
    have l1 : (0 : Int) ≤ (j : Int) := by omega
    have l2 : (j : Int) < (n : Int) := by omega
    clear c0 d0 hW hW'
    have HSt := hid (show Fl.sameU x y (j + 1) = (Fl.sameU x y j && decide (x j = y j)) from rfl)
    have HFl := hid (fun (e : ¬ x j = y j) => Fl.sameU_false x y n j hlt e)
    generalize hs1 : x j = s1 at *
    generalize hs2 : y j = s2 at *
    clear hs1 hs2
    by_cases hq : s1 = s2
    ·have HF := hid (show Fl.sameU x y (j + 1) = true by rw [HSt.out, HSU.out, decide_eq_true hq, Bool.and_true])
     rw [decide_eq_true hq] at HA
     clear hq HFl HSt
     go_wp2_with (first | (go_at_call 93; refine (HA.out _).mono ?_; rintro e w5 ⟨rfl, hq⟩; have hq2 := hq.symm; subst hq2))
     go_roundw
     case rel => exact ⟨j + 1, hlt, by go_num, HF.out, HU.out⟩
     case measure => simp [intOf]; omega
    ·have HF := hid (HFl.out hq)
     rw [decide_eq_false hq] at HA
     clear hq HFl HSt
     go_wp2_with (first | (go_at_call 93; refine (HA.out _).mono ?_; rintro e w5 ⟨rfl, hq⟩; have hq2 := hq.symm; subst hq2))
     go_ret
     exact ⟨ret_b HF.out.symm, HU.out⟩
   ·obtain rfl : j = n := by omega
    go_wp2
    go_ret
    exact ⟨ret_b HSU.out.symm, HU.out⟩
 ·rw [decide_eq_false e, Bool.false_and]
  have t : ((n : Int) != (m : Int)) = true := by rw [bne_iff_ne]; omega
  clear e hc hc'
  go_enter Tryz.func92, Tryz.ntmps92
  go_wp2
  go_ret
  exact ⟨rfl, Old.refl _⟩
set_option maxHeartbeats 1000000 in
theorem equalS_any (v1 v2 : Value) (n m : Nat) (f g : Nat → Sp) (w : World) (h1 : SRow w v1 n f) (h2 : SRow w v2 m g) (hn : ∀ i, i < n → Fl.nan (f i).a = false ∧ Fl.nan (f i).b = false) :
    Calls Tryz.prog 94 #[v1, v2, .func (.func 95) #[] #[]] w fun e w' => e = .returned (.bool (decide (n = m) && Fl.spU f g n)) ∧ Old w w' := by
 obtain ⟨hb, a, c, rfl, hc⟩ := h1
 obtain ⟨hb', a', c', rfl, hc'⟩ := h2
 by_cases e : n = m
 ·subst e
  rw [decide_eq_true rfl, Bool.true_and]
  have HC := hid hc
  have HC' := hid hc'
  have HNn := hid hn
  clear hc hc' hb' hn
  go_enter Tryz.func94, Tryz.ntmps94
  go_wp2
  go_loopw [17] (fun i wr => ∃ j : Nat, j ≤ n ∧ i = .int .i64 (j : Nat) ∧ Fl.spU f g j = true ∧ Old w wr) (fun i _ => n - (intOf i).toNat)
  case atStart => exact ⟨0, Nat.zero_le _, rfl, rfl, Old.refl _⟩
  case round =>
   obtain ⟨j, hj, rfl, hs, hu⟩ := hrel
   have HSU := hid hs
   have HU := hid hu
   clear hs hu
   by_cases hlt : j < n
   ·obtain ⟨b, off, ha, hW, hWb, c0, c1, c2, c3⟩ := HC.out j hlt
    obtain ⟨b', off', ha', hW', hWb', d0, d1, d2, d3⟩ := HC'.out j hlt
    subst ha ha'
    have x0 := HU.out.keep c0
    have x1 := HU.out.keep c1
    have x2 := HU.out.keep c2
    have x3 := HU.out.keep c3
    have y0 := HU.out.keep d0
    have y1 := HU.out.keep d1
    have y2 := HU.out.keep d2
    have y3 := HU.out.keep d3
    have hnn := HNn.out j hlt
    have HA := hid (fun W => spansAlike_any (f j) (g j) hW hWb hW' hWb' hnn.1 hnn.2 W)
    have l1 : (0 : Int) ≤ (j : Int) := by omega
    have l2 : (j : Int) < (n : Int) := by omega
    clear c0 c1 c2 c3 d0 d1 d2 d3 hW hW' hWb hWb' hnn
    have HSt := hid (show Fl.spU f g (j + 1) = (Fl.spU f g j && spEq (f j) (g j)) from rfl)
    have HFl := hid (fun (e : spEq (f j) (g j) = false) => Fl.spU_false f g n j hlt e)
    generalize hs1 : f j = s1 at *
    generalize hs2 : g j = s2 at *
    clear hs1 hs2
    go_upto_region 6 with fail
    generalize hwa : wr.alloc (.cells #[.float .f64 s1.a, .float .f64 s1.b, .bool s1.p, .bool s1.q] 93) = wa at *
    generalize hba : wr.heap.size = ba at *
    obtain ⟨hA, uA⟩ := sp_new wr _ _ _ _ wa hwa ba hba
    have z0 := uA.keep y0
    have z1 := uA.keep y1
    have z2 := uA.keep y2
    have z3 := uA.keep y3
    clear hwa hba x0 x1 x2 x3 y0 y1 y2 y3
    go_upto_region 7 with fail
    generalize hwb : wa.alloc (.cells #[.float .f64 s2.a, .float .f64 s2.b, .bool s2.p, .bool s2.q] 93) = wb at *
    generalize hbb : wa.heap.size = bb at *
    obtain ⟨⟨e0, e1, e2, e3⟩, uB⟩ := sp_new wa _ _ _ _ wb hwb bb hbb
    obtain ⟨d0, d1, d2, d3⟩ := SpAt.oldq uB hA
    have HV := hid ((HU.out.trans uA).trans uB)
    clear hwb hbb uA uB hA z0 z1 z2 z3
    cases hq : spEq s1 s2
    ·have HF := hid (HFl.out hq)
     rw [hq] at HA
     clear hq HFl HSt
     go_wp2_with (first | (go_at_call 95; refine (HA.out _).mono ?_; rintro e w5 ⟨rfl, u5⟩; have U5 := hid u5; clear u5))
     go_ret
     exact ⟨ret_b HF.out.symm, HV.out.trans U5.out⟩
    ·have HF := hid (show Fl.spU f g (j + 1) = true by rw [HSt.out, HSU.out, hq, Bool.and_true])
     rw [hq] at HA
     clear hq HFl HSt
     go_wp2_with (first | (go_at_call 95; refine (HA.out _).mono ?_; rintro e w5 ⟨rfl, u5⟩; have U5 := hid u5; clear u5))
     go_roundw
     case rel => exact ⟨j + 1, hlt, by go_num, HF.out, HV.out.trans U5.out⟩
     case measure => simp [intOf]; omega
   ·obtain rfl : j = n := by omega
    go_wp2
    go_ret
    exact ⟨ret_b HSU.out.symm, HU.out⟩
 ·rw [decide_eq_false e, Bool.false_and]
  have t : ((n : Int) != (m : Int)) = true := by rw [bne_iff_ne]; omega
  clear e hc hc'
  go_enter Tryz.func94, Tryz.ntmps94
  go_wp2
  go_ret
  exact ⟨rfl, Old.refl _⟩
end Go.Proofs.YthjfkmjeppdcnaaGreat
namespace Go.Proofs.YthjfkmjeppdcnaaGreat
open Go.RowKit Go.Lib
set_option linter.unusedVariables false
set_option linter.unusedSimpArgs false
set_option maxRecDepth 20000
def ordF (x : Nat → Nat) (n : Nat) : Bool := decide (n = (Fl.sortL x n).length) && Fl.sameU x (atN (Fl.sortL x n)) n
def ordS (f : Nat → Sp) (n : Nat) : Bool := decide (n = (Fl.dfold (Fl.cdl f n)).length) && Fl.spU f (atS ((Fl.dfold (Fl.cdl f n)).map Fl.spo)) n
def chkO (m c k z o : Bool) : Int := if m = true then 43 else if c = true then 3 else if k = true then 40 else if z = true then 41 else if o = true then 0 else 42
def chkV (s1 s2 s3 : Int) (n1 n2 n3 : Nat) (x1 x3 : Nat → Nat) (f2 : Nat → Sp) : Int := chkO (misB s1 s2 s3) (crowdB n1 n2 n3) (Fl.anyG (fun i => Fl.nan (x1 i)) n1 || Fl.anyG (fun i => Fl.nan (x3 i)) n3) (Fl.anyG (fun i => Fl.csE (f2 i).a (f2 i).b (f2 i).p (f2 i).q) n2) (ordF x1 n1 && ordS f2 n2 && ordF x3 n3)
theorem csE_nan {a b : Nat} {p q : Bool} (h : Fl.csE a b p q = false) : Fl.nan a = false ∧ Fl.nan b = false := by
 have q := Fl.csE_false a b p q h
 exact ⟨q.2.2.1, q.2.2.2.1⟩
theorem anyG_each {g : Nat → Bool} : ∀ {n : Nat}, Fl.anyG g n = false → ∀ i, i < n → g i = false
 | n + 1, h, i, hi => by
  have h' : (Fl.anyG g n || g n) = false := h
  rw [Bool.or_eq_false_iff] at h'
  by_cases e : i = n
  ·subst e; exact h'.2
  ·exact anyG_each h'.1 i (by omega)
theorem sub_new (w : World) (s1 s2 s3 : Int) (v1 v2 v3 : Value) (w1 : World) (e : w.alloc (.cells #[.int .i64 s1, .int .i64 s2, .int .i64 s3, v1, v2, v3] 33) = w1) (m : Nat) (hm : w.heap.size = m) : SubAt m s1 s2 s3 v1 v2 v3 w1 ∧ Old w w1 := by
 subst e hm
 exact ⟨by simp [SubAt], (Old.refl w).alloc _⟩
theorem SRow.ws {w : World} {v : Value} {n : Nat} {f : Nat → Sp} (h : SRow w v n f) : ∀ i, i < n → Fl.W (f i).a ∧ Fl.W (f i).b := fun i hi => by
 obtain ⟨_, a, c, e, hc⟩ := h
 obtain ⟨b, off, _, q1, q2, _⟩ := hc i hi
 exact ⟨q1, q2⟩
theorem FRow.ws {w : World} {v : Value} {n : Nat} {x : Nat → Nat} (h : FRow w v n x) : ∀ i, i < n → Fl.W (x i) := fun i hi => by
 obtain ⟨_, a, c, e, hc⟩ := h
 obtain ⟨b, off, _, q1, _⟩ := hc i hi
 exact q1
attribute [local go_sem] run_bits run_frombits run_store_float eqF
set_option maxHeartbeats 4000000 in
theorem ordered_any (s1 s2 s3 : Int) (a1 a2 a3 : Option Addr) (n1 n2 n3 c1 c2 c3 : Nat) (x1 x3 : Nat → Nat) (f2 : Nat → Sp) (b1 : n1 ≤ 17592186044000) (b2 : n2 ≤ 5864062014805) (b3 : n3 ≤ 17592186044000) (w : World) (h1 : FRow w (.slice a1 n1 c1) n1 x1) (h2 : SRow w (.slice a2 n2 c2) n2 f2) (h3 : FRow w (.slice a3 n3 c3) n3 x3) (hn : ∀ i, i < n2 → Fl.nan (f2 i).a = false ∧ Fl.nan (f2 i).b = false) :
    Calls Tryz.prog 63 #[.agg #[.int .i64 s1, .int .i64 s2, .int .i64 s3, .slice a1 n1 c1, .slice a2 n2 c2, .slice a3 n3 c3]] w fun e w' => e = .returned (.bool (ordF x1 n1 && ordS f2 n2 && ordF x3 n3)) ∧ Old w w' := by
 have hk2 := Fl.dfold_ok _ (Fl.cdl f2 n2) rfl (Fl.cdl_RV f2 n2 h2.ws)
 have hl2 : (Fl.dfold (Fl.cdl f2 n2)).length ≤ n2 := by have := hk2.2.2; have := Fl.cdl_len f2 n2; omega
 have hl1 := Fl.sortL_len x1 n1
 have hl3 := Fl.sortL_len x3 n3
 have HT1 := hid (fun (W : World) v (h : FOwn w.heap.size W v (Fl.sortL x1 n1)) => h.row (sortL_W x1 n1 h1.ws) (by omega))
 have HT3 := hid (fun (W : World) v (h : FOwn w.heap.size W v (Fl.sortL x3 n3)) => h.row (sortL_W x3 n3 h3.ws) (by omega))
 have HT2 := hid (show ∀ (W : World) v, OwnS w.heap.size W v ((Fl.dfold (Fl.cdl f2 n2)).map Fl.spo) → SRow W v (Fl.dfold (Fl.cdl f2 n2)).length (atS ((Fl.dfold (Fl.cdl f2 n2)).map Fl.spo)) from fun W v h => by
  have q := h.row (fun s hs => by obtain ⟨r, hr, rfl⟩ := List.mem_map.1 hs; exact Fl.spo_W (hk2.1.2 r hr)) (by rw [List.length_map]; omega)
  rw [List.length_map] at q
  exact q)
 have HF := hid (fun (W : World) (u : Old w W) => form_any s1 s2 s3 a1 a2 a3 n1 n2 n3 c1 c2 c3 x1 x3 f2 b1 b2 b3 W (h1.old u) (h2.old u) (h3.old u))
 have R1 := hid h1
 have R2 := hid h2
 have R3 := hid h3
 have HNn := hid hn
 have HO1 := hid (show ordF x1 n1 = (decide (n1 = (Fl.sortL x1 n1).length) && Fl.sameU x1 (atN (Fl.sortL x1 n1)) n1) from rfl)
 have HO3 := hid (show ordF x3 n3 = (decide (n3 = (Fl.sortL x3 n3).length) && Fl.sameU x3 (atN (Fl.sortL x3 n3)) n3) from rfl)
 have HO2 := hid (show ordS f2 n2 = (decide (n2 = (Fl.dfold (Fl.cdl f2 n2)).length) && Fl.spU f2 (atS ((Fl.dfold (Fl.cdl f2 n2)).map Fl.spo)) n2) from rfl)
 clear h1 h2 h3 hn hk2 hl1 hl2 hl3
 generalize ordF x1 n1 = o1 at *
 generalize ordF x3 n3 = o3 at *
 generalize ordS f2 n2 = o2 at *
 generalize Fl.sortL x1 n1 = L1 at *
 generalize Fl.sortL x3 n3 = L3 at *
 generalize Fl.dfold (Fl.cdl f2 n2) = D at *
 go_enter Tryz.func63, Tryz.ntmps63
 go_upto_region 1 with fail
 generalize hw1 : w.alloc (.cells #[.int .i64 s1, .int .i64 s2, .int .i64 s3, .slice a1 n1 c1, .slice a2 n2 c2, .slice a3 n3 c3] 33) = w1 at *
 generalize hsb : w.heap.size = sb at *
 obtain ⟨hS, hV⟩ := sub_new w s1 s2 s3 _ _ _ w1 hw1 sb hsb
 have HV := hid hV
 have HS := hid hS
 have HSZ := hid (show sb ≤ w1.heap.size by have := hV.size; omega)
 obtain ⟨t0, t1, t2, t3, t4, t5⟩ := hS
 clear hw1 hV hsb
 go_upto_region 2 with (first | (go_at_call 32; refine (HF.out _ HV.out).mono ?_; rintro e w5 ⟨p1, p2, p3, q1, q2, q3, rfl, g1, g2, g3, u5⟩; have U5 := hid u5; have G1 := hid (g1.mono' HSZ.out); have G2 := hid (g2.mono' HSZ.out); have G3 := hid (g3.mono' HSZ.out); clear g1 g2 g3 u5))
 generalize hw2 : w5.alloc (.cells #[.int .i64 s1, .int .i64 s2, .int .i64 s3, .slice p1 L1.length q1, .slice p2 D.length q2, .slice p3 L3.length q3] 33) = w2 at *
 generalize hfb : w5.heap.size = fb at *
 obtain ⟨hS2, hV2⟩ := sub_new w5 s1 s2 s3 _ _ _ w2 hw2 fb hfb
 have HV2 := hid ((HV.out.trans U5.out).trans hV2)
 have F1 := hid (HT1.out _ _ (G1.out.old hV2))
 have F2 := hid (HT2.out _ _ (G2.out.old hV2))
 have F3 := hid (HT3.out _ _ (G3.out.old hV2))
 obtain ⟨y0, y1, y2, y3, y4, y5⟩ := SubAt.old (U5.out.trans hV2) HS.out
 obtain ⟨z0, z1, z2, z3, z4, z5⟩ := hS2
 have HB := hid (show SubAt sb s1 s2 s3 (.slice a1 n1 c1) (.slice a2 n2 c2) (.slice a3 n3 c3) w2 ∧ SubAt fb s1 s2 s3 (.slice p1 L1.length q1) (.slice p2 D.length q2) (.slice p3 L3.length q3) w2 from ⟨⟨y0, y1, y2, y3, y4, y5⟩, z0, z1, z2, z3, z4, z5⟩)
 clear hw2 hfb hV2 t0 t1 t2 t3 t4 t5 G1 G2 G3 HF HT1 HT2 HT3 HS
 have E1 := hid (fun (W : World) (u : Old w2 W) => equalF_any _ _ n1 L1.length x1 (atN L1) W (R1.out.old (HV2.out.trans u)) (F1.out.old u))
 have E3 := hid (fun (W : World) (u : Old w2 W) => equalF_any _ _ n3 L3.length x3 (atN L3) W (R3.out.old (HV2.out.trans u)) (F3.out.old u))
 have E2 := hid (fun (W : World) (u : Old w2 W) => equalS_any _ _ n2 D.length f2 (atS (D.map Fl.spo)) W (R2.out.old (HV2.out.trans u)) (F2.out.old u) HNn.out)
 rw [← HO1.out] at E1
 rw [← HO2.out] at E2
 rw [← HO3.out] at E3
 clear HO1 HO2 HO3 R1 R2 R3 F1 F2 F3 HNn
 cases o1
 ·go_wp2_with (first | (go_at_call_of 92 (Value.slice a1 n1 c1); refine (E1.out _ (Old.refl _)).mono ?_; rintro e x5 ⟨rfl, u6⟩; have U6 := hid u6; clear u6))
  go_ret
  exact ⟨rfl, HV2.out.trans U6.out⟩
 ·cases o2
  ·go_wp2_with (first | (go_at_call_of 92 (Value.slice a1 n1 c1); refine (E1.out _ (Old.refl _)).mono ?_; rintro e x5 ⟨rfl, u6⟩; have U6 := hid u6; clear u6; obtain ⟨⟨_, _, _, _, y4', y5'⟩, _, _, _, _, z4', z5'⟩ := And.intro (SubAt.old U6.out HB.out.1) (SubAt.old U6.out HB.out.2)) | (go_at_call 94; refine (E2.out _ U6.out).mono ?_; rintro e x6 ⟨rfl, u7⟩; have U7 := hid (U6.out.trans u7); clear u7))
   go_ret
   exact ⟨rfl, HV2.out.trans U7.out⟩
  ·go_wp2_with (first | (go_at_call_of 92 (Value.slice a1 n1 c1); refine (E1.out _ (Old.refl _)).mono ?_; rintro e x5 ⟨rfl, u6⟩; have U6 := hid u6; clear u6; obtain ⟨⟨_, _, _, _, y4', y5'⟩, _, _, _, _, z4', z5'⟩ := And.intro (SubAt.old U6.out HB.out.1) (SubAt.old U6.out HB.out.2)) | (go_at_call 94; refine (E2.out _ U6.out).mono ?_; rintro e x6 ⟨rfl, u7⟩; have U7 := hid (U6.out.trans u7); clear u7; obtain ⟨⟨_, _, _, _, _, y5''⟩, _, _, _, _, _, z5''⟩ := And.intro (SubAt.old U7.out HB.out.1) (SubAt.old U7.out HB.out.2)) | (go_at_call_of 92 (Value.slice a3 n3 c3); refine (E3.out _ U7.out).mono ?_; rintro e x7 ⟨rfl, u8⟩; have U8 := hid (U7.out.trans u8); clear u8))
   go_ret
   exact ⟨ret_b (by simp), HV2.out.trans U8.out⟩
set_option maxHeartbeats 4000000 in
theorem check_any (s1 s2 s3 : Int) (a1 a2 a3 : Option Addr) (n1 n2 n3 c1 c2 c3 : Nat) (x1 x3 : Nat → Nat) (f2 : Nat → Sp) (b1 : n1 ≤ 17592186044000) (b2 : n2 ≤ 5864062014805) (b3 : n3 ≤ 17592186044000) (w : World) (h1 : FRow w (.slice a1 n1 c1) n1 x1) (h2 : SRow w (.slice a2 n2 c2) n2 f2) (h3 : FRow w (.slice a3 n3 c3) n3 x3) :
    Calls Tryz.prog 38 #[.agg #[.int .i64 s1, .int .i64 s2, .int .i64 s3, .slice a1 n1 c1, .slice a2 n2 c2, .slice a3 n3 c3]] w fun e w' => e = .returned (.int .i64 (chkV s1 s2 s3 n1 n2 n3 x1 x3 f2)) ∧ Old w w' := by
 have HO := hid (fun (hz : Fl.anyG (fun i => Fl.csE (f2 i).a (f2 i).b (f2 i).p (f2 i).q) n2 = false) (W : World) (u : Old w W) => ordered_any s1 s2 s3 a1 a2 a3 n1 n2 n3 c1 c2 c3 x1 x3 f2 b1 b2 b3 W (h1.old u) (h2.old u) (h3.old u) (fun i hi => csE_nan (anyG_each hz i hi)))
 have HM := hid (fun (W : World) (u : Old w W) => misnamed_any s1 s2 s3 (.slice a1 n1 c1) (.slice a2 n2 c2) (.slice a3 n3 c3) W)
 have HC := hid (fun (W : World) (u : Old w W) => crowded_any s1 s2 s3 a1 a2 a3 n1 n2 n3 c1 c2 c3 W)
 have HK := hid (fun (W : World) (u : Old w W) => keyless_any s1 s2 s3 (.slice a1 n1 c1) (.slice a2 n2 c2) (.slice a3 n3 c3) n1 n3 x1 x3 W (h1.old u) (h3.old u))
 have HZ := hid (fun (W : World) (u : Old w W) => empties_any (.slice a2 n2 c2) n2 f2 W (h2.old u))
 unfold chkV
 generalize misB s1 s2 s3 = m at *
 generalize crowdB n1 n2 n3 = c at *
 generalize (Fl.anyG (fun i => Fl.nan (x1 i)) n1 || Fl.anyG (fun i => Fl.nan (x3 i)) n3) = k at *
 generalize Fl.anyG (fun i => Fl.csE (f2 i).a (f2 i).b (f2 i).p (f2 i).q) n2 = z at *
 generalize (ordF x1 n1 && ordS f2 n2 && ordF x3 n3) = o at *
 clear h1 h2 h3
 go_enter Tryz.func38, Tryz.ntmps38
 go_upto_region 1 with fail
 generalize hw1 : w.alloc (.cells #[.int .i64 s1, .int .i64 s2, .int .i64 s3, .slice a1 n1 c1, .slice a2 n2 c2, .slice a3 n3 c3] 33) = w1 at *
 generalize hsb : w.heap.size = sb at *
 obtain ⟨hS, hV⟩ := sub_new w s1 s2 s3 _ _ _ w1 hw1 sb hsb
 have HV := hid hV
 have HS := hid hS
 obtain ⟨t0, t1, t2, t3, t4, t5⟩ := hS
 clear hw1 hV hsb
 cases m
 ·go_upto_region 3 with (first | (go_at_call 33; refine (HM.out _ HV.out).mono ?_; rintro e w2 ⟨rfl, u2⟩; have U2 := hid (HV.out.trans u2); have B2 := hid (SubAt.old u2 HS.out); clear u2))
  clear t0 t1 t2 t3 t4 t5 HS HM
  obtain ⟨t0, t1, t2, t3, t4, t5⟩ := B2.out
  cases c
  ·go_upto_region 5 with (first | (go_at_call 34; refine (HC.out _ U2.out).mono ?_; rintro e w3 ⟨rfl, u3⟩; have U3 := hid (U2.out.trans u3); have B3 := hid (SubAt.old u3 B2.out); clear u3))
   clear t0 t1 t2 t3 t4 t5 B2 HC
   obtain ⟨t0, t1, t2, t3, t4, t5⟩ := B3.out
   cases k
   ·go_upto_region 7 with (first | (go_at_call 35; refine (HK.out _ U3.out).mono ?_; rintro e w4 ⟨rfl, u4⟩; have U4 := hid (U3.out.trans u4); have B4 := hid (SubAt.old u4 B3.out); clear u4))
    clear t0 t1 t2 t3 t4 t5 B3 HK
    obtain ⟨t0, t1, t2, t3, t4, t5⟩ := B4.out
    cases z
    ·have HO2 := hid (HO.out rfl)
     clear HO
     go_upto_region 9 with (first | (go_at_call 36; refine (HZ.out _ U4.out).mono ?_; rintro e w5 ⟨rfl, u5⟩; have U5 := hid (U4.out.trans u5); have B5 := hid (SubAt.old u5 B4.out); clear u5))
     clear t0 t1 t2 t3 t4 t5 B4 HZ
     obtain ⟨t0, t1, t2, t3, t4, t5⟩ := B5.out
     cases o
     ·go_wp2_with (first | (go_at_call 63; refine (HO2.out _ U5.out).mono ?_; rintro e w6 ⟨rfl, u6⟩; have U6 := hid (U5.out.trans u6); clear u6))
      go_ret
      exact ⟨rfl, U6.out⟩
     ·go_wp2_with (first | (go_at_call 63; refine (HO2.out _ U5.out).mono ?_; rintro e w6 ⟨rfl, u6⟩; have U6 := hid (U5.out.trans u6); clear u6))
      go_ret
      exact ⟨rfl, U6.out⟩
    ·clear HO
     go_wp2_with (first | (go_at_call 36; refine (HZ.out _ U4.out).mono ?_; rintro e w5 ⟨rfl, u5⟩; have U5 := hid (U4.out.trans u5); clear u5))
     go_ret
     exact ⟨rfl, U5.out⟩
   ·clear HO
    go_wp2_with (first | (go_at_call 35; refine (HK.out _ U3.out).mono ?_; rintro e w4 ⟨rfl, u4⟩; have U4 := hid (U3.out.trans u4); clear u4))
    go_ret
    exact ⟨rfl, U4.out⟩
  ·clear HO
   go_wp2_with (first | (go_at_call 34; refine (HC.out _ U2.out).mono ?_; rintro e w3 ⟨rfl, u3⟩; have U3 := hid (U2.out.trans u3); clear u3))
   go_ret
   exact ⟨rfl, U3.out⟩
 ·clear HO
  go_wp2_with (first | (go_at_call 33; refine (HM.out _ HV.out).mono ?_; rintro e w2 ⟨rfl, u2⟩; have U2 := hid (HV.out.trans u2); clear u2))
  go_ret
  exact ⟨rfl, U2.out⟩
end Go.Proofs.YthjfkmjeppdcnaaGreat
namespace Go.Proofs.YthjfkmjeppdcnaaGreat
open Go.RowKit Go.Lib
set_option linter.unusedVariables false
set_option linter.unusedSimpArgs false
set_option maxRecDepth 20000
structure Sb where
 s1 : Int
 s2 : Int
 s3 : Int
 a1 : Option Addr
 a2 : Option Addr
 a3 : Option Addr
 n1 : Nat
 n2 : Nat
 n3 : Nat
 c1 : Nat
 c2 : Nat
 c3 : Nat
 x1 : Nat → Nat
 x3 : Nat → Nat
 f2 : Nat → Sp
structure Sb.Ok (s : Sb) (w : World) : Prop where
 h1 : FRow w (.slice s.a1 s.n1 s.c1) s.n1 s.x1
 h2 : SRow w (.slice s.a2 s.n2 s.c2) s.n2 s.f2
 h3 : FRow w (.slice s.a3 s.n3 s.c3) s.n3 s.x3
 b1 : s.n1 ≤ 17592186044000
 b2 : s.n2 ≤ 5864062014805
 b3 : s.n3 ≤ 17592186044000
theorem Sb.Ok.old {s : Sb} {w w' : World} (h : s.Ok w) (u : Old w w') : s.Ok w' := ⟨h.h1.old u, h.h2.old u, h.h3.old u, h.b1, h.b2, h.b3⟩
def Sb.chk (s : Sb) : Int := chkV s.s1 s.s2 s.s3 s.n1 s.n2 s.n3 s.x1 s.x3 s.f2
theorem two_new (w : World) (a b : Sb) (w1 : World) (e : (w.alloc (.cells #[.int .i64 a.s1, .int .i64 a.s2, .int .i64 a.s3, .slice a.a1 a.n1 a.c1, .slice a.a2 a.n2 a.c2, .slice a.a3 a.n3 a.c3] 33)).alloc (.cells #[.int .i64 b.s1, .int .i64 b.s2, .int .i64 b.s3, .slice b.a1 b.n1 b.c1, .slice b.a2 b.n2 b.c2, .slice b.a3 b.n3 b.c3] 33) = w1) (m : Nat) (hm : w.heap.size = m) : SubAt m a.s1 a.s2 a.s3 (.slice a.a1 a.n1 a.c1) (.slice a.a2 a.n2 a.c2) (.slice a.a3 a.n3 a.c3) w1 ∧ SubAt (m + 1) b.s1 b.s2 b.s3 (.slice b.a1 b.n1 b.c1) (.slice b.a2 b.n2 b.c2) (.slice b.a3 b.n3 b.c3) w1 ∧ Old w w1 := by
 have h1 := sub_new w a.s1 a.s2 a.s3 (.slice a.a1 a.n1 a.c1) (.slice a.a2 a.n2 a.c2) (.slice a.a3 a.n3 a.c3) _ rfl m hm
 have h2 := sub_new (w.alloc (.cells #[.int .i64 a.s1, .int .i64 a.s2, .int .i64 a.s3, .slice a.a1 a.n1 a.c1, .slice a.a2 a.n2 a.c2, .slice a.a3 a.n3 a.c3] 33)) b.s1 b.s2 b.s3 _ _ _ w1 e (m + 1) (by simp [hm])
 exact ⟨SubAt.old h2.2 h1.1, h2.1, h1.2.trans h2.2⟩
def keyEq (x k : Nat) : Bool := !Fl.nan x && !Fl.nan k && decide (Fl.code k = Fl.code x)
theorem anyG_no {g : Nat → Bool} : ∀ {n : Nat}, (∀ i, i < n → g i = false) → Fl.anyG g n = false
 | 0, _ => rfl
 | n + 1, h => by
  show (Fl.anyG g n || g n) = false
  rw [anyG_no (fun i hi => h i (by omega)), h n (by omega)]; rfl
theorem anyG_iff {g : Nat → Bool} {n : Nat} : Fl.anyG g n = true ↔ ∃ i, i < n ∧ g i = true := by
 constructor
 ·intro h
  by_cases q : ∃ i, i < n ∧ g i = true
  ·exact q
  ·have : Fl.anyG g n = false := anyG_no fun i hi => by
     cases e : g i
     ·rfl
     ·exact absurd ⟨i, hi, e⟩ q
   rw [this] at h; cases h
 ·rintro ⟨i, hi, h⟩
  exact Fl.anyG_true g n i hi h
attribute [local go_sem] run_bits run_frombits run_store_float eqF
end Go.Proofs.YthjfkmjeppdcnaaGreat
