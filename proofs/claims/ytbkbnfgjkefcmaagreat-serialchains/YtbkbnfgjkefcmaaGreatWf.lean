/- The document's nan of a row, and its Check at a form; conditions: the lengths fit. -/
import Derived.Test.YtbkbnfgjkefcmaaGreatWe
import Derived.Test.YtbkbnfgjkefcmaaGreatNe
namespace Go.Proofs.YtbkbnfgjkefcmaaGreat
open Go.RowKit
set_option linter.unusedVariables false
attribute [local go_sem] run_bits run_frombits run_store_float eqF
set_option maxHeartbeats 1000000 in
set_option maxRecDepth 20000 in
theorem refNans_any (v : Value) (n : Nat) (x : Nat → Nat) (w : World) (hv : FRow w v n x) :
    Calls Tryz.prog 37 #[v] w fun e w' => e = .returned (.bool (Fl.anyG (fun i => Fl.nan (x i)) n)) ∧ Old w w' := by
  obtain ⟨hm, a, c, rfl, hc⟩ := hv
  have HC := hid hc
  generalize hg : (fun i => Fl.nan (x i)) = g
  have HG := hid hg
  clear hc hg
  go_enter Tryz.func37, Tryz.ntmps37
  go_wp2
  go_loopw [3] (fun i wr => ∃ j : Nat, j ≤ n ∧ i = .int .i64 (j : Nat) ∧ Fl.anyG g j = false ∧ Old w wr) (fun i _ => n - (intOf i).toNat)
  case atStart => exact ⟨0, Nat.zero_le _, rfl, rfl, Old.refl _⟩
  case round =>
    obtain ⟨j, hj, rfl, h0, hu⟩ := hrel
    by_cases hlt : j < n
    · obtain ⟨b, off, ha, hW, c0⟩ := HC.out j hlt
      subst ha
      have x0 := hu.keep c0
      have HK := fun W => refNan_any (x j) hW W
      have hgj : Fl.nan (x j) = g j := by rw [← HG.out]
      rw [hgj] at HK
      have HN := hid HK
      have l1 : (0 : Int) ≤ (j : Int) := by omega
      have l2 : (j : Int) < (n : Int) := by omega
      have H0 := hid h0
      clear c0 h0 hgj HK HC HG
      generalize x j = X at *
      cases hg : g j
      · rw [hg] at HN
        have HS := hid (Fl.anyG_step g j H0.out hg)
        clear hg
        go_wp2_with (go_at_call 63; refine (HN.out _).mono ?_; rintro o w5 ⟨rfl, hw⟩; have hw2 := hw.symm; subst hw2)
        go_roundw
        case rel => exact ⟨j + 1, hlt, by go_num, HS.out, hu⟩
        case measure => simp [intOf]; omega
      · have HT := hid (Fl.anyG_true g n j hlt hg)
        rw [hg] at HN
        clear hg
        go_wp2_with (go_at_call 63; refine (HN.out _).mono ?_; rintro o w5 ⟨rfl, hw⟩; have hw2 := hw.symm; subst hw2)
        go_ret
        exact ⟨ret_b HT.out.symm, hu⟩
    · obtain rfl : j = n := by omega
      have H0 := hid h0
      clear h0
      go_wp2
      go_ret
      exact ⟨ret_b H0.out.symm, hu⟩
/-- The document's error of a form. -/
def chkC (m c k : Bool) : Int := if m = true then 43 else if c = true then 3 else if k = true then 40 else 0
set_option maxHeartbeats 4000000 in
set_option maxRecDepth 20000 in
theorem refCheck_early (s1 s2 s3 : Int) (p1 p2 p3 : Option Addr) (m1 m2 m3 q1 q2 q3 : Nat) (w : World) (h : misB s1 s2 s3 = true ∨ (misB s1 s2 s3 = false ∧ crowdB m1 m2 m3 = true)) :
    Calls Tryz.prog 20 #[.agg #[.int .i64 s1, .int .i64 s2, .int .i64 s3, .slice p1 m1 q1, .slice p2 m2 q2, .slice p3 m3 q3]] w fun e w' => e = .returned (.int .i64 (if misB s1 s2 s3 = true then 43 else 3)) ∧ Old w w' := by
  rcases h with h | ⟨h, hc⟩
  · rw [if_pos h]
    have h2 : s1 < 1 ∨ 1099511627776 < s1 ∨ s2 < 1 ∨ 1099511627776 < s2 ∨ s3 < 0 ∨ 1099511627776 < s3 := by
      unfold misB outB at h; simp at h; omega
    clear h
    by_cases t1 : s1 < 1
    · go_enter Tryz.func20, Tryz.ntmps20
      go_wp2
      go_ret
      exact ⟨rfl, (Old.refl w).alloc _⟩
    by_cases t2 : 1099511627776 < s1
    · go_enter Tryz.func20, Tryz.ntmps20
      go_wp2
      go_ret
      exact ⟨rfl, (Old.refl w).alloc _⟩
    by_cases t3 : s2 < 1
    · go_enter Tryz.func20, Tryz.ntmps20
      go_wp2
      go_ret
      exact ⟨rfl, (Old.refl w).alloc _⟩
    by_cases t4 : 1099511627776 < s2
    · go_enter Tryz.func20, Tryz.ntmps20
      go_wp2
      go_ret
      exact ⟨rfl, (Old.refl w).alloc _⟩
    by_cases t5 : s3 < 0
    · go_enter Tryz.func20, Tryz.ntmps20
      go_wp2
      go_ret
      exact ⟨rfl, (Old.refl w).alloc _⟩
    have t6 : 1099511627776 < s3 := by omega
    go_enter Tryz.func20, Tryz.ntmps20
    go_wp2
    go_ret
    exact ⟨rfl, (Old.refl w).alloc _⟩
  · rw [if_neg (by rw [h]; simp)]
    have h2 : ¬ s1 < 1 ∧ ¬ 1099511627776 < s1 ∧ ¬ s2 < 1 ∧ ¬ 1099511627776 < s2 ∧ ¬ s3 < 0 ∧ ¬ 1099511627776 < s3 := by
      unfold misB outB at h; simp at h; omega
    obtain ⟨t1, t2, t3, t4, t5, t6⟩ := h2
    have h3 : 16 < m1 ∨ 8 < m2 ∨ 16 < m3 := by unfold crowdB at hc; simp at hc; omega
    clear h hc
    by_cases u1 : 16 < m1
    · have v1 : (16 : Int) < (m1 : Int) := by omega
      go_enter Tryz.func20, Tryz.ntmps20
      go_wp2
      go_ret
      exact ⟨rfl, (Old.refl w).alloc _⟩
    have v1 : ¬ (16 : Int) < (m1 : Int) := by omega
    by_cases u2 : 8 < m2
    · have v2 : (8 : Int) < (m2 : Int) := by omega
      go_enter Tryz.func20, Tryz.ntmps20
      go_wp2
      go_ret
      exact ⟨rfl, (Old.refl w).alloc _⟩
    have v2 : ¬ (8 : Int) < (m2 : Int) := by omega
    have v3 : (16 : Int) < (m3 : Int) := by omega
    go_enter Tryz.func20, Tryz.ntmps20
    go_wp2
    go_ret
    exact ⟨rfl, (Old.refl w).alloc _⟩
theorem spo_of {r : Nat × Nat} (h : Fl.RV r) : Fl.rL (Fl.spo r).a (Fl.spo r).b (Fl.spo r).p (Fl.spo r).q = r.1 ∧ Fl.rH (Fl.spo r).a (Fl.spo r).b (Fl.spo r).p (Fl.spo r).q = r.2 := by
  obtain ⟨e1, e2, e3⟩ := Fl.cs_of_form _ _ _ (Fl.spo_form h)
  have a := Fl.of_V h.1
  have b := Fl.of_V h.2.1
  unfold Fl.rL Fl.rH Fl.spo
  dsimp only
  rw [e1, e2, e3]
  exact ⟨a.2.1, b.2.1⟩
set_option maxHeartbeats 8000000 in
set_option maxRecDepth 20000 in
theorem refCheck_late (s1 s2 s3 : Int) (p1 p2 p3 : Option Addr) (L1 L3 : List Nat) (D : List (Nat × Nat)) (q1 q2 q3 : Nat) (w : World) (hm : misB s1 s2 s3 = false) (hc : crowdB L1.length D.length L3.length = false)
    (h1 : FRow w (.slice p1 L1.length q1) L1.length (atN L1)) (h2 : SRow w (.slice p2 D.length q2) D.length (atS (D.map Fl.spo))) (h3 : FRow w (.slice p3 L3.length q3) L3.length (atN L3))
    (hD : Fl.NL D) (e1 : Fl.sortL (atN L1) L1.length = L1) (e3 : Fl.sortL (atN L3) L3.length = L3) (hW1 : ∀ y ∈ L1, Fl.W y) (hW3 : ∀ y ∈ L3, Fl.W y) :
    Calls Tryz.prog 20 #[.agg #[.int .i64 s1, .int .i64 s2, .int .i64 s3, .slice p1 L1.length q1, .slice p2 D.length q2, .slice p3 L3.length q3]] w fun e w' => e = .returned (.int .i64 (if (Fl.anyG (fun i => Fl.nan (atN L1 i)) L1.length || Fl.anyG (fun i => Fl.nan (atN L3 i)) L3.length) = true then 40 else 0)) ∧ Old w w' := by
  have h4 : ¬ s1 < 1 ∧ ¬ 1099511627776 < s1 ∧ ¬ s2 < 1 ∧ ¬ 1099511627776 < s2 ∧ ¬ s3 < 0 ∧ ¬ 1099511627776 < s3 := by
    unfold misB outB at hm; simp at hm; omega
  obtain ⟨t1, t2, t3, t4, t5, t6⟩ := h4
  have h5 : ¬ 16 < L1.length ∧ ¬ 8 < D.length ∧ ¬ 16 < L3.length := by unfold crowdB at hc; simp at hc; omega
  have b1 : L1.length ≤ 16 := by omega
  have b2 : D.length ≤ 8 := by omega
  have b3 : L3.length ≤ 16 := by omega
  have v1 : ¬ (16 : Int) < (L1.length : Int) := by omega
  have v2 : ¬ (8 : Int) < (D.length : Int) := by omega
  have v3 : ¬ (16 : Int) < (L3.length : Int) := by omega
  have K1 := hid (fun W (hW : Old w W) => refNans_any _ _ _ W (h1.old hW))
  have K3 := hid (fun W (hW : Old w W) => refNans_any _ _ _ W (h3.old hW))
  have S1 := hid (show ∀ W, Old w W → Calls Tryz.prog 41 #[.slice p1 L1.length q1] W fun e w' => ∃ v' : Value, e = .returned v' ∧ FRow w' v' L1.length (atN L1) ∧ Old W w' from fun W hW => by
    refine (sortR_any _ _ _ (by omega) W (h1.old hW)).mono ?_
    rintro e w' ⟨v', rfl, ho, hu⟩
    rw [e1] at ho
    exact ⟨v', rfl, ho.row hW1 (by omega), hu⟩)
  have S3 := hid (show ∀ W, Old w W → Calls Tryz.prog 41 #[.slice p3 L3.length q3] W fun e w' => ∃ v' : Value, e = .returned v' ∧ FRow w' v' L3.length (atN L3) ∧ Old W w' from fun W hW => by
    refine (sortR_any _ _ _ (by omega) W (h3.old hW)).mono ?_
    rintro e w' ⟨v', rfl, ho, hu⟩
    rw [e3] at ho
    exact ⟨v', rfl, ho.row hW3 (by omega), hu⟩)
  have N2 := hid (show ∀ W, Old w W → Calls Tryz.prog 44 #[.slice p2 D.length q2] W fun e w' => ∃ v' : Value, e = .returned v' ∧ OwnG W.heap.size w' v' D ∧ Old W w' from fun W hW => by
    have q := refNorm_any _ _ _ (by omega) W (h2.old hW)
    have hk := Fl.dfold_ok _ D rfl hD.2
    rw [Fl.cdl_spo D hD.2, Fl.nl_unique _ _ hk.1 hD hk.2.1] at q
    exact q)
  have X2 := hid (fun v base W (h : OwnG base W v D) => spans_any v base D W h hD.2 (by omega))
  have HRow := hid (show ∀ base W v, OwnS base W v (D.map Fl.spo) → SRow W v D.length (atS (D.map Fl.spo)) from fun base W v h => by have q := h.row (fun s hs => by obtain ⟨r, hr, rfl⟩ := List.mem_map.1 hs; exact Fl.spo_W (hD.2 r hr)) (by rw [List.length_map]; omega); rw [List.length_map] at q; exact q)
  have R1 := hid h1
  have R2 := hid h2
  have R3 := hid h3
  have HDv := hid hD.2
  generalize hk1 : Fl.anyG (fun i => Fl.nan (atN L1 i)) L1.length = k1 at *
  generalize hk3 : Fl.anyG (fun i => Fl.nan (atN L3 i)) L3.length = k3 at *
  clear hk1 hk3 hm hc h5 h1 h2 h3 hD e1 e3 hW1 hW3
  have s0 : SubAt w.heap.size s1 s2 s3 (.slice p1 L1.length q1) (.slice p2 D.length q2) (.slice p3 L3.length q3) (w.alloc (.cells #[.int .i64 s1, .int .i64 s2, .int .i64 s3, .slice p1 L1.length q1, .slice p2 D.length q2, .slice p3 L3.length q3] 31)) := by simp [SubAt]
  have HS := hid s0
  clear s0
  generalize hn1 : L1.length = n1 at *
  generalize hn3 : L3.length = n3 at *
  clear hn1 hn3
  cases k1
  · cases k3
    · go_enter Tryz.func20, Tryz.ntmps20
      go_wp2_with (first | (go_at_call_of 37 (Value.slice p1 n1 q1); refine (K1.out _ ((Old.refl w).alloc _)).mono ?_; rintro o w5 ⟨rfl, u5⟩; have U5 := hid (((Old.refl w).alloc _).trans u5); have B5 := hid (SubAt.old u5 HS.out); obtain ⟨_, _, _, f3, f4, f5⟩ := B5.out; clear u5) | (go_at_call_of 37 (Value.slice p3 n3 q3); refine (K3.out _ U5.out).mono ?_; rintro o w6 ⟨rfl, u6⟩; have U6 := hid (U5.out.trans u6); have B6 := hid (SubAt.old u6 B5.out); clear u6))
      go_loopw [3] (fun i wr => ∃ j : Nat, j ≤ D.length ∧ i = .int .i64 (j : Nat) ∧ Old w6 wr) (fun i _ => D.length - (intOf i).toNat)
      case atStart => exact ⟨0, Nat.zero_le _, rfl, Old.refl _⟩
      case round =>
        obtain ⟨j, hj, rfl, hu⟩ := hrel
        have HU := hid (U6.out.trans hu)
        obtain ⟨g0, g1, g2, g3, g4, g5⟩ := SubAt.old hu B6.out
        have BR : Hid (SubAt w.heap.size s1 s2 s3 (.slice p1 n1 q1) (.slice p2 D.length q2) (.slice p3 n3 q3) wr) := ⟨g0, g1, g2, g3, g4, g5⟩
        by_cases hlt : j < D.length
        · obtain ⟨_, a, c, hv, hcx⟩ := R2.out.old HU.out
          cases hv
          obtain ⟨b, off, ha, hWa, hWb, x0, x1, x2, x3⟩ := hcx j hlt
          subst ha
          have hjm : j < (D.map Fl.spo).length := by rw [List.length_map]; exact hlt
          rw [atS_get _ j hjm, List.getElem_map] at hWa hWb x0 x1 x2 x3
          have hrv := HDv.out D[j] (List.getElem_mem hlt)
          obtain ⟨y1, y2⟩ := spo_of hrv
          have HO0 := fun W => rOf_any (Fl.spo D[j]).a (Fl.spo D[j]).b hWa hWb (Fl.spo D[j]).p (Fl.spo D[j]).q W
          rw [y1, y2] at HO0
          have HE0 := fun W => rEmpty_any D[j].1 D[j].2 W
          rw [show decide (D[j].2 < D[j].1) = false from decide_eq_false (by have := hrv.2.2; omega)] at HE0
          have HO := hid HO0
          have HE := hid HE0
          have l1 : (0 : Int) ≤ (j : Int) := by omega
          have l2 : (j : Int) < (D.length : Int) := by omega
          clear HO0 HE0 y1 y2 hcx hWa hWb hrv
          generalize D[j].1 = RL at *
          generalize D[j].2 = RH at *
          generalize (Fl.spo D[j]).a = sa at *
          generalize (Fl.spo D[j]).b = sb at *
          generalize (Fl.spo D[j]).p = sp at *
          generalize (Fl.spo D[j]).q = sq at *
          go_wp2_with (first | (go_at_call 39; refine (HO.out _).mono ?_; rintro o w7 ⟨rfl, u7⟩; have U7 := hid u7.old; clear u7) | (go_at_call 38; refine (HE.out _).mono ?_; rintro o w8 ⟨rfl, u8⟩; have U8 := hid (U7.out.trans u8.old); clear u8))
          go_roundw
          case rel => exact ⟨j + 1, hlt, by go_num, hu.trans U8.out⟩
          case measure => simp [intOf]; omega
        · obtain rfl : j = D.length := by omega
          go_wp2_with fail
          go_region_held3 (SubAt w.heap.size s1 s2 s3 (.slice p1 n1 q1) (.slice p2 D.length q2) (.slice p3 n3 q3)) (first | assumption | exact BR.out | (refine SubAt.old ?_ BR.out; assumption)) (first | (go_at_call_of 41 (Value.slice p1 n1 q1); refine (S1.out _ (HU.out.drew)).mono ?_; rintro o wa ⟨va, rfl, ra, ua⟩; have Ua : Old wr wa := ((Old.refl _).drew).trans ua) | (go_at_call_of 40 (Value.slice p1 n1 q1); refine (sameF _ _ n1 (atN L1) _ (R1.out.old (HU.out.trans Ua)) ra).mono ?_; rintro o wb ⟨rfl, ub⟩; have Ub : Old wr wb := Ua.trans ub) | (go_at_call_of 41 (Value.slice p3 n3 q3); refine (S3.out _ (HU.out.trans Ub)).mono ?_; rintro o wd ⟨vd, rfl, rd, ud⟩; have Ud : Old wr wd := Ub.trans ud) | (go_at_call_of 40 (Value.slice p3 n3 q3); refine (sameF _ _ n3 (atN L3) _ (R3.out.old (HU.out.trans Ud)) rd).mono ?_; rintro o we ⟨rfl, ue⟩; have Ue : Old wr we := Ud.trans ue) | (go_at_call 44; refine (N2.out _ (HU.out.trans Ue)).mono ?_; rintro o wf ⟨vf, rfl, gf, uf⟩; have Uf : Old wr wf := Ue.trans uf) | (go_at_call 43; refine (X2.out _ _ _ gf).mono ?_; rintro o wg ⟨vg, rfl, gg, ug⟩; have Ug : Old wr wg := Uf.trans ug) | (go_at_call 42; refine (same_rows _ _ D.length (atS (D.map Fl.spo)) _ (R2.out.old (HU.out.trans Ug)) (HRow.out _ _ _ gg)).mono ?_; rintro o wh ⟨rfl, uh⟩; have Uh : Old wr wh := Ug.trans uh))
          all_goals go_wp2
          all_goals go_ret
          all_goals exact ⟨rfl, HU.out.trans Uh⟩
    · go_enter Tryz.func20, Tryz.ntmps20
      go_wp2_with (first | (go_at_call_of 37 (Value.slice p1 n1 q1); refine (K1.out _ ((Old.refl w).alloc _)).mono ?_; rintro o w5 ⟨rfl, u5⟩; have U5 := hid (((Old.refl w).alloc _).trans u5); have B5 := hid (SubAt.old u5 HS.out); obtain ⟨_, _, _, f3, f4, f5⟩ := B5.out; clear u5) | (go_at_call_of 37 (Value.slice p3 n3 q3); refine (K3.out _ U5.out).mono ?_; rintro o w6 ⟨rfl, u6⟩; have U6 := hid (U5.out.trans u6); have B6 := hid (SubAt.old u6 B5.out); clear u6))
      go_ret
      exact ⟨rfl, U6.out⟩
  · go_enter Tryz.func20, Tryz.ntmps20
    go_wp2_with (first | (go_at_call_of 37 (Value.slice p1 n1 q1); refine (K1.out _ ((Old.refl w).alloc _)).mono ?_; rintro o w5 ⟨rfl, u5⟩; have U5 := hid (((Old.refl w).alloc _).trans u5); have B5 := hid (SubAt.old u5 HS.out); obtain ⟨_, _, _, f3, f4, f5⟩ := B5.out; clear u5) | (go_at_call_of 37 (Value.slice p3 n3 q3); refine (K3.out _ U5.out).mono ?_; rintro o w6 ⟨rfl, u6⟩; have U6 := hid (U5.out.trans u6); have B6 := hid (SubAt.old u6 B5.out); clear u6))
    go_ret
    exact ⟨rfl, U5.out⟩
end Go.Proofs.YtbkbnfgjkefcmaaGreat
