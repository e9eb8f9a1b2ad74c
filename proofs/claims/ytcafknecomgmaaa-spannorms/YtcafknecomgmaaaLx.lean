/- The law SpanNorms at every row of spans; conditions: the lengths fit. -/
import Derived.Test.YtcafknecomgmaaaLw
namespace Go.Proofs.Ytcafknecomgmaaa
open Go.RowKit
set_option linter.unusedVariables false
attribute [local go_sem] run_bits run_frombits run_store_float eqF
set_option maxHeartbeats 4000000 in
set_option maxRecDepth 20000 in
theorem normsLaw (v : Value) (M : List Sp) (hM : M.length ≤ 5864062014805) (w : World) (hv : SRow w v M.length (atS M)) :
    Calls Try.prog 3 #[v] w fun e w' => e = .returned (.bool true) ∧ Old w w' := by
  have o0 : FloatKind.f64.format.order 0 0 = some .eq := by decide +kernel
  have o3 : FloatKind.f64.format.order 4613937818241073152 4613937818241073152 = some .eq := by decide +kernel
  have HV := hid hv
  have HM := hid hM
  have hrv := Fl.cdl_RV (atS M) M.length (fun i hi => by obtain ⟨_, _, _, hc⟩ := hv.2; obtain ⟨_, _, _, h1, h2, _⟩ := hc i hi; exact ⟨h1, h2⟩)
  have hdf := Fl.dfold_ok _ (Fl.cdl (atS M) M.length) rfl hrv
  have hdl : (Fl.dfold (Fl.cdl (atS M) M.length)).length ≤ M.length := by have := hdf.2.2; have := Fl.cdl_len (atS M) M.length; omega
  have HN := hid (fun W (hW : Old w W) => norm_any v M.length (atS M) hM W (hv.old hW))
  have HRn := hid (fun W (hW : Old w W) => refNorm_any v M.length (atS M) hM W (hv.old hW))
  have HR := hid hdf.1.2
  have HWm := hid (show ∀ s ∈ M, Fl.W s.a ∧ Fl.W s.b from fun s hs => by obtain ⟨i, hi, rfl⟩ := List.getElem_of_mem hs; obtain ⟨_, _, _, hc⟩ := hv.2; obtain ⟨_, _, _, h1, h2, _⟩ := hc i hi; rw [atS_get M i hi] at h1 h2; exact And.intro h1 h2)
  clear hrv hdf
  generalize Fl.dfold (Fl.cdl (atS M) M.length) = D at *
  have HSp := hid (fun v base W (h : OwnG base W v D) => spans_any v base D W h HR.out (by omega))
  have HRow := hid (show ∀ base W v, OwnS base W v (D.map Fl.spo) → SRow W v D.length (atS (D.map Fl.spo)) from fun base W v h => by have q := h.row (spo_rows HR.out) (by rw [List.length_map]; omega); rw [List.length_map] at q; exact q)
  have HDl := hid (show D.length ≤ 5864062014805 by omega)
  have hw := hv.2
  obtain ⟨a, c, rfl, _⟩ := hw
  clear hv hM hdl
  go_enter Try.func3, Try.ntmps3
  go_wp2_with (first | (go_at_call 6; refine (at_any _ _ _).mono ?_; rintro e wA ⟨rfl, hA⟩; first | (have UA3 := hid (UA2.out.trans hA.old)) | (have UA2 := hid (UA1.out.trans hA.old)) | (have UA1 := hid hA.old)) | (go_at_call 5; refine (norm_ex _ _ rfl).mono ?_; rintro e w1 ⟨g1, c1, rfl, hg1, hu1⟩; have U1 := hid (UA3.out.trans hu1)))
  go_region_held3 (SpAt g1 0 4613937818241073152 false false) (first | assumption | (apply SpAt.up; (first | assumption | exact Up.drew (Up.refl _)); assumption)) (first | (go_at_call 6; refine (at_any _ _ _).mono ?_; rintro e w2 ⟨rfl, hb2⟩))
  all_goals have U2 := hid (U1.out.drew.trans hb2.old)
  all_goals have z2 := U2.out.size
  all_goals clear UA1 UA2 UA3 hA hu1
  go_upto_region 5 with (first | (at_builtin; refine wp_appW rfl (.tmp 22) (.tmp 23) rfl w.heap.size _ _ M rfl rfl (OwnS.empty z2 rfl) (HV.out.old (U2.out.alloc _)) HM.out (by simp; omega) ?_; intro v3 w3 o3' u3; have O3 := hid o3'; have U3 := hid (Old.below (U2.out.alloc _) u3); clear o3' u3))
  obtain ⟨a3, c3, hv3⟩ := O3.out.len
  subst hv3
  go_upto_region 6 with (first | (go_at_call 5; refine (HN.out _ U3.out).mono ?_; rintro e w4 ⟨v4, rfl, o4, u4⟩; have O4 := hid o4; have V4 := hid u4; clear o4 u4))
  have U4 := hid (U3.out.trans V4.out)
  obtain ⟨a4, c4, hv4⟩ := O4.out.len
  rw [List.length_map] at hv4
  subst hv4
  go_wp2_with (first | (go_at_call 9; refine (HRn.out _ U4.out).mono ?_; rintro e w5 ⟨v5, rfl, o5, u5⟩; have O5 := hid o5; have U5 := hid u5; clear o5 u5) | (go_at_call 8; refine (HSp.out _ _ _ O5.out).mono ?_; rintro e w6 ⟨v6, rfl, o6, u6⟩; have O6 := hid o6; have U6 := hid (U5.out.trans u6); clear o6 u6) | (go_at_call 7; refine (same_rows _ _ D.length (atS (D.map Fl.spo)) _ ((HRow.out _ _ _ O4.out).old U6.out) (HRow.out _ _ _ O6.out)).mono ?_; rintro e w7 ⟨rfl, u7⟩; have U7 := hid (U6.out.trans u7); clear u7))
  have hX : OwnX w3.heap.size w7 (.slice a4 D.length c4) D.length := by
    have q : OwnX w3.heap.size w4 (.slice a4 D.length c4) (D.map Fl.spo).length := ⟨_, O4.out⟩
    rw [List.length_map] at q
    exact q.old U7.out
  have hDL : D.length ≤ 5864062014805 := HDl.out
  have V7 := hid (V4.out.trans U7.out)
  have HX := hid hX
  have hDm : D.length ≤ 9223372036854775807 := by omega
  clear hX HN HRn HSp O5 O6 U5 U6
  have hsl : 0 < D.length → ∃ g, a4 = some ⟨g, 0, none⟩ := fun h => by
    obtain ⟨g, cap, e, _⟩ := O4.out.shape (by rw [List.length_map]; exact h)
    rw [List.length_map] at e
    cases e; exact ⟨g, rfl⟩
  have HSl := hid hsl
  clear hsl HRow O4
  generalize D.length = N at *
  go_loopw [35] (fun i wr => ∃ k : Nat, k ≤ N ∧ i = .int .i64 (k : Nat) ∧ OwnX w3.heap.size wr (.slice a4 N c4) N ∧ Old w3 wr) (fun i _ => N - (intOf i).toNat)
  case atStart => exact ⟨0, Nat.zero_le _, rfl, HX.out, V7.out⟩
  case round =>
    obtain ⟨k, hk, rfl, hx, hu⟩ := hrel
    have HXr := hid hx
    have HU := hid hu
    clear hx hu
    by_cases hlt : k < N
    · obtain ⟨g, rfl⟩ := HSl.out (by omega)
      obtain ⟨hgb, hfz, x0, x1, x2, x3, d0, d1, d2, d3⟩ := HXr.out.four k hlt
      have l1 : (0 : Int) ≤ (k : Int) := by omega
      have l2 : (k : Int) < (N : Int) := by omega
      have f0 := hfz (k * 4)
      have f1 := hfz (k * 4 + 1)
      have f2 := hfz (k * 4 + 2)
      have f3 := hfz (k * 4 + 3)
      have HB := hid d0
      clear hfz
      have HF4 := hid (And.intro f0 (And.intro f1 (And.intro f2 f3)))
      have HD4 := hid (And.intro d0 (And.intro d1 (And.intro d2 d3)))
      clear f0 f1 f2 f3 d0 d1 d2 d3
      go_wp2_with (first | (go_at_call 6; refine (at_any _ _ _).mono ?_; rintro e w8 ⟨rfl, hb8⟩; have U8 := hid hb8.old; have y0 := hb8.keep HD4.out.1; have y1 := hb8.keep HD4.out.2.1; have y2 := hb8.keep HD4.out.2.2.1; have y3 := hb8.keep HD4.out.2.2.2; have q0 := hb8.keepF HD4.out.1 HF4.out.1; have q1 := hb8.keepF HD4.out.2.1 HF4.out.2.1; have q2 := hb8.keepF HD4.out.2.2.1 HF4.out.2.2.1; have q3 := hb8.keepF HD4.out.2.2.2 HF4.out.2.2.2; clear hb8))
      go_roundw
      case rel => exact ⟨k + 1, hlt, by go_num, ((((HXr.out.old U8.out).set _ _).set _ _).set _ _).set _ _, ((((HU.out.trans U8.out).setCell hgb _).setCell hgb _).setCell hgb _).setCell hgb _⟩
      case measure => simp [intOf]; omega
    · obtain rfl : k = N := by omega
      have HS := hid (same_rows (.slice a M.length c) (.slice a3 M.length c3) M.length (atS M) wr (HV.out.old (U3.out.trans HU.out)) ((O3.out.row (HWm.out) (by have := HM.out; omega)).old HU.out))
      go_wp2_with (go_at_call 7; refine HS.out.mono ?_; rintro e w9 ⟨rfl, u9⟩; have U9 := hid u9; clear u9)
      go_ret
      exact ⟨rfl, (U3.out.trans HU.out).trans U9.out⟩
end Go.Proofs.Ytcafknecomgmaaa
