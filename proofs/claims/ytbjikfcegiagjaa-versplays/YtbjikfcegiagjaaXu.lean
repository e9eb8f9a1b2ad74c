/- vers: the document's Put; conditions: the lengths fit. -/
import Derived.Test.YtbjikfcegiagjaaXt
namespace Go.Proofs.Ytbjikfcegiagjaa
open Go.RowKit Go.Lib
set_option linter.unusedVariables false
set_option linter.unusedSimpArgs false
set_option maxRecDepth 20000
def offK (c : Nat) (M : List It) : List It := M.filter fun x => !decide (kc x = c)
theorem off_step (c : Nat) (M : List It) (j : Nat) (hj : j < M.length) : offK c (M.take (j + 1)) = offK c (M.take j) ++ (if kc (atI M j) = c then [] else [atI M j]) := by
  unfold offK
  rw [List.take_add_one, List.filter_append, List.getElem?_eq_getElem hj, atI_get M j hj]
  by_cases h : kc M[j] = c <;> simp [h]
theorem off_take (c : Nat) (M : List It) : offK c (M.take M.length) = offK c M := by rw [List.take_length]
/-- What the document's Put makes of a row. -/
def putM (key : Nat) (n most : Int) (M : List It) : Int × List It := if Fl.nan key = true then (40, M) else if n < 1 ∨ 1099511627776 < n then (43, M) else if atL (Fl.code key) M = 0 ∧ most ≤ (M.length : Int) then (3, M) else if n ≤ atL (Fl.code key) M then (0, M) else (0, offK (Fl.code key) M ++ [⟨Fl.canon key, n⟩])
def RPost (base : Nat) (most r : Int) (v : Value) (M : List It) (w : World) (e : Ending) (w' : World) : Prop := ∃ v', e = .returned (.tuple #[.agg #[.int .i64 most, v'], .int .i64 r]) ∧ OwnM base w' v' M ∧ Old w w' ∧ ∀ g, v'.ownBlock = some g → v.ownBlock = some g ∨ w.heap.size ≤ g
attribute [local go_sem] run_bits run_frombits run_store_float
set_option maxHeartbeats 4000000 in
set_option maxRecDepth 20000 in
theorem rPut_any (base : Nat) (most n : Int) (v : Value) (M : List It) (key : Nat) (hk : Fl.W key) (hW : ∀ x ∈ M, Fl.W x.k) (w : World) (h : OwnM base w v M) (hb : base ≤ w.heap.size) (hl : M.length ≤ 1000000) :
    Calls Try.prog 13 #[.agg #[.int .i64 most, v], .float .f64 key, .int .i64 n] w fun e w' => RPost base most (putM key n most M).1 v (putM key n most M).2 w e w' := by
  obtain ⟨sa, sc, hv⟩ := h.len
  have HSh := hid (fun (e : 0 < M.length) => h.shape e)
  have HM := hid h
  have HSt := hid (off_step (Fl.code key) M)
  have HTk := hid (off_take (Fl.code key) M)
  subst hv
  have HL := hid (fun k => show (offK (Fl.code key) (M.take k)).length ≤ M.length from Nat.le_trans (List.length_filter_le _ _) (List.length_take_le' _ _))
  have HL2 := hid (show (offK (Fl.code key) M).length ≤ M.length from List.length_filter_le _ _)
  have HWi := hid (fun i (hi : i < M.length) => show Fl.W (atI M i).k from by rw [atI_get M i hi]; exact hW _ (List.getElem_mem hi))
  have HP := hid (show putM key n most M = if Fl.nan key = true then (40, M) else if n < 1 ∨ 1099511627776 < n then (43, M) else if atL (Fl.code key) M = 0 ∧ most ≤ (M.length : Int) then (3, M) else if n ≤ atL (Fl.code key) M then (0, M) else (0, offK (Fl.code key) M ++ [⟨Fl.canon key, n⟩]) from rfl)
  have HA := hid (fun (W : World) (u : Old w W) => rAt_any base most _ M key hk hW W (HM.out.old u) hl)
  have HNan := hid (fun W => refNan_any key hk W)
  generalize atL (Fl.code key) M = R at *
  generalize putM key n most M = pm at *
  clear h
  generalize hN : M.length = N at *
  have hN1 := hid hN
  clear hN
  go_enter Try.func13, Try.ntmps13
  go_upto_region 1 with fail
  generalize hw1 : (w.alloc (.cells #[.int .i64 most, .slice sa N sc] 31)).alloc (.cells #[.int .i64 0, .slice none 0 0] 31) = w1 at *
  generalize htb : w.heap.size = tb at *
  have HX := hid (boxes2 w most (.slice sa N sc) w1 hw1 tb htb)
  clear hw1
  obtain ⟨x0, x1, ⟨y0, y1, y2, y3⟩, z0, z1, z2, z3⟩ := HX.out
  have X1 := hid x1
  have HM1 := hid (HM.out.old x0)
  have X0 := hid x0
  clear x1 x0
  have HEnd := hid (fun (W : World) (u : Old w1 W) => show OwnM base ((W.setCell ⟨tb + 1, 0, none⟩ (.int .i64 most)).setCell ⟨tb + 1, 1, none⟩ (.slice sa N sc)) (.slice sa N sc) M ∧ Old w ((W.setCell ⟨tb + 1, 0, none⟩ (.int .i64 most)).setCell ⟨tb + 1, 1, none⟩ (.slice sa N sc)) from by
    have u2 := ((X0.out.trans u).setCell (p := ⟨tb + 1, 0, none⟩) (by simp [htb]) (.int .i64 most)).setCell (p := ⟨tb + 1, 1, none⟩) (by simp [htb]) (.slice sa N sc)
    exact ⟨HM.out.old u2, u2⟩)
  cases hn : Fl.nan key
  · rw [hn] at HNan HP
    have HP2 := hid (HP.out.trans (if_neg (by simp)))
    clear HP hn
    by_cases h1 : n < 1
    · have hpm := HP2.out.trans (if_pos (.inl h1))
      subst hpm
      go_wp2_with (first | (go_at_call 48; refine (HNan.out _).mono ?_; rintro e w2 ⟨rfl, hq⟩; have hq2 := hq.symm; subst hq2))
      refine bodyPost_ret (v := .tuple #[.agg #[.int .i64 most, .slice sa N sc], .int .i64 43]) (by simp [results, Try.results13, go_sem, *]) rfl ⟨_, rfl, (HEnd.out _ (Old.refl _)).1, (HEnd.out _ (Old.refl _)).2, fun g hg => .inl hg⟩
    · by_cases h2 : 1099511627776 < n
      · have hpm := HP2.out.trans (if_pos (.inr h2))
        subst hpm
        go_wp2_with (first | (go_at_call 48; refine (HNan.out _).mono ?_; rintro e w2 ⟨rfl, hq⟩; have hq2 := hq.symm; subst hq2))
        refine bodyPost_ret (v := .tuple #[.agg #[.int .i64 most, .slice sa N sc], .int .i64 43]) (by simp [results, Try.results13, go_sem, *]) rfl ⟨_, rfl, (HEnd.out _ (Old.refl _)).1, (HEnd.out _ (Old.refl _)).2, fun g hg => .inl hg⟩
      · have HP3 := hid (HP2.out.trans (if_neg (by omega)))
        clear HP2
        by_cases hA : R = 0 ∧ most ≤ (N : Int)
        · have hpm := HP3.out.trans (if_pos hA)
          subst hpm
          obtain ⟨rfl, h4⟩ := hA
          go_wp2_with (first | (go_at_call 48; refine (HNan.out _).mono ?_; rintro e w2 ⟨rfl, hq⟩; have hq2 := hq.symm; subst hq2) | (go_at_call 15; refine (HA.out _ X0.out).mono ?_; rintro e w2 ⟨rfl, u2⟩; have U2 := hid u2; clear u2; have y0' := U2.out.keep y0; have y1' := U2.out.keep y1; have y2' := U2.out.keep y2; have y3' := U2.out.keep y3; have z2' := U2.out.keepF y2 z2; have z3' := U2.out.keepF y3 z3))
          refine bodyPost_ret (v := .tuple #[.agg #[.int .i64 most, .slice sa N sc], .int .i64 3]) (by simp [results, Try.results13, go_sem, *]) rfl ⟨_, rfl, (HEnd.out _ U2.out).1, (HEnd.out _ U2.out).2, fun g hg => .inl hg⟩
        · have HP4 := hid (HP3.out.trans (if_neg hA))
          clear HP3
          by_cases h3 : R = 0
          · have h4 : ¬ most ≤ (N : Int) := fun q => hA ⟨h3, q⟩
            have hB : ¬ n ≤ R := by omega
            have HP5 := hid (HP4.out.trans (if_neg hB))
            clear HP4 hA
            subst h3
            go_upto_region 10 with (first | (go_at_call 48; refine (HNan.out _).mono ?_; rintro e w2 ⟨rfl, hq⟩; have hq2 := hq.symm; subst hq2) | (go_at_call 15; refine (HA.out _ X0.out).mono ?_; rintro e w2 ⟨rfl, u2⟩; have U2 := hid u2; clear u2; have y0' := U2.out.keep y0; have y1' := U2.out.keep y1; have y2' := U2.out.keep y2; have y3' := U2.out.keep y3; have z2' := U2.out.keepF y2 z2; have z3' := U2.out.keepF y3 z3))
            have y0 := y0'
            have y1 := y1'
            have HE := hid (show OwnM (tb + 2) (w2.alloc (.cells #[] 53)) (.slice (some ⟨w2.heap.size, 0, none⟩) 0 0) (offK (Fl.code key) (M.take 0)) from OwnM.empty (by have := U2.out.size; have := X1.out; omega) rfl)
            have HU2 := hid (U2.out.alloc (.cells #[] 53))
            clear y0' y1' y2' y3' z2' z3'
            go_upto_region 11 with fail
            generalize w2.alloc (.cells #[] 53) = w3 at *
            go_wp2
            go_loopw [9, 10] (fun o i wr => ∃ k : Nat, k ≤ N ∧ i = .int .i64 (k : Nat) ∧ OwnM (tb + 2) wr o (offK (Fl.code key) (M.take k)) ∧ Old w1 wr) (fun _ i _ => N - (intOf i).toNat)
            case atStart => exact ⟨0, Nat.zero_le _, rfl, HE.out, HU2.out⟩
            case round =>
              obtain ⟨k, hkN, rfl, ho, hu⟩ := hrel
              have HU := hid hu
              have HO := hid ho
              clear hu ho HE
              obtain ⟨_, _, ⟨y0, y1, y2, y3⟩, z0, z1, z2, z3⟩ := HX.out
              have b0 := HU.out.keep y0
              have b1 := HU.out.keep y1
              by_cases hlt : k < N
              · obtain ⟨g, cap, he, hgb, hgl, hi⟩ := HSh.out (by omega)
                simp only [Value.slice.injEq] at he
                obtain ⟨rfl, _, rfl⟩ := he
                obtain ⟨c0, c1⟩ := (hi k hlt).old (X0.out.trans HU.out)
                have l1 : (0 : Int) ≤ (k : Int) := by omega
                have l2 : (k : Int) < (N : Int) := by omega
                clear hi y0 y1 y2 y3 z0 z1 z2 z3
                have HSk := hid (HSt.out k hlt)
                have HS := hid (fun W => rsame_old (atI M k).k key (HWi.out k hlt) hk W)
                by_cases e : Fl.code (atI M k).k = Fl.code key
                · rw [decide_eq_true e] at HS
                  have HSk2 := hid (HSk.out.trans (by rw [if_pos (show kc (atI M k) = Fl.code key from e), List.append_nil]))
                  clear e HSk
                  go_wp2_with (first | (go_at_call 49; refine (HS.out _).mono ?_; rintro e w4 ⟨rfl, u4⟩; have U4 := hid u4; clear u4))
                  go_roundw
                  case rel => exact ⟨k + 1, hlt, by go_num, by rw [HSk2.out]; exact HO.out.old U4.out, HU.out.trans U4.out⟩
                  case measure => simp [intOf]; omega
                · rw [decide_eq_false e] at HS
                  have HSk2 := hid (HSk.out.trans (by rw [if_neg (show ¬ kc (atI M k) = Fl.code key from e)]))
                  clear e HSk
                  go_upto_region 15 with (first | (go_at_call 49; refine (HS.out _).mono ?_; rintro e w4 ⟨rfl, u4⟩; have U4 := hid u4; clear u4))
                  have c0' := U4.out.keep c0
                  have c1' := U4.out.keep c1
                  have b1' := U4.out.keep b1
                  have hlen := HL.out k
                  have HU5 := hid ((HU.out.trans U4.out).alloc (.cells #[.float .f64 (atI M k).k, .int .i64 (atI M k).n] 53))
                  have HO4 := hid (HO.out.old U4.out)
                  go_wp2_with (first | (at_builtin; refine wp_appM rfl (.tmp 56) (.tmp 62) rfl (tb + 2) _ (offK (Fl.code key) (M.take k)) (atI M k) _ 1 rfl rfl (OwnM.old HO4.out ((Old.refl _).alloc _)) (itemM_new _ (atI M k) _ (by simp)) (by omega) (by have := HU5.out.size; have := X1.out; omega) ?_; intro v8 w8 o8 g8; have O8 := hid o8; have G8 := hid g8; clear o8 g8))
                  go_roundw
                  case rel => exact ⟨k + 1, hlt, by go_num, by rw [HSk2.out]; exact O8.out, HU5.out.below (by rw [X1.out]; exact G8.out)⟩
                  case measure => simp [intOf]; omega
              · obtain rfl : k = N := by omega
                rw [HTk.out] at HO
                have b2 := HU.out.keep y2
                have b3 := HU.out.keep y3
                have f0 := HU.out.keepF y0 z0
                have f1 := HU.out.keepF y1 z1
                have f2 := HU.out.keepF y2 z2
                have f3 := HU.out.keepF y3 z3
                clear y0 y1 y2 y3 z0 z1 z2 z3 HTk HSt HSh HL HWi
                have HCd := hid (fun W => refCode_any key hk W)
                have HOf := hid (fun W => of_any (Fl.code key) (Fl.code_le key hk) W)
                rw [Fl.of_code key hk] at HOf
                go_upto_region 16 with fail
                have hK2 : ∃ K2, offK (Fl.code key) M ++ [⟨Fl.canon key, n⟩] = K2 := ⟨_, rfl⟩
                obtain ⟨K2, hK2⟩ := hK2
                have HK2 := hid hK2
                have hpm := HP5.out
                rw [hK2] at hpm
                subst hpm
                clear hK2 HP5
                have hlen := HL2.out
                go_wp2_with (first | (go_at_call 51; refine (HCd.out _).mono ?_; rintro e w5 ⟨rfl, hq⟩; have hq2 := hq.symm; subst hq2; clear hq) | (go_at_call 50; refine (HOf.out _).mono ?_; rintro e w6 ⟨rfl, hq⟩; have hq2 := hq.symm; subst hq2; clear hq) | (at_builtin; refine wp_appM rfl (.tmp 64) (.tmp 70) rfl (tb + 2) _ (offK (Fl.code key) M) ⟨Fl.canon key, n⟩ _ 1 rfl rfl (OwnM.old HO.out ((Old.refl _).alloc _)) (itemM_new _ ⟨Fl.canon key, n⟩ _ (by simp)) (by omega) (by have := HU.out.size; have := X1.out; simp; omega) ?_; intro v8 w8 o8 g8; rw [HK2.out] at o8; obtain ⟨a8, c8, hv8⟩ := o8.len; subst hv8; have O8 := hid o8; have V8 := hid (show Old w1 w8 from (HU.out.alloc _).below (by rw [X1.out]; exact g8)); clear o8 g8; have q0 := V8.out.keep HX.out.2.2.1.1; have q1 := V8.out.keep HX.out.2.2.1.2.1; have q2 := V8.out.keep HX.out.2.2.1.2.2.1; have q3 := V8.out.keep HX.out.2.2.1.2.2.2; have r1 := V8.out.keepF HX.out.2.2.1.2.1 HX.out.2.2.2.2.1; have r2 := V8.out.keepF HX.out.2.2.1.2.2.1 HX.out.2.2.2.2.2.1; have r3 := V8.out.keepF HX.out.2.2.1.2.2.2 HX.out.2.2.2.2.2.2))
                refine bodyPost_ret (v := .tuple #[.agg #[.int .i64 most, .slice a8 K2.length c8], .int .i64 0]) (by simp [results, Try.results13, go_sem, *]) rfl ⟨_, rfl, ?_, ?_, fun g hg => .inr (by have := (O8.out.lt g hg).1; omega)⟩
                · have q := ((O8.out.set ⟨tb, 1, none⟩ (.slice a8 K2.length c8) (show tb < tb + 2 by omega)).set ⟨tb + 1, 0, none⟩ (.int .i64 most) (show tb + 1 < tb + 2 by omega)).set ⟨tb + 1, 1, none⟩ (.slice a8 K2.length c8) (show tb + 1 < tb + 2 by omega)
                  exact OwnM.mono q (by omega)
                · exact (((X0.out.trans V8.out).setCell (by simp [htb]) _).setCell (by simp [htb]) _).setCell (by simp [htb]) _
          · have h3b : (R == 0) = false := by rw [beq_eq_false_iff_ne]; exact h3
            clear hA
            by_cases hB : n ≤ R
            · have hpm := HP4.out.trans (if_pos hB)
              subst hpm
              go_wp2_with (first | (go_at_call 48; refine (HNan.out _).mono ?_; rintro e w2 ⟨rfl, hq⟩; have hq2 := hq.symm; subst hq2) | (go_at_call 15; refine (HA.out _ X0.out).mono ?_; rintro e w2 ⟨rfl, u2⟩; have U2 := hid u2; clear u2; have y0' := U2.out.keep y0; have y1' := U2.out.keep y1; have y2' := U2.out.keep y2; have y3' := U2.out.keep y3; have z2' := U2.out.keepF y2 z2; have z3' := U2.out.keepF y3 z3))
              refine bodyPost_ret (v := .tuple #[.agg #[.int .i64 most, .slice sa N sc], .int .i64 0]) (by simp [results, Try.results13, go_sem, *]) rfl ⟨_, rfl, (HEnd.out _ U2.out).1, (HEnd.out _ U2.out).2, fun g hg => .inl hg⟩
            · have HP5 := hid (HP4.out.trans (if_neg hB))
              clear HP4
              go_upto_region 10 with (first | (go_at_call 48; refine (HNan.out _).mono ?_; rintro e w2 ⟨rfl, hq⟩; have hq2 := hq.symm; subst hq2) | (go_at_call 15; refine (HA.out _ X0.out).mono ?_; rintro e w2 ⟨rfl, u2⟩; have U2 := hid u2; clear u2; have y0' := U2.out.keep y0; have y1' := U2.out.keep y1; have y2' := U2.out.keep y2; have y3' := U2.out.keep y3; have z2' := U2.out.keepF y2 z2; have z3' := U2.out.keepF y3 z3))
              have y0 := y0'
              have y1 := y1'
              have HE := hid (show OwnM (tb + 2) (w2.alloc (.cells #[] 53)) (.slice (some ⟨w2.heap.size, 0, none⟩) 0 0) (offK (Fl.code key) (M.take 0)) from OwnM.empty (by have := U2.out.size; have := X1.out; omega) rfl)
              have HU2 := hid (U2.out.alloc (.cells #[] 53))
              clear y0' y1' y2' y3' z2' z3'
              go_upto_region 11 with fail
              generalize w2.alloc (.cells #[] 53) = w3 at *
              go_wp2
              go_loopw [9, 10] (fun o i wr => ∃ k : Nat, k ≤ N ∧ i = .int .i64 (k : Nat) ∧ OwnM (tb + 2) wr o (offK (Fl.code key) (M.take k)) ∧ Old w1 wr) (fun _ i _ => N - (intOf i).toNat)
              case atStart => exact ⟨0, Nat.zero_le _, rfl, HE.out, HU2.out⟩
              case round =>
                obtain ⟨k, hkN, rfl, ho, hu⟩ := hrel
                have HU := hid hu
                have HO := hid ho
                clear hu ho HE
                obtain ⟨_, _, ⟨y0, y1, y2, y3⟩, z0, z1, z2, z3⟩ := HX.out
                have b0 := HU.out.keep y0
                have b1 := HU.out.keep y1
                by_cases hlt : k < N
                · obtain ⟨g, cap, he, hgb, hgl, hi⟩ := HSh.out (by omega)
                  simp only [Value.slice.injEq] at he
                  obtain ⟨rfl, _, rfl⟩ := he
                  obtain ⟨c0, c1⟩ := (hi k hlt).old (X0.out.trans HU.out)
                  have l1 : (0 : Int) ≤ (k : Int) := by omega
                  have l2 : (k : Int) < (N : Int) := by omega
                  clear hi y0 y1 y2 y3 z0 z1 z2 z3
                  have HSk := hid (HSt.out k hlt)
                  have HS := hid (fun W => rsame_old (atI M k).k key (HWi.out k hlt) hk W)
                  by_cases e : Fl.code (atI M k).k = Fl.code key
                  · rw [decide_eq_true e] at HS
                    have HSk2 := hid (HSk.out.trans (by rw [if_pos (show kc (atI M k) = Fl.code key from e), List.append_nil]))
                    clear e HSk
                    go_wp2_with (first | (go_at_call 49; refine (HS.out _).mono ?_; rintro e w4 ⟨rfl, u4⟩; have U4 := hid u4; clear u4))
                    go_roundw
                    case rel => exact ⟨k + 1, hlt, by go_num, by rw [HSk2.out]; exact HO.out.old U4.out, HU.out.trans U4.out⟩
                    case measure => simp [intOf]; omega
                  · rw [decide_eq_false e] at HS
                    have HSk2 := hid (HSk.out.trans (by rw [if_neg (show ¬ kc (atI M k) = Fl.code key from e)]))
                    clear e HSk
                    go_upto_region 15 with (first | (go_at_call 49; refine (HS.out _).mono ?_; rintro e w4 ⟨rfl, u4⟩; have U4 := hid u4; clear u4))
                    have c0' := U4.out.keep c0
                    have c1' := U4.out.keep c1
                    have b1' := U4.out.keep b1
                    have hlen := HL.out k
                    have HU5 := hid ((HU.out.trans U4.out).alloc (.cells #[.float .f64 (atI M k).k, .int .i64 (atI M k).n] 53))
                    have HO4 := hid (HO.out.old U4.out)
                    go_wp2_with (first | (at_builtin; refine wp_appM rfl (.tmp 56) (.tmp 62) rfl (tb + 2) _ (offK (Fl.code key) (M.take k)) (atI M k) _ 1 rfl rfl (OwnM.old HO4.out ((Old.refl _).alloc _)) (itemM_new _ (atI M k) _ (by simp)) (by omega) (by have := HU5.out.size; have := X1.out; omega) ?_; intro v8 w8 o8 g8; have O8 := hid o8; have G8 := hid g8; clear o8 g8))
                    go_roundw
                    case rel => exact ⟨k + 1, hlt, by go_num, by rw [HSk2.out]; exact O8.out, HU5.out.below (by rw [X1.out]; exact G8.out)⟩
                    case measure => simp [intOf]; omega
                · obtain rfl : k = N := by omega
                  rw [HTk.out] at HO
                  have b2 := HU.out.keep y2
                  have b3 := HU.out.keep y3
                  have f0 := HU.out.keepF y0 z0
                  have f1 := HU.out.keepF y1 z1
                  have f2 := HU.out.keepF y2 z2
                  have f3 := HU.out.keepF y3 z3
                  clear y0 y1 y2 y3 z0 z1 z2 z3 HTk HSt HSh HL HWi
                  have HCd := hid (fun W => refCode_any key hk W)
                  have HOf := hid (fun W => of_any (Fl.code key) (Fl.code_le key hk) W)
                  rw [Fl.of_code key hk] at HOf
                  go_upto_region 16 with fail
                  have hK2 : ∃ K2, offK (Fl.code key) M ++ [⟨Fl.canon key, n⟩] = K2 := ⟨_, rfl⟩
                  obtain ⟨K2, hK2⟩ := hK2
                  have HK2 := hid hK2
                  have hpm := HP5.out
                  rw [hK2] at hpm
                  subst hpm
                  clear hK2 HP5
                  have hlen := HL2.out
                  go_wp2_with (first | (go_at_call 51; refine (HCd.out _).mono ?_; rintro e w5 ⟨rfl, hq⟩; have hq2 := hq.symm; subst hq2; clear hq) | (go_at_call 50; refine (HOf.out _).mono ?_; rintro e w6 ⟨rfl, hq⟩; have hq2 := hq.symm; subst hq2; clear hq) | (at_builtin; refine wp_appM rfl (.tmp 64) (.tmp 70) rfl (tb + 2) _ (offK (Fl.code key) M) ⟨Fl.canon key, n⟩ _ 1 rfl rfl (OwnM.old HO.out ((Old.refl _).alloc _)) (itemM_new _ ⟨Fl.canon key, n⟩ _ (by simp)) (by omega) (by have := HU.out.size; have := X1.out; simp; omega) ?_; intro v8 w8 o8 g8; rw [HK2.out] at o8; obtain ⟨a8, c8, hv8⟩ := o8.len; subst hv8; have O8 := hid o8; have V8 := hid (show Old w1 w8 from (HU.out.alloc _).below (by rw [X1.out]; exact g8)); clear o8 g8; have q0 := V8.out.keep HX.out.2.2.1.1; have q1 := V8.out.keep HX.out.2.2.1.2.1; have q2 := V8.out.keep HX.out.2.2.1.2.2.1; have q3 := V8.out.keep HX.out.2.2.1.2.2.2; have r1 := V8.out.keepF HX.out.2.2.1.2.1 HX.out.2.2.2.2.1; have r2 := V8.out.keepF HX.out.2.2.1.2.2.1 HX.out.2.2.2.2.2.1; have r3 := V8.out.keepF HX.out.2.2.1.2.2.2 HX.out.2.2.2.2.2.2))
                  refine bodyPost_ret (v := .tuple #[.agg #[.int .i64 most, .slice a8 K2.length c8], .int .i64 0]) (by simp [results, Try.results13, go_sem, *]) rfl ⟨_, rfl, ?_, ?_, fun g hg => .inr (by have := (O8.out.lt g hg).1; omega)⟩
                  · have q := ((O8.out.set ⟨tb, 1, none⟩ (.slice a8 K2.length c8) (show tb < tb + 2 by omega)).set ⟨tb + 1, 0, none⟩ (.int .i64 most) (show tb + 1 < tb + 2 by omega)).set ⟨tb + 1, 1, none⟩ (.slice a8 K2.length c8) (show tb + 1 < tb + 2 by omega)
                    exact OwnM.mono q (by omega)
                  · exact (((X0.out.trans V8.out).setCell (by simp [htb]) _).setCell (by simp [htb]) _).setCell (by simp [htb]) _
  · rw [hn] at HNan HP
    have hpm := HP.out.trans (if_pos rfl)
    subst hpm
    go_wp2_with (first | (go_at_call 48; refine (HNan.out _).mono ?_; rintro e w2 ⟨rfl, hq⟩; have hq2 := hq.symm; subst hq2))
    refine bodyPost_ret (v := .tuple #[.agg #[.int .i64 most, .slice sa N sc], .int .i64 40]) (by simp [results, Try.results13, go_sem, *]) rfl ⟨_, rfl, (HEnd.out _ (Old.refl _)).1, (HEnd.out _ (Old.refl _)).2, fun g hg => .inl hg⟩
end Go.Proofs.Ytbjikfcegiagjaa
