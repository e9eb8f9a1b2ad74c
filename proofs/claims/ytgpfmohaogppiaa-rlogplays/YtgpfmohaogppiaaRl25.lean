/- The document's Append of layer 16 at every log; conditions: it lies in memory. -/
import Derived.Test.YtgpfmohaogppiaaRl24
namespace Go.Proofs.Ytgpfmohaogppiaa
open Go.RowKit Go.Lib
set_option linter.unusedVariables false
set_option linter.unusedSimpArgs false
set_option maxRecDepth 20000
theorem lst_take {ix tm : Int} {E : List En} {k : Nat} (h : k < E.length) : lstI ix (E.take (k + 1)) = (atE E k).i ∧ lstT tm (E.take (k + 1)) = (atE E k).t := by
  rw [take_at h, lstI_app, lstT_app]
  exact ⟨rfl, rfl⟩
theorem fol_more {ix tm : Int} {E : List En} {k : Nat} (h : k < E.length) (f : Fol ix tm (E.take k)) (h1 : rightE (atE E k).i (atE E k).t (atE E k).k (atE E k).d = true) (h2 : (atE E k).i = lstI ix (E.take k) + 1) (h3 : lstT tm (E.take k) ≤ (atE E k).t) : Fol ix tm (E.take (k + 1)) := by
  rw [take_at h, Fol.app]
  exact ⟨f, h2, h3, h1, trivial⟩
theorem appF_no {P : PL} {E : List En} {F : Int} (h : flt (lI P) (lT P) E = F) (hF : F ≠ 0) : appF P E = P := by
  unfold appF
  exact if_neg (fun e => hF (h.symm.trans e))
theorem appF_yes {P : PL} {E : List En} (h : flt (lI P) (lT P) E = 0) : appF P E = appP P E := by
  unfold appF
  exact if_pos h
set_option maxHeartbeats 8000000 in
set_option maxRecDepth 20000 in
theorem rAppend_any (P : PL) (D : Dg) (ve : Value) (E : List En) (w : World) (h : DocP P D w) (hE : ERow w ve E) :
    Calls Try.prog 25 #[DV P D, ve] w fun e w' => RPost (appF P E) (flt (lI P) (lT P) E) P D E w e w' := by
  have HD := hid h
  have HEr := hid hE
  have HL := hid (fun (W : World) (u : Old w W) => rLast_any P D W (h.old u))
  have hf := h.few
  have HA := hid (fun j hj => (h.at j hj))
  have HRw := hid h.e.2.2
  have HLn := hid h.len
  have HK := hid h.ok
  have HLI := hid (show lI P = P.ix + P.es.length from Fol.len _ _ _ h.ok.fol)
  have HFa := hid (Fol.last _ _ _ h.ok.fol h.ok.i1 h.ok.t0 h.ok.t1)
  obtain ⟨hm, ⟨pe, ce, rfl, hmc, hcm, hEc⟩, hEd⟩ := hE
  have HEc := hid hEc
  have HEd := hid hEd
  clear hEc hEd h
  unfold DV Dg.v1 Dg.v2 Dg.ve at HL ⊢
  obtain ⟨q1, c1, q2, c2, q, c, X⟩ := D
  dsimp only at HL hf HA HRw HLn ⊢
  obtain ⟨n1, hn1⟩ : ∃ n1, P.a.length = n1 := ⟨_, rfl⟩
  obtain ⟨n2, hn2⟩ : ∃ n2, P.b.length = n2 := ⟨_, rfl⟩
  obtain ⟨n, hn⟩ : ∃ n, X.length = n := ⟨_, rfl⟩
  obtain ⟨m, hmE⟩ : ∃ m, E.length = m := ⟨_, rfl⟩
  have HN := hid (And.intro hn1 (And.intro hn2 (And.intro hn hmE)))
  rw [hn1, hn2, hn] at HL ⊢
  rw [hn] at hf HA HLn
  rw [hmE] at hm hmc HEc ⊢
  clear hn1 hn2 hn hmE
  obtain ⟨hf1, hf2, hf3⟩ := hf
  have hnn : (n : Int) ≤ 1099511627776 := by omega
  have hmm : (m : Int) ≤ 2932031007402 := by omega
  obtain ⟨pix, hpx⟩ : ∃ pix, P.ix = pix := ⟨_, rfl⟩
  obtain ⟨ptm, hpt⟩ : ∃ ptm, P.tm = ptm := ⟨_, rfl⟩
  obtain ⟨li, hli⟩ : ∃ li, lI P = li := ⟨_, rfl⟩
  obtain ⟨lt, hlt⟩ : ∃ lt, lT P = lt := ⟨_, rfl⟩
  have HP := hid (And.intro hpx (And.intro hpt (And.intro hli hlt)))
  have HB := hid (show 0 ≤ li ∧ li ≤ 1099511627776 ∧ 0 ≤ lt ∧ lt ≤ 1099511627776 ∧ (n : Int) ≤ li from by have := HFa.out; have := HK.out.i0; have := HK.out.t0; have h8 := HLI.out; have := HLn.out; unfold lI at hli h8; unfold lT at hlt; omega)
  obtain ⟨F, hF⟩ : ∃ F, flt (lI P) (lT P) E = F := ⟨_, rfl⟩
  have HF := hid hF
  rw [hpx, hpt, hli, hlt] at HL
  rw [hF, hpx, hpt]
  clear hpx hpt hli hlt hF HFa
  go_enter Try.func25, Try.ntmps25
  go_upto_region 1 with (fail)
  have U0 := hid (((Old.refl w).alloc (.cells #[.int .i64 pix, .int .i64 ptm, .slice q1 n1 c1, .slice q2 n2 c2, .slice q n c] 54)).alloc (.cells #[.int .i64 0, .int .i64 0, .slice none 0 0, .slice none 0 0, .slice none 0 0] 54))
  have B2 := hid (((Old.refl _).alloc (.cells #[.int .i64 0, .int .i64 0, .slice none 0 0, .slice none 0 0, .slice none 0 0] 54)).block (alloc_at w (.cells #[.int .i64 pix, .int .i64 ptm, .slice q1 n1 c1, .slice q2 n2 c2, .slice q n c] 54)))
  have B4 := hid (show ((w.alloc (.cells #[.int .i64 pix, .int .i64 ptm, .slice q1 n1 c1, .slice q2 n2 c2, .slice q n c] 54)).alloc (.cells #[.int .i64 0, .int .i64 0, .slice none 0 0, .slice none 0 0, .slice none 0 0] 54)).heap[w.heap.size + 1]? = some (.cells #[.int .i64 0, .int .i64 0, .slice none 0 0, .slice none 0 0, .slice none 0 0] 54) from by have := alloc_at (w.alloc (.cells #[.int .i64 pix, .int .i64 ptm, .slice q1 n1 c1, .slice q2 n2 c2, .slice q n c] 54)) (.cells #[.int .i64 0, .int .i64 0, .slice none 0 0, .slice none 0 0, .slice none 0 0] 54); simpa using this)
  have S0 := hid (show ((w.alloc (.cells #[.int .i64 pix, .int .i64 ptm, .slice q1 n1 c1, .slice q2 n2 c2, .slice q n c] 54)).alloc (.cells #[.int .i64 0, .int .i64 0, .slice none 0 0, .slice none 0 0, .slice none 0 0] 54)).heap.size = w.heap.size + 2 from by simp)
  generalize (w.alloc (.cells #[.int .i64 pix, .int .i64 ptm, .slice q1 n1 c1, .slice q2 n2 c2, .slice q n c] 54)).alloc (.cells #[.int .i64 0, .int .i64 0, .slice none 0 0, .slice none 0 0, .slice none 0 0] 54) = w0 at *
  obtain ⟨bx, hbx⟩ : ∃ bx, w.heap.size = bx := ⟨_, rfl⟩
  have HBX := hid hbx
  rw [hbx] at B2 B4 S0 ⊢
  clear hbx
  obtain ⟨⟨a0, a1, a2, a3, a4⟩, -⟩ := box5 B2.out
  go_upto_region 2 with (go_at_call 24; refine (HL.out _ U0.out).mono ?_; rintro e w1 ⟨rfl, o1⟩; have O1 := hid o1; clear o1)
  clear HL a0 a1 a2 a3 a4
  have C2 := hid (O1.out.block B2.out)
  have C4 := hid (O1.out.block B4.out)
  have U1 := hid (U0.out.trans O1.out)
  have S1 := hid (show bx + 2 ≤ w1.heap.size from by have := O1.out.size; have := S0.out; omega)
  clear O1 B2 B4 U0 S0
  have HO := hid (show OwnOff w1.heap.size 41 4 (w1.alloc (.cells #[] 41)) (.slice (some ⟨w1.heap.size, 0, none⟩) 0 0) 0 [] from OwnOff.of (World.ownsRow_made _ #[] 0 (Nat.le_refl _) (by unfold maxLen; omega) rfl))
  have A1 := hid ((Old.refl w1).alloc (.cells #[] 41))
  go_upto_region 4 with (fail)
  generalize w1.alloc (.cells #[] 41) = w3 at *
  go_wp2
  go_loopw [8, 9] (fun o i wx => ∃ (k : Nat) (p : Option Addr) (cc : Nat), k ≤ n ∧ i = .int .i64 (k : Nat) ∧ o = .slice p k cc ∧ Hid (Old w1 wx ∧ OwnOff w1.heap.size 41 4 wx (.slice p k cc) k (ecs ((X.take k).map En.e)))) (fun _ i _ => n - (intOf i).toNat)
  case atStart => exact ⟨0, _, _, Nat.zero_le _, rfl, rfl, hid ⟨A1.out, HO.out⟩⟩
  case round =>
    obtain ⟨k, p, cc, hk, rfl, rfl, HI⟩ := hrel
    clear HO A1
    have y4 : wr.cell? ⟨bx, 4, none⟩ = some (.slice q n c) := by rw [Go.Joins.cell_of_block (HI.out.1.block C2.out)]; rfl
    by_cases hlt : k < n
    · have hkX : k < X.length := by rw [HN.out.2.2.1]; exact hlt
      obtain ⟨g, off, rfl, x4⟩ := HA.out k hlt
      obtain ⟨x0, x1, x2, x3⟩ := x4.old (U1.out.trans HI.out.1)
      have HT := hid (take_at hkX)
      have l1 : (0 : Int) ≤ (k : Int) := by omega
      have l2 : (k : Int) < (n : Int) := by omega
      clear x4
      generalize atE X k = Z at *
      obtain ⟨ei, et, ek, ep, ec, ed⟩ := Z
      dsimp only [En.e] at x0 x1 x2 x3
      obtain ⟨edl, hed⟩ : ∃ edl, ed.length = edl := ⟨_, rfl⟩
      have HED := hid (show (⟨ei, et, ek, ep, ec, ed⟩ : En).e = ⟨ei, et, ek, ep, edl, ec⟩ from by rw [← hed]; rfl)
      rw [hed] at x3
      have HSz := hid (show w1.heap.size ≤ wr.heap.size from HI.out.1.size)
      have HNm := hid (show k + 1 ≤ 2932031007402 from by omega)
      clear hed
      go_wp2_with (at_builtin; refine wp_appEO rfl (.tmp 25) (.tmp 31) rfl w1.heap.size _ _ k _ ⟨ei, et, ek, ep, edl, ec⟩ rfl rfl (HI.out.2.up ((Old.refl wr).alloc _)) (cell_oneE wr ⟨ei, et, ek, ep, edl, ec⟩ _ rfl) HNm.out (by have := HSz.out; simp; omega) ?_; intro v9 w9 o9 g9; obtain ⟨p9, c9, e9, -⟩ := o9.len; subst e9; have O9 := hid o9; have U9 := hid (Old.below (w' := w9) (HI.out.1.alloc _) (Below.grown (Below.refl _ _) g9 (by have := HSz.out; simp; omega) (fun g e => (HI.out.2.lt g e).1))); clear o9 g9)
      exact ⟨⟨k + 1, p9, c9, hlt, by go_num, rfl, hid ⟨U9.out, by rw [HT.out, List.map_append]; show OwnOff _ _ _ _ _ _ (ecs (_ ++ [(⟨ei, et, ek, ep, ec, ed⟩ : En).e])); rw [HED.out]; exact O9.out⟩⟩, by simp [intOf]; omega⟩
    · obtain rfl : n = k := by omega
      have HI9 := hid (show Old w1 wr ∧ OwnOff w1.heap.size 41 4 wr (.slice p n cc) n (ecs (X.map En.e)) from by have := HI.out; rw [List.take_of_length_le (by rw [HN.out.2.2.1]; exact Nat.le_refl _)] at this; exact this)
      clear HI
      go_upto_region 8 with (fail)
      clear y4
      generalize wr = w5 at *
      go_wp2
      go_loopw [6, 7, 8, 10] (fun a t o i wx => ∃ (k : Nat) (ai ti : Int) (p : Option Addr) (cc : Nat), k ≤ m ∧ i = .int .i64 (k : Nat) ∧ a = .int .i64 ai ∧ t = .int .i64 ti ∧ o = .slice p (n + k) cc ∧ Hid (Old w1 wx ∧ OwnOff w1.heap.size 41 4 wx (.slice p (n + k) cc) (n + k) (ecs ((X ++ E.take k).map En.e)) ∧ ai = lstI li (E.take k) ∧ ti = lstT lt (E.take k) ∧ Fol li lt (E.take k) ∧ F = flt ai ti (E.drop k))) (fun _ _ _ i _ => m - (intOf i).toNat)
      case atStart => exact ⟨0, _, _, _, _, Nat.zero_le _, rfl, rfl, rfl, rfl, hid ⟨HI9.out.1, by rw [List.take_zero, List.append_nil]; exact HI9.out.2, rfl, rfl, trivial, by rw [← HF.out, HP.out.2.2.1, HP.out.2.2.2]; rfl⟩⟩
      case round =>
        obtain ⟨k, ai, ti, p, cc, hk, rfl, rfl, rfl, rfl, HI⟩ := hrel
        clear HI9
        by_cases hlt : k < m
        · have hkE : k < E.length := by rw [HN.out.2.2.2]; exact hlt
          obtain ⟨g, off, rfl, x4⟩ := HEc.out k hlt
          obtain ⟨x0, x1, x2, x3⟩ := x4.old (U1.out.trans HI.out.1)
          have HT := hid (take_at hkE)
          have HDr := hid (drop_at hkE)
          have HLs := hid (lst_take (ix := li) (tm := lt) hkE)
          have HFm := hid (fol_more (ix := li) (tm := lt) hkE HI.out.2.2.2.2.1)
          have HRd := hid (HEd.out _ (atE_mem E k hkE))
          have hfl := Fol.last _ _ _ HI.out.2.2.2.2.1 HB.out.2.1 HB.out.2.2.1 HB.out.2.2.2.1
          have hfn := Fol.len _ _ _ HI.out.2.2.2.2.1
          rw [List.length_take, Nat.min_eq_left (by omega), ← HI.out.2.2.1] at hfn
          rw [← HI.out.2.2.1, ← HI.out.2.2.2.1] at hfl
          have ha1 : ai ≤ 1099511627776 := hfl.1
          have ha0 : 0 ≤ ai := by have := HB.out.1; omega
          have HNm := hid (show n + k + 1 ≤ 2932031007402 from by have := HB.out.2.2.2.2; omega)
          have HF2 := hid (HI.out.2.2.2.2.2)
          have l1 : (0 : Int) ≤ (k : Int) := by omega
          have l2 : (k : Int) < (m : Int) := by omega
          clear x4 hfl hfn
          rw [HDr.out] at HF2
          generalize atE E k = Z at *
          obtain ⟨ei, et, ek, ep, ec, ed⟩ := Z
          dsimp only [En.e] at x0 x1 x2 x3
          dsimp only at HLs HFm
          dsimp only [En.s] at HRd
          have HRg := hid (fun (W : World) (u : Old wr W) => rRight_any16 ei et ek _ ed W (HRd.out.old ((U1.out.trans HI.out.1).trans u)))
          obtain ⟨edl, hed⟩ : ∃ edl, ed.length = edl := ⟨_, rfl⟩
          have HED := hid (show (⟨ei, et, ek, ep, ec, ed⟩ : En).e = ⟨ei, et, ek, ep, edl, ec⟩ from by rw [← hed]; rfl)
          rw [hed] at x3 HRg
          clear hed
          go_upto_region 11 with (fail)
          have U6 := hid ((Old.refl wr).alloc (.cells #[.int .i64 ei, .int .i64 et, .int .i64 ek, .slice ep edl ec] 41))
          have B6 := hid (alloc_at wr (.cells #[.int .i64 ei, .int .i64 et, .int .i64 ek, .slice ep edl ec] 41))
          have I6 := hid (HI.out.2.1.up U6.out)
          clear x0 x1 x2 x3
          generalize wr.alloc (.cells #[.int .i64 ei, .int .i64 et, .int .i64 ek, .slice ep edl ec] 41) = w6 at *
          obtain ⟨x0, x1, x2, x3, -⟩ := box4 B6.out
          have HRt := hid (HRg.out _ U6.out)
          obtain ⟨rb, hrb⟩ : ∃ rb, rightE ei et ek ed = rb := ⟨_, rfl⟩
          have HRb := hid hrb
          rw [hrb] at HRt
          clear hrb HRg
          have HFF := hid (show F = if rb = false then 1 else if ei ≠ ai + 1 then 60 else if et < ti then 42 else flt ei et (E.drop (k + 1)) from by rw [HF2.out, ← HRb.out]; rfl)
          clear HF2
          cases rb with
          | false =>
            obtain rfl : F = 1 := by rw [HFF.out]; rfl
            go_upto_region 12 with (go_at_call 38; refine HRt.out.mono ?_; rintro e w7 ⟨rfl, o7⟩; have B7 := hid (o7.block B6.out); have U7 := hid (HI.out.1.trans (U6.out.trans o7)); have I7 := hid (I6.out.up o7); clear o7 x0 x1 x2 x3; obtain ⟨x0, x1, x2, x3, -⟩ := box4 B7.out; have D2 := hid (U7.out.block C2.out); have D4 := hid (U7.out.block C4.out); obtain ⟨⟨a0, a1, a2, a3, a4⟩, -⟩ := box5 D2.out; obtain ⟨⟨z0, z1, z2, z3, z4⟩, f0, f1, f2, f3, f4⟩ := box5 D4.out; clear B6 I6 U6)
            clear HRt
            have B9 := hid (box5_set (p := .int .i64 pix) (q := .int .i64 ptm) (r := .slice q1 n1 c1) (s := .slice q2 n2 c2) (t := .slice q n c) D4.out)
            go_wp2
            obtain ⟨⟨g0, g1, g2, g3, g4⟩, -⟩ := box5 B9.out
            refine bodyPost_ret (v := .tuple #[.agg #[.int .i64 pix, .int .i64 ptm, .slice q1 n1 c1, .slice q2 n2 c2, .slice q n c], .int .i64 1]) (by simp [results, Try.results25, go_sem, g0, g1, g2, g3, g4]) rfl ?_
            have U9 := (U1.out.trans U7.out).set5 (b := bx + 1) (p := .int .i64 pix) (q := .int .i64 ptm) (r := .slice q1 n1 c1) (s := .slice q2 n2 c2) (t := .slice q n c) (by have := HBX.out; omega)
            rw [appF_no HF.out (by decide)]
            exact ⟨⟨q1, c1, q2, c2, q, c, X⟩, by unfold DV Dg.v1 Dg.v2 Dg.ve; dsimp only; rw [HN.out.1, HN.out.2.1, HN.out.2.2.1, HP.out.1, HP.out.2.1], HD.out.old U9, U9, Keeps.same _ _ _ _⟩
          | true =>
            go_upto_region 13 with (go_at_call 38; refine HRt.out.mono ?_; rintro e w7 ⟨rfl, o7⟩; have B7 := hid (o7.block B6.out); have U7 := hid (HI.out.1.trans (U6.out.trans o7)); have I7 := hid (I6.out.up o7); clear o7 x0 x1 x2 x3; obtain ⟨x0, x1, x2, x3, -⟩ := box4 B7.out; have D2 := hid (U7.out.block C2.out); have D4 := hid (U7.out.block C4.out); obtain ⟨⟨a0, a1, a2, a3, a4⟩, -⟩ := box5 D2.out; obtain ⟨⟨z0, z1, z2, z3, z4⟩, f0, f1, f2, f3, f4⟩ := box5 D4.out; clear B6 I6 U6)
            clear HRt
            by_cases h2 : ei = ai + 1
            · by_cases h3 : et < ti
              · obtain rfl : F = 42 := by rw [HFF.out, if_neg (by decide), if_neg (by omega), if_pos h3]
                have d2 : (ei != ai + 1) = false := by simp [h2]
                have d3 : decide (et < ti) = true := decide_eq_true h3
                have HEI := hid h2
                clear h2
                have B9 := hid (box5_set (p := .int .i64 pix) (q := .int .i64 ptm) (r := .slice q1 n1 c1) (s := .slice q2 n2 c2) (t := .slice q n c) D4.out)
                go_wp2
                obtain ⟨⟨g0, g1, g2, g3, g4⟩, -⟩ := box5 B9.out
                refine bodyPost_ret (v := .tuple #[.agg #[.int .i64 pix, .int .i64 ptm, .slice q1 n1 c1, .slice q2 n2 c2, .slice q n c], .int .i64 42]) (by simp [results, Try.results25, go_sem, g0, g1, g2, g3, g4]) rfl ?_
                have U9 := (U1.out.trans U7.out).set5 (b := bx + 1) (p := .int .i64 pix) (q := .int .i64 ptm) (r := .slice q1 n1 c1) (s := .slice q2 n2 c2) (t := .slice q n c) (by have := HBX.out; omega)
                rw [appF_no HF.out (by decide)]
                exact ⟨⟨q1, c1, q2, c2, q, c, X⟩, by unfold DV Dg.v1 Dg.v2 Dg.ve; dsimp only; rw [HN.out.1, HN.out.2.1, HN.out.2.2.1, HP.out.1, HP.out.2.1], HD.out.old U9, U9, Keeps.same _ _ _ _⟩
              · have HF3 := hid (show F = flt ei et (E.drop (k + 1)) from by rw [HFF.out, if_neg (by decide), if_neg (by omega), if_neg h3])
                have d2 : (ei != ai + 1) = false := by simp [h2]
                have d3 : decide (et < ti) = false := decide_eq_false h3
                have HFo := hid (HFm.out HRb.out (by rw [← HI.out.2.2.1]; exact h2) (by rw [← HI.out.2.2.2.1]; omega))
                clear h2 a0 a1 a2 a3 a4 z0 z1 z2 z3 z4 f0 f1 f2 f3 f4
                have HSz := hid (show w1.heap.size ≤ w7.heap.size from U7.out.size)
                go_wp2_with (at_builtin; refine wp_appEO rfl (.tmp 62) (.tmp 64) rfl w1.heap.size _ _ (n + k) _ ⟨ei, et, ek, ep, edl, ec⟩ rfl rfl (I7.out.up ((Old.refl w7).alloc _)) (cell_oneE w7 ⟨ei, et, ek, ep, edl, ec⟩ _ rfl) HNm.out (by have := HSz.out; simp; omega) ?_; intro v9 w9 o9 g9; obtain ⟨p9, c9, e9, -⟩ := o9.len; subst e9; have O9 := hid o9; have U9 := hid (Old.below (w' := w9) (U7.out.alloc _) (Below.grown (Below.refl _ _) g9 (by have := HSz.out; simp; omega) (fun g e => (I7.out.lt g e).1))); clear o9 g9)
                exact ⟨⟨k + 1, ei, et, p9, c9, hlt, by go_num, rfl, rfl, rfl, hid ⟨U9.out, by rw [HT.out, ← List.append_assoc, List.map_append]; show OwnOff _ _ _ _ _ _ (ecs (_ ++ [(⟨ei, et, ek, ep, ec, ed⟩ : En).e])); rw [HED.out]; exact O9.out, HLs.out.1.symm, HLs.out.2.symm, HFo.out, HF3.out⟩⟩, by simp [intOf]; omega⟩
            · obtain rfl : F = 60 := by rw [HFF.out, if_neg (by decide), if_pos h2]
              have d2 : (ei != ai + 1) = true := by simp [h2]
              have B9 := hid (box5_set (p := .int .i64 pix) (q := .int .i64 ptm) (r := .slice q1 n1 c1) (s := .slice q2 n2 c2) (t := .slice q n c) D4.out)
              go_wp2
              obtain ⟨⟨g0, g1, g2, g3, g4⟩, -⟩ := box5 B9.out
              refine bodyPost_ret (v := .tuple #[.agg #[.int .i64 pix, .int .i64 ptm, .slice q1 n1 c1, .slice q2 n2 c2, .slice q n c], .int .i64 60]) (by simp [results, Try.results25, go_sem, g0, g1, g2, g3, g4]) rfl ?_
              have U9 := (U1.out.trans U7.out).set5 (b := bx + 1) (p := .int .i64 pix) (q := .int .i64 ptm) (r := .slice q1 n1 c1) (s := .slice q2 n2 c2) (t := .slice q n c) (by have := HBX.out; omega)
              rw [appF_no HF.out (by decide)]
              exact ⟨⟨q1, c1, q2, c2, q, c, X⟩, by unfold DV Dg.v1 Dg.v2 Dg.ve; dsimp only; rw [HN.out.1, HN.out.2.1, HN.out.2.2.1, HP.out.1, HP.out.2.1], HD.out.old U9, U9, Keeps.same _ _ _ _⟩
        · obtain rfl : m = k := by omega
          have e9 : E.take m = E := List.take_of_length_le (by rw [HN.out.2.2.2]; exact Nat.le_refl _)
          have HI9 := hid (show Old w1 wr ∧ OwnOff w1.heap.size 41 4 wr (.slice p (n + m) cc) (n + m) (ecs ((X ++ E).map En.e)) from by have := HI.out; rw [e9] at this; exact ⟨this.1, this.2.1⟩)
          have HFo := hid (show Fol li lt E from by have := HI.out.2.2.2.2.1; rw [e9] at this; exact this)
          obtain rfl : F = 0 := by rw [HI.out.2.2.2.2.2, List.drop_of_length_le (by rw [HN.out.2.2.2]; exact Nat.le_refl _)]; rfl
          clear HI e9
          have HFf := hid (show Far (.slice p (n + m) cc) (X ++ E) [bx] ∧ Far (.slice p (n + m) cc) (X ++ E) [bx + 1] from by have := HBX.out; subst this; exact far_new (w := w) (X := X ++ E) (fun x hx => (List.mem_append.1 hx).elim (HRw.out x) (HEd.out x)) (fun h => h) (fun g e => by have := (HI9.out.2.lt g e).1; have := S1.out; omega))
          have HLb := hid (show (X ++ E).length ≤ 2932031007402 from by have h1 := (Fol.last _ _ _ HFo.out HB.out.2.1 HB.out.2.2.1 HB.out.2.2.2.1).1; have h2 := Fol.len _ _ _ HFo.out; have := HB.out; have := HN.out; rw [List.length_append]; omega)
          have HEr9 := hid (show ERow wr (.slice p (n + m) cc) (X ++ E) from OwnOff.erow (base := w1.heap.size) (by rw [List.length_append, HN.out.2.2.1, HN.out.2.2.2]; exact HI9.out.2) HLb.out (fun x hx => Rw.old ((List.mem_append.1 hx).elim (HRw.out x) (HEd.out x)) (U1.out.trans HI9.out.1)))
          have HNew := hid (show ∀ m' g, (Value.slice p m' cc).ownBlock = some g → w.heap.size ≤ g from fun m' g e => by have := (HI9.out.2.lt g (by cases p <;> exact e)).1; have := S1.out; have := HBX.out; omega)
          have D2 := hid (HI9.out.1.block C2.out)
          have D4 := hid (HI9.out.1.block C4.out)
          obtain ⟨⟨a0, a1, a2, a3, a4⟩, e0, e1, e2, e3, e4⟩ := box5 D2.out
          have E2 := hid (show (wr.setCell ⟨bx, 4, none⟩ (.slice p (n + m) cc)).heap[bx]? = some (.cells #[.int .i64 pix, .int .i64 ptm, .slice q1 n1 c1, .slice q2 n2 c2, .slice p (n + m) cc] 54 (0, 0)) from Go.Joins.block_setCell D2.out (.slice p (n + m) cc) (i := 4))
          have E4 := hid (set_other (b := bx) (i := 4) (v := .slice p (n + m) cc) D4.out (by omega))
          have U4 := hid ((U1.out.trans HI9.out.1).setCell (p := ⟨bx, 4, none⟩) (by have := HBX.out; show w.heap.size ≤ bx; omega) (.slice p (n + m) cc))
          have R4 := hid (ERow.chg HEr9.out (Chg.set (S := [bx]) wr ⟨bx, 4, none⟩ (.slice p (n + m) cc) (by simp)) HFf.out.1)
          go_upto_region 21 with (fail)
          clear a0 a1 a2 a3 a4 e0 e1 e2 e3 e4 D2 D4 HEr9 HI9
          generalize wr.setCell ⟨bx, 4, none⟩ (.slice p (n + m) cc) = w8 at *
          obtain ⟨⟨a0, a1, a2, a3, a4⟩, -⟩ := box5 E2.out
          obtain ⟨⟨z0, z1, z2, z3, z4⟩, f0, f1, f2, f3, f4⟩ := box5 E4.out
          have B9 := hid (box5_set (p := .int .i64 pix) (q := .int .i64 ptm) (r := .slice q1 n1 c1) (s := .slice q2 n2 c2) (t := .slice p (n + m) cc) E4.out)
          go_wp2
          obtain ⟨⟨g0, g1, g2, g3, g4⟩, -⟩ := box5 B9.out
          refine bodyPost_ret (v := .tuple #[.agg #[.int .i64 pix, .int .i64 ptm, .slice q1 n1 c1, .slice q2 n2 c2, .slice p (n + m) cc], .int .i64 0]) (by simp [results, Try.results25, go_sem, g0, g1, g2, g3, g4]) rfl ?_
          have U9 := U4.out.set5 (b := bx + 1) (p := .int .i64 pix) (q := .int .i64 ptm) (r := .slice q1 n1 c1) (s := .slice q2 n2 c2) (t := .slice p (n + m) cc) (by have := HBX.out; omega)
          have R9 := ERow.chg R4.out (Chg.set5 (S := [bx + 1]) w8 (bx + 1) (by simp) (.int .i64 pix) (.int .i64 ptm) (.slice q1 n1 c1) (.slice q2 n2 c2) (.slice p (n + m) cc)) HFf.out.2
          rw [appF_yes HF.out]
          refine ⟨⟨q1, c1, q2, c2, p, cc, X ++ E⟩, ?_, ?_, U9, ⟨.inr (fun m g e => HNew.out m g e), fun x hx => (List.mem_append.1 hx).elim .inl .inr, .inl ⟨rfl, rfl, rfl⟩, .inl ⟨rfl, rfl, rfl⟩⟩⟩
          · unfold DV Dg.v1 Dg.v2 Dg.ve appP; dsimp only; rw [HN.out.1, HN.out.2.1, List.length_append, HN.out.2.2.1, HN.out.2.2.2, HP.out.1, HP.out.2.1]
          · exact DocP.part HD.out U9 (appP_ok HK.out (flt_zero _ _ _ HF.out)) (by rw [List.length_append, HN.out.2.2.1, HN.out.2.2.2]; exact R9) (by rw [pls_app, HD.out.x])
end Go.Proofs.Ytgpfmohaogppiaa
