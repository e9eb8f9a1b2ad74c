/- The law HardPlays' walk; conditions: the table is laid. -/
import Derived.Test.YtfphopleniidfaaGreatDoorH7g
namespace Go.Proofs.YtfphopleniidfaaGreatDoor
open Go.RowKit Go.Lib Go.ChangeShapes Go.WideShapes
set_option linter.unusedVariables false
set_option linter.unusedSimpArgs false
set_option maxRecDepth 20000
set_option maxHeartbeats 40000000 in
set_option maxRecDepth 20000 in
theorem playsLaw (v0 : Value) (n : Nat) (f : Nat → Oph) (w : World) (ht : Pk.Tab w) (h0 : OHRow w v0 n f) : Calls Tryz.prog 3 #[v0] w fun e w' => e = .returned (.bool true) ∧ Old w w' := by
  obtain ⟨hnm, pa, ca, rfl, hnc, hops⟩ := h0
  have HO := hid hops
  have HT := hid ht
  have HZ := hid op_zero
  clear hops ht
  go_enter Tryz.func3, Tryz.ntmps3
  go_upto_region 5 with (first | (go_at_call 4; refine (newD w _ (Old.refl _)).mono ?_; rintro e w1 ⟨db, rfl, dd1, _⟩; have D1 := hid dd1; clear dd1) | (go_at_call 5; refine (alive_any _ (HT.out.up D1.out.base)).mono ?_; rintro e w1b ⟨rfl, u1⟩; have D1b := hid (D1.out.old u1); clear u1) | (go_at_call 6; refine (open_ok w _ db pd0 [] D1b.out HT.out HZ.out.1).mono ?_; rintro e w2 ⟨hb0, rfl, d2, b2, l2, -⟩; rw [HZ.out.2.1] at d2; rw [HZ.out.2.2] at b2; have D2 := hid d2; have B2 := hid b2; have L2 := hid l2; clear d2 b2 l2))
  clear D1 D1b HZ
  go_upto_region 6 with (go_at_call 7; refine (ropen0 _).mono ?_; rintro e w3 ⟨a3, c3, Z3, rfl, d3, z3, u3, g3⟩; have HP0 := hid (HAt.start D2.out B2.out L2.out u3 d3 z3 g3); clear d3 z3 u3 g3)
  obtain ⟨m3, hm3⟩ : ∃ m3, m3 = Z3.length := ⟨_, rfl⟩
  rw [← hm3] at HP0 ⊢
  clear hm3 D2 B2 L2
  generalize w3.alloc (.cells #[.slice a3 m3 c3, .bool false, .int .i64 0, .int .i64 0, .int .i64 0] 34) = w4 at *
  generalize w3.heap.size = gm at *
  go_wp2
  go_loopw [4, 8, 42] (fun hv bv c wr => ∃ (i hk : Nat) (br : Bool) (p : PD) (t0 v0 : Int) (a : Option Addr) (m cc : Nat) (Y : List Fi) (dn : Bool) (fu t1 v1 : Int), i ≤ n ∧ hv = .pointer (some ⟨hk, 0, none⟩) ∧ bv = .bool br ∧ c = .int .i64 (i : Nat) ∧ HAt w wr db hk gm p t0 v0 a m cc Y dn fu t1 v1 br) (fun _ _ c _ => n - (intOf c).toNat)
  case atStart => exact ⟨0, hb0, false, _, _, _, _, _, _, _, _, _, _, _, Nat.zero_le _, rfl, rfl, rfl, HP0.out⟩
  case round =>
    obtain ⟨i, hk, br, p, t0, v0, a, m, cc, Y, dn, fu, t1, v1, hi, rfl, rfl, rfl, hP⟩ := hrel
    have HP := hid hP
    clear hP HP0
    by_cases hlt : i < n
    · obtain ⟨bb, off, e, hok, hcell⟩ := HO.out i hlt
      subst e
      have HOk := hid hok
      have HCe := hid (show ∀ j, j < 5 → wr.cell? ⟨bb, off + i * 5 + j, none⟩ = (f i).cs[j]? from fun j hj => by
        have q := hcell j hj
        have hl : j < (f i).cs.length := hj
        rw [List.getElem?_eq_getElem hl] at q ⊢
        exact HP.out.disk.base.keep q)
      clear hok hcell
      generalize f i = o at *
      obtain ⟨ok, ot, ov, on, ovk, okp⟩ := o
      obtain ⟨-, pk, ck, ek, -⟩ := HOk.out.2.2.1
      dsimp only at ek
      subst ek
      have c0 : wr.cell? ⟨bb, off + i * 5, none⟩ = some (.int .i64 ok) := HCe.out 0 (by omega)
      have c1 : wr.cell? ⟨bb, off + i * 5 + 1, none⟩ = some (.int .i64 ot) := HCe.out 1 (by omega)
      have c2 : wr.cell? ⟨bb, off + i * 5 + 2, none⟩ = some (.int .i64 ov) := HCe.out 2 (by omega)
      have c3 : wr.cell? ⟨bb, off + i * 5 + 3, none⟩ = some (.int .i64 on) := HCe.out 3 (by omega)
      have c4 : wr.cell? ⟨bb, off + i * 5 + 4, none⟩ = some (.slice pk okp.length ck) := HCe.out 4 (by omega)
      have l2 : (0 : Int) ≤ (i : Int) := by omega
      have l3 : (i : Int) < (n : Int) := by omega
      have l4 : (n : Int) ≤ 9223372036854775807 := by omega
      clear HCe
      go_upto_region 10 with (fail)
      have HU1 := hid (show Old wr (wr.alloc (.cells #[.int .i64 ok, .int .i64 ot, .int .i64 ov, .int .i64 on, .slice pk okp.length ck] 39)) from (Old.refl wr).alloc _)
      have HX := hid (alloc_at wr (.cells #[.int .i64 ok, .int .i64 ot, .int .i64 ov, .int .i64 on, .slice pk okp.length ck] 39))
      obtain ⟨lk, hlk⟩ : ∃ lk, lk = okp.length := ⟨_, rfl⟩
      rw [← hlk] at HOk HU1 HX ⊢
      clear c0 c1 c2 c3 c4 hlk
      generalize wr.alloc (.cells #[.int .i64 ok, .int .i64 ot, .int .i64 ov, .int .i64 on, .slice pk lk ck] 39) = wx at *
      obtain ⟨X, hX⟩ : ∃ X, X = wr.heap.size := ⟨_, rfl⟩
      have HPx := hid (HP.out.old HU1.out)
      have HDx := hid (show Dsk w wx db p (hk :: gm :: docB (.slice a m cc) Y ++ [X]) from HP.out.disk.add HU1.out [X] (fun g hg => by rw [List.mem_singleton.1 hg, hX]; exact ⟨Nat.le_refl _, heap_lt HX.out⟩))
      rw [← hX] at HX ⊢
      have HXh := hid (show X ≠ hk from by have := heap_lt HP.out.hbox; omega)
      clear hX HP HU1
      obtain ⟨b0, b1, b2, b3, b4⟩ := box5 HX.out
      by_cases c1 : ok = 1
      · subst c1
        cases br with
        | true =>
          clear HDx
          go_wp2
          go_roundw
          case rel => exact ⟨i + 1, hk, true, p, t0, v0, a, m, cc, Y, dn, fu, t1, v1, by omega, rfl, rfl, by go_num, HPx.out⟩
          case measure => simp [intOf]; omega
        | false =>
          obtain ⟨hku, e1, e2⟩ := HPx.out.ku rfl
          obtain rfl : t0 = t1 := e1.symm
          obtain rfl : v0 = v1 := e2.symm
          have HKu := hid hku
          clear hku
          obtain ⟨sc, hsc⟩ : ∃ sc, saveC p ot ov t0 v0 = sc := ⟨_, rfl⟩
          obtain ⟨p', hp'⟩ : ∃ p', saveP p ot ov t0 v0 = p' := ⟨_, rfl⟩
          obtain ⟨⟨s1, s2⟩, htv⟩ : ∃ tv, saveV p ot ov t0 v0 = tv := ⟨_, rfl⟩
          have HSv := hid (show Calls Tryz.prog 8 #[.pointer (some ⟨hk, 0, none⟩), .int .i64 ot, .int .i64 ov] wx (SvPostK w wx db hk (hk :: gm :: docB (.slice a m cc) Y ++ [X]) sc p' (s1, s2)) from by rw [← hsc, ← hp', ← htv]; exact save_anyK w wx db hk p _ ot ov t0 v0 HDx.out (by simp) HPx.out.hbox HPx.out.hlow HT.out HOk.out.1 HOk.out.2.1)
          have HR7 := hid (fun (W' : World) (hd : DocAt W' (.slice a m cc) Y) => show Calls Tryz.prog 9 #[.agg #[.slice a m cc, .bool dn, .int .i64 fu, .int .i64 t0, .int .i64 v0], .int .i64 ot, .int .i64 ov] W' (SP7 W' (docB (.slice a m cc) Y) p' sc (s1, s2)) from by
            have q := rsave7 W' a cc Y dn fu t0 v0 ot ov p (by rw [← HPx.out.len]; exact hd) HPx.out.rel HPx.out.disk.nod HKu.out HOk.out.1 HOk.out.2.1
            rw [hsc, hp', htv, ← HPx.out.len] at q
            exact q)
          clear hsc hp' htv
          go_upto_region 14 with (go_at_call 8; refine HSv.out.mono ?_; rintro e w6 ⟨⟨rfl, d6, b6⟩, k6⟩; have D6 := hid d6; have B6 := hid (show w6.heap[hk]? = some (.cells #[.pointer (some ⟨db, 0, none⟩), .int .i64 s1, .int .i64 s2] 65 (0, 0)) from b6); have K6 := hid k6; clear d6 b6 k6)
          have M6 := hid (HPx.out.mid (K6.out.kp2 (fun g hg => ⟨List.mem_append_left _ (List.mem_cons_of_mem _ hg), fun e => HPx.out.off (by rw [← e]; exact hg)⟩)))
          have X6 := hid (K6.out.at (by simp) HXh.out HX.out)
          clear b0 b1 b2 b3 b4 HSv
          obtain ⟨b0, b1, b2, b3, b4⟩ := box5 X6.out
          obtain ⟨e0, e1, e2, e3, e4⟩ := box5 M6.out.1
          by_cases h50 : sc = 50
          · skip
            subst h50
            go_upto_region 15 with (go_at_call 9; refine (HR7.out _ M6.out.2).mono ?_; rintro e w7 ⟨a7, c7, Z, dn2, fu2, t7, v7, rfl, d7, r7, u7, g7, k7⟩; have D7 := hid d7; have R7 := hid r7; have U7 := hid u7; have G7 := hid g7; have K7 := hid k7; clear d7 r7 u7 g7 k7)
            obtain ⟨m7, hm7⟩ : ∃ m7, m7 = Z.length := ⟨_, rfl⟩
            have HM7 := hid hm7
            rw [← hm7] at D7 G7 ⊢
            clear hm7
            have V8 := hid (show Old w7 (w7.alloc (.cells #[.slice a7 m7 c7, .bool dn2, .int .i64 fu2, .int .i64 t7, .int .i64 v7] 34)) from (Old.refl w7).alloc _)
            have X8 := hid (alloc_at w7 (.cells #[.slice a7 m7 c7, .bool dn2, .int .i64 fu2, .int .i64 t7, .int .i64 v7] 34))
            have HPn := hid (show HAt w ((((((w7.alloc (.cells #[.slice a7 m7 c7, .bool dn2, .int .i64 fu2, .int .i64 t7, .int .i64 v7] 34)).setCell ⟨gm, 0, none⟩ (.slice a7 m7 c7)).setCell ⟨gm, 1, none⟩ (.bool dn2)).setCell ⟨gm, 2, none⟩ (.int .i64 fu2)).setCell ⟨gm, 3, none⟩ (.int .i64 t7)).setCell ⟨gm, 4, none⟩ (.int .i64 v7)) db hk gm p' s1 s2 a7 m7 c7 Z dn2 fu2 t7 v7 true from by
              have q := HAt.put (a := a7) (c := c7) (Z := Z) (dn := dn2) (fu := fu2) (t1 := t7) (v1 := v7) (br := true) D6.out (U7.out.trans V8.out) ⟨by simp, by simp⟩ B6.out ((U7.out.trans V8.out).block M6.out.1) (by rw [← HM7.out]; exact D7.out.old V8.out) (by rw [← HM7.out]; exact fun g hg => (G7.out g hg).imp (fun z => List.mem_append_left _ (List.mem_cons_of_mem _ (List.mem_cons_of_mem _ z))) id) R7.out HPx.out.low HPx.out.hlow (by rcases K7.out with q | q; exact q.2; exact q.2.1.kf) (fun e => by cases e)
              rw [← HM7.out] at q
              exact q)
            clear e0 e1 e2 e3 e4 b0 b1 b2 b3 b4
            obtain ⟨e0, e1, e2, e3, e4⟩ := box5 ((U7.out.trans V8.out).block M6.out.1)
            obtain ⟨f0, f1, f2, f3, f4⟩ := box5f ((U7.out.trans V8.out).block M6.out.1)
            obtain ⟨x0, x1, x2, x3, x4⟩ := box5 X8.out
            go_upto_region 16 with (fail)
            clear e0 e1 e2 e3 e4 f0 f1 f2 f3 f4 x0 x1 x2 x3 x4 X8 V8 D6 D7 U7 M6 X6 B6 K6 HR7 HPx HDx
            generalize ((((((w7.alloc (.cells #[.slice a7 m7 c7, .bool dn2, .int .i64 fu2, .int .i64 t7, .int .i64 v7] 34)).setCell ⟨gm, 0, none⟩ (.slice a7 m7 c7)).setCell ⟨gm, 1, none⟩ (.bool dn2)).setCell ⟨gm, 2, none⟩ (.int .i64 fu2)).setCell ⟨gm, 3, none⟩ (.int .i64 t7)).setCell ⟨gm, 4, none⟩ (.int .i64 v7)) = w9 at *
            go_wp2
            go_roundw
            case rel => exact ⟨i + 1, hk, true, p', s1, s2, a7, m7, c7, Z, dn2, fu2, t7, v7, by omega, rfl, rfl, by go_num, HPn.out⟩
            case measure => simp [intOf]; omega
          · skip
            have d50 : (sc == 50) = false := by rw [beq_eq_false_iff_ne]; exact h50
            have H50 := hid h50
            clear h50
            have bd : (sc != sc) = false := by simp
            go_upto_region 15 with (go_at_call 9; refine (HR7.out _ M6.out.2).mono ?_; rintro e w7 ⟨a7, c7, Z, dn2, fu2, t7, v7, rfl, d7, r7, u7, g7, k7⟩; have D7 := hid d7; have R7 := hid r7; have U7 := hid u7; have G7 := hid g7; have K7 := hid k7; clear d7 r7 u7 g7 k7)
            obtain ⟨m7, hm7⟩ : ∃ m7, m7 = Z.length := ⟨_, rfl⟩
            have HM7 := hid hm7
            rw [← hm7] at D7 G7 ⊢
            clear hm7
            have V8 := hid (show Old w7 (w7.alloc (.cells #[.slice a7 m7 c7, .bool dn2, .int .i64 fu2, .int .i64 t7, .int .i64 v7] 34)) from (Old.refl w7).alloc _)
            have X8 := hid (alloc_at w7 (.cells #[.slice a7 m7 c7, .bool dn2, .int .i64 fu2, .int .i64 t7, .int .i64 v7] 34))
            have HPn := hid (show HAt w ((((((w7.alloc (.cells #[.slice a7 m7 c7, .bool dn2, .int .i64 fu2, .int .i64 t7, .int .i64 v7] 34)).setCell ⟨gm, 0, none⟩ (.slice a7 m7 c7)).setCell ⟨gm, 1, none⟩ (.bool dn2)).setCell ⟨gm, 2, none⟩ (.int .i64 fu2)).setCell ⟨gm, 3, none⟩ (.int .i64 t7)).setCell ⟨gm, 4, none⟩ (.int .i64 v7)) db hk gm p' s1 s2 a7 m7 c7 Z dn2 fu2 t7 v7 false from by
              have q := HAt.put (a := a7) (c := c7) (Z := Z) (dn := dn2) (fu := fu2) (t1 := t7) (v1 := v7) (br := false) D6.out (U7.out.trans V8.out) ⟨by simp, by simp⟩ B6.out ((U7.out.trans V8.out).block M6.out.1) (by rw [← HM7.out]; exact D7.out.old V8.out) (by rw [← HM7.out]; exact fun g hg => (G7.out g hg).imp (fun z => List.mem_append_left _ (List.mem_cons_of_mem _ (List.mem_cons_of_mem _ z))) id) R7.out HPx.out.low HPx.out.hlow (by rcases K7.out with q | q; exact q.2; exact q.2.1.kf) (fun _ => by rcases K7.out with q | q; exact absurd q.1 H50.out; exact ⟨q.2.1, q.2.2.1, q.2.2.2⟩)
              rw [← HM7.out] at q
              exact q)
            clear e0 e1 e2 e3 e4 b0 b1 b2 b3 b4
            obtain ⟨e0, e1, e2, e3, e4⟩ := box5 ((U7.out.trans V8.out).block M6.out.1)
            obtain ⟨f0, f1, f2, f3, f4⟩ := box5f ((U7.out.trans V8.out).block M6.out.1)
            obtain ⟨x0, x1, x2, x3, x4⟩ := box5 X8.out
            go_upto_region 16 with (fail)
            clear e0 e1 e2 e3 e4 f0 f1 f2 f3 f4 x0 x1 x2 x3 x4 X8 V8 D6 D7 U7 M6 X6 B6 K6 HR7 HPx HDx
            generalize ((((((w7.alloc (.cells #[.slice a7 m7 c7, .bool dn2, .int .i64 fu2, .int .i64 t7, .int .i64 v7] 34)).setCell ⟨gm, 0, none⟩ (.slice a7 m7 c7)).setCell ⟨gm, 1, none⟩ (.bool dn2)).setCell ⟨gm, 2, none⟩ (.int .i64 fu2)).setCell ⟨gm, 3, none⟩ (.int .i64 t7)).setCell ⟨gm, 4, none⟩ (.int .i64 v7)) = w9 at *
            obtain ⟨hku, q1, q2⟩ := HPn.out.ku rfl
            have q3 := (HPn.out.rel.here hku.2).1
            obtain rfl : s1 = t7 := q1.symm
            obtain rfl : s2 = v7 := q2.symm
            subst q3
            clear hku
            go_upto_region 31 with (fail)
            go_upto_region 33 with (go_at_call 13; refine (namesD w _ db _ _ HPn.out.disk).mono ?_; rintro e y2 ⟨vn, S4, rfl, hS4, hP4, oS4, u4⟩; have HS4 := hid (And.intro hS4 hP4); have O4 := hid oS4; have U4 := hid u4; clear u4 hS4 hP4 oS4)
            obtain ⟨a4, c4, e4, lc4, lm4, hcell⟩ := O4.out.at5
            have eS : S4 = keysP (Z.map Fi.p) := rise_eq HS4.out.1 (HPn.out.rel.perm.map _) HS4.out.2 HPn.out.rel.rise
            have eL : S4.length = m7 := by rw [eS]; unfold keysP; rw [List.length_map, List.length_map, HPn.out.len]
            have HCell := hid (show ∀ i (hi : i < Z.length), ∃ g, a4 = some ⟨g, 0, none⟩ ∧ y2.cell? ⟨g, i, none⟩ = some (.string Z[i].nm) from fun i hi => by
              obtain ⟨g, e, c⟩ := hcell i (by rw [eL, HPn.out.len]; exact hi)
              refine ⟨g, e, ?_⟩
              rw [c]
              congr 2
              subst eS
              simp [keysP, Fi.p])
            rw [eL] at e4 lc4
            subst e4
            clear hcell eS eL HS4 O4
            have HQ := hid (HPn.out.old U4.out)
            obtain ⟨x0, x1, x2, x3, x4⟩ := box5 HQ.out.box
            have HFC := hid (show y2.cell? ⟨gm, 0, none⟩ = some (.slice a7 m7 c7) ∧ y2.cell? ⟨gm, 3, none⟩ = some (.int .i64 s1) ∧ y2.cell? ⟨gm, 4, none⟩ = some (.int .i64 s2) from ⟨x0, x3, x4⟩)
            have HTm := hid (fun (W' : World) (u : Old y2 W') => term_any hk _ s1 s2 W' (u.block HQ.out.hbox))
            have HVt := hid (fun (W' : World) (u : Old y2 W') => vote_any hk _ s1 s2 W' (u.block HQ.out.hbox))
            clear x0 x1 x2 x3 x4
            refine wp_region_noPanic ?_
            refine wp_region_held_drew (S := fun wz => wz.cell? ⟨gm, 0, none⟩ = some (.slice a7 m7 c7) ∧ wz.cell? ⟨gm, 3, none⟩ = some (.int .i64 s1) ∧ wz.cell? ⟨gm, 4, none⟩ = some (.int .i64 s2)) (by kernel_rfl) ?_ (fun hHeld => ?_)
            · exact (S3.old ((Old.refl y2).drew) HFC.out)
            (try simp only [Act.put]); (try simp only [List.setIfInBounds_toArray]); (try simp only [List.set_cons_succ]); (try simp only [List.set_cons_zero])
            clear hHeld
            refine wpAnyH_take (i := 0) (oi := { dst := some 119, op := Op.move (Operand.tmp 4), type := 26, pos := "law.go:79", after := #[], guard := none }) (v := ?vk21) rfl (by kernel_rfl) (by kernel_rfl) (by kernel_rfl) (fun _ _ _ h => h) (Or.inl ⟨by rfl, ?hk21⟩) (S3.old ((Old.refl y2).drew) HFC.out) ?rk21
            case hk21 => (intro wz hSw; (try dsimp only at hSw); go_simp; try with_reducible rfl)
            (try simp only [Act.put]); (try simp only [List.setIfInBounds_toArray]); (try simp only [List.set_cons_succ]); (try simp only [List.set_cons_zero])
            refine wpAnyH_take (i := 2) (oi := { dst := some 121, op := Op.fieldAddr 34 (Operand.tmp 6) 1, type := 0, pos := "law.go:79", after := #[], guard := none }) (v := ?vk22) rfl (by kernel_rfl) (by kernel_rfl) (by kernel_rfl) (fun _ _ _ h => h) (Or.inl ⟨by rfl, ?hk22⟩) (S3.old ((Old.refl y2).drew) HFC.out) ?rk22
            case hk22 => (intro wz hSw; (try dsimp only at hSw); go_simp; try with_reducible rfl)
            (try simp only [Act.put]); (try simp only [List.setIfInBounds_toArray]); (try simp only [List.set_cons_succ]); (try simp only [List.set_cons_zero])
            refine wpAnyH_take (i := 3) (oi := { dst := some 122, op := Op.load 2 (Operand.tmp 121), type := 2, pos := "law.go:79", after := #[{ on := 2, ground := Ground.data }], guard := none }) (v := ?vk23) rfl (by kernel_rfl) (by kernel_rfl) (by kernel_rfl) (fun _ _ _ h => h) (Or.inl ⟨by rfl, ?hk23⟩) (S3.old ((Old.refl y2).drew) HFC.out) ?rk23
            case hk23 => (intro wz hSw; (try dsimp only at hSw); go_simp; try with_reducible rfl)
            (try simp only [Act.put]); (try simp only [List.setIfInBounds_toArray]); (try simp only [List.set_cons_succ]); (try simp only [List.set_cons_zero])
            refine wpAnyH_ready (rs := [1]) (by kernel_rfl) (by simp) ?_
            refine AllReadyH.cons (o := { dst := some 120, op := Op.call { callee := Callee.value (Operand.func 14), args := #[Operand.tmp 119], argTypes := #[26] }, type := 2, pos := "law.go:79", after := #[{ on := 0, ground := Ground.data }], guard := none }) rfl (fun K hK => ?_) AllReadyH.nil
            refine wantCall1 ?_ 14 (.tmp 119) #[26] ?_ (.pointer (some ⟨hk, 0, none⟩)) ?_ ?_ ((enters_of Tryz.func14 (by kernel_rfl) rfl) _ _) ?_
            · rfl
            · rfl
            · rfl
            · rfl
            refine (HTm.out _ ((Old.refl y2).drew)).mono ?_
            rintro o x24 ⟨rfl, hx24⟩
            subst hx24
            refine ⟨_, rfl, ?_⟩
            refine hK.out _ _ (S3.old ((Old.refl y2).drew) HFC.out) (fun _ => ?_)
            clear hK K
            (try simp only [Act.put]); (try simp only [List.setIfInBounds_toArray]); (try simp only [List.set_cons_succ]); (try simp only [List.set_cons_zero])
            refine wpAnyH_take (i := 4) (oi := { dst := some 123, op := Op.binOp BinOp.neq 2 (Operand.tmp 120) (Operand.tmp 122) 2, type := 4, pos := "law.go:79", after := #[{ on := 1, ground := Ground.data }, { on := 3, ground := Ground.data }], guard := none }) (v := ?vk25) rfl (by kernel_rfl) (by kernel_rfl) (by kernel_rfl) (fun _ _ _ h => h) (Or.inl ⟨by rfl, ?hk25⟩) (S3.old ((Old.refl y2).drew) HFC.out) ?rk25
            case hk25 => (intro wz hSw; (try dsimp only at hSw); go_simp; try with_reducible rfl)
            (try simp only [Act.put]); (try simp only [List.setIfInBounds_toArray]); (try simp only [List.set_cons_succ]); (try simp only [List.set_cons_zero])
            refine wpAnyH_take (i := 5) (oi := { dst := some 124, op := Op.move (Operand.tmp 123), type := 4, pos := "law.go:79", after := #[{ on := 4, ground := Ground.data }, { on := 1, ground := Ground.chain }], guard := none }) (v := ?vk26) rfl (by kernel_rfl) (by kernel_rfl) (by kernel_rfl) (fun _ _ _ h => h) (Or.inl ⟨by rfl, ?hk26⟩) (S3.old ((Old.refl y2).drew) HFC.out) ?rk26
            case hk26 => (intro wz hSw; (try dsimp only at hSw); go_simp; try with_reducible rfl)
            (try simp only [Act.put]); (try simp only [List.setIfInBounds_toArray]); (try simp only [List.set_cons_succ]); (try simp only [List.set_cons_zero])
            refine wpAnyH_take (i := 6) (oi := { dst := some 125, op := Op.move (Operand.tmp 4), type := 26, pos := "law.go:79", after := #[{ on := 5, ground := Ground.guard }], guard := some (5, false) }) (v := ?vk27) rfl (by kernel_rfl) (by kernel_rfl) (by kernel_rfl) (fun _ _ _ h => h) (Or.inl ⟨by rfl, ?hk27⟩) (S3.old ((Old.refl y2).drew) HFC.out) ?rk27
            case hk27 => (intro wz hSw; (try dsimp only at hSw); go_simp; try with_reducible rfl)
            (try simp only [Act.put]); (try simp only [List.setIfInBounds_toArray]); (try simp only [List.set_cons_succ]); (try simp only [List.set_cons_zero])
            refine wpAnyH_take (i := 8) (oi := { dst := some 127, op := Op.fieldAddr 34 (Operand.tmp 6) 2, type := 0, pos := "law.go:79", after := #[{ on := 5, ground := Ground.guard }], guard := some (5, false) }) (v := ?vk28) rfl (by kernel_rfl) (by kernel_rfl) (by kernel_rfl) (fun _ _ _ h => h) (Or.inl ⟨by rfl, ?hk28⟩) (S3.old ((Old.refl y2).drew) HFC.out) ?rk28
            case hk28 => (intro wz hSw; (try dsimp only at hSw); go_simp; try with_reducible rfl)
            (try simp only [Act.put]); (try simp only [List.setIfInBounds_toArray]); (try simp only [List.set_cons_succ]); (try simp only [List.set_cons_zero])
            refine wpAnyH_take (i := 9) (oi := { dst := some 128, op := Op.load 2 (Operand.tmp 127), type := 2, pos := "law.go:79", after := #[{ on := 8, ground := Ground.data }, { on := 5, ground := Ground.guard }], guard := some (5, false) }) (v := ?vk29) rfl (by kernel_rfl) (by kernel_rfl) (by kernel_rfl) (fun _ _ _ h => h) (Or.inl ⟨by rfl, ?hk29⟩) (S3.old ((Old.refl y2).drew) HFC.out) ?rk29
            case hk29 => (intro wz hSw; (try dsimp only at hSw); go_simp; try with_reducible rfl)
            (try simp only [Act.put]); (try simp only [List.setIfInBounds_toArray]); (try simp only [List.set_cons_succ]); (try simp only [List.set_cons_zero])
            refine wpAnyH_ready (rs := [7]) (by kernel_rfl) (by simp) ?_
            refine AllReadyH.cons (o := { dst := some 126, op := Op.call { callee := Callee.value (Operand.func 15), args := #[Operand.tmp 125], argTypes := #[26] }, type := 3, pos := "law.go:79", after := #[{ on := 6, ground := Ground.data }, { on := 5, ground := Ground.chain }, { on := 5, ground := Ground.guard }], guard := some (5, false) }) rfl (fun K hK => ?_) AllReadyH.nil
            refine wantCall1 ?_ 15 (.tmp 125) #[26] ?_ (.pointer (some ⟨hk, 0, none⟩)) ?_ ?_ ((enters_of Tryz.func15 (by kernel_rfl) rfl) _ _) ?_
            · rfl
            · rfl
            · rfl
            · rfl
            refine (HVt.out _ ((Old.refl y2).drew)).mono ?_
            rintro o x30 ⟨rfl, hx30⟩
            subst hx30
            refine ⟨_, rfl, ?_⟩
            refine hK.out _ _ (S3.old ((Old.refl y2).drew) HFC.out) (fun _ => ?_)
            clear hK K
            (try simp only [Act.put]); (try simp only [List.setIfInBounds_toArray]); (try simp only [List.set_cons_succ]); (try simp only [List.set_cons_zero])
            refine wpAnyH_take (i := 10) (oi := { dst := some 129, op := Op.binOp BinOp.neq 2 (Operand.tmp 126) (Operand.tmp 128) 2, type := 4, pos := "law.go:79", after := #[{ on := 7, ground := Ground.data }, { on := 9, ground := Ground.data }, { on := 5, ground := Ground.guard }], guard := some (5, false) }) (v := ?vk31) rfl (by kernel_rfl) (by kernel_rfl) (by kernel_rfl) (fun _ _ _ h => h) (Or.inl ⟨by rfl, ?hk31⟩) (S3.old ((Old.refl y2).drew) HFC.out) ?rk31
            case hk31 => (intro wz hSw; (try dsimp only at hSw); go_simp; try with_reducible rfl)
            (try simp only [Act.put]); (try simp only [List.setIfInBounds_toArray]); (try simp only [List.set_cons_succ]); (try simp only [List.set_cons_zero])
            refine wpAnyH_take (i := 11) (oi := { dst := some 130, op := Op.pick (Operand.tmp 124) (Operand.const (Value.bool true)) (Operand.tmp 129), type := 4, pos := "law.go:79", after := #[{ on := 5, ground := Ground.data }, { on := 10, ground := Ground.data }], guard := none }) (v := ?vk32) rfl (by kernel_rfl) (by kernel_rfl) (by kernel_rfl) (fun _ _ _ h => h) (Or.inl ⟨by rfl, ?hk32⟩) (S3.old ((Old.refl y2).drew) HFC.out) ?rk32
            case hk32 => (intro wz hSw; (try dsimp only at hSw); go_simp; try with_reducible rfl)
            (try simp only [Act.put]); (try simp only [List.setIfInBounds_toArray]); (try simp only [List.set_cons_succ]); (try simp only [List.set_cons_zero])
            refine wpAnyH_take (i := 12) (oi := { dst := some 131, op := Op.move (Operand.tmp 130), type := 4, pos := "law.go:79", after := #[{ on := 11, ground := Ground.data }, { on := 7, ground := Ground.chain }], guard := none }) (v := ?vk33) rfl (by kernel_rfl) (by kernel_rfl) (by kernel_rfl) (fun _ _ _ h => h) (Or.inl ⟨by rfl, ?hk33⟩) (S3.old ((Old.refl y2).drew) HFC.out) ?rk33
            case hk33 => (intro wz hSw; (try dsimp only at hSw); go_simp; try with_reducible rfl)
            (try simp only [Act.put]); (try simp only [List.setIfInBounds_toArray]); (try simp only [List.set_cons_succ]); (try simp only [List.set_cons_zero])
            refine wpAnyH_take (i := 13) (oi := { dst := some 132, op := Op.move (Operand.tmp 18), type := 45, pos := "law.go:79", after := #[{ on := 12, ground := Ground.guard }], guard := some (12, false) }) (v := ?vk34) rfl (by kernel_rfl) (by kernel_rfl) (by kernel_rfl) (fun _ _ _ h => h) (Or.inl ⟨by rfl, ?hk34⟩) (S3.old ((Old.refl y2).drew) HFC.out) ?rk34
            case hk34 => (intro wz hSw; (try dsimp only at hSw); go_simp; try with_reducible rfl)
            (try simp only [Act.put]); (try simp only [List.setIfInBounds_toArray]); (try simp only [List.set_cons_succ]); (try simp only [List.set_cons_zero])
            refine wpAnyH_take (i := 14) (oi := { dst := some 133, op := Op.call { callee := Callee.builtin Builtin.len, args := #[Operand.tmp 132], argTypes := #[45] }, type := 3, pos := "law.go:79", after := #[{ on := 13, ground := Ground.data }, { on := 12, ground := Ground.guard }], guard := some (12, false) }) (v := ?vk35) rfl (by kernel_rfl) (by kernel_rfl) (by kernel_rfl) (fun _ _ _ h => h) (Or.inl ⟨by rfl, ?hk35⟩) (S3.old ((Old.refl y2).drew) HFC.out) ?rk35
            case hk35 => (intro wz hSw; (try dsimp only at hSw); go_simp; try with_reducible rfl)
            (try simp only [Act.put]); (try simp only [List.setIfInBounds_toArray]); (try simp only [List.set_cons_succ]); (try simp only [List.set_cons_zero])
            refine wpAnyH_take (i := 15) (oi := { dst := some 134, op := Op.fieldAddr 34 (Operand.tmp 6) 0, type := 0, pos := "law.go:79", after := #[{ on := 12, ground := Ground.guard }], guard := some (12, false) }) (v := ?vk36) rfl (by kernel_rfl) (by kernel_rfl) (by kernel_rfl) (fun _ _ _ h => h) (Or.inl ⟨by rfl, ?hk36⟩) (S3.old ((Old.refl y2).drew) HFC.out) ?rk36
            case hk36 => (intro wz hSw; (try dsimp only at hSw); go_simp; try with_reducible rfl)
            (try simp only [Act.put]); (try simp only [List.setIfInBounds_toArray]); (try simp only [List.set_cons_succ]); (try simp only [List.set_cons_zero])
            refine wpAnyH_take (i := 16) (oi := { dst := some 135, op := Op.fieldAddr 32 (Operand.tmp 134) 0, type := 0, pos := "law.go:79", after := #[{ on := 15, ground := Ground.data }, { on := 12, ground := Ground.guard }], guard := some (12, false) }) (v := ?vk37) rfl (by kernel_rfl) (by kernel_rfl) (by kernel_rfl) (fun _ _ _ h => h) (Or.inl ⟨by rfl, ?hk37⟩) (S3.old ((Old.refl y2).drew) HFC.out) ?rk37
            case hk37 => (intro wz hSw; (try dsimp only at hSw); go_simp; try with_reducible rfl)
            (try simp only [Act.put]); (try simp only [List.setIfInBounds_toArray]); (try simp only [List.set_cons_succ]); (try simp only [List.set_cons_zero])
            refine wpAnyH_take (i := 17) (oi := { dst := some 136, op := Op.load 30 (Operand.tmp 135), type := 30, pos := "law.go:79", after := #[{ on := 16, ground := Ground.data }, { on := 12, ground := Ground.guard }], guard := some (12, false) }) (v := ?vk38) rfl (by kernel_rfl) (by kernel_rfl) (by kernel_rfl) (fun _ _ _ h => h) (Or.inl ⟨by rfl, ?hk38⟩) (S3.old ((Old.refl y2).drew) HFC.out) ?rk38
            case hk38 => (intro wz hSw; (try dsimp only at hSw); go_simp; try with_reducible rfl)
            (try simp only [Act.put]); (try simp only [List.setIfInBounds_toArray]); (try simp only [List.set_cons_succ]); (try simp only [List.set_cons_zero])
            refine wpAnyH_take (i := 18) (oi := { dst := some 137, op := Op.call { callee := Callee.builtin Builtin.len, args := #[Operand.tmp 136], argTypes := #[30] }, type := 3, pos := "law.go:79", after := #[{ on := 17, ground := Ground.data }, { on := 12, ground := Ground.guard }], guard := some (12, false) }) (v := ?vk39) rfl (by kernel_rfl) (by kernel_rfl) (by kernel_rfl) (fun _ _ _ h => h) (Or.inl ⟨by rfl, ?hk39⟩) (S3.old ((Old.refl y2).drew) HFC.out) ?rk39
            case hk39 => (intro wz hSw; (try dsimp only at hSw); go_simp; try with_reducible rfl)
            (try simp only [Act.put]); (try simp only [List.setIfInBounds_toArray]); (try simp only [List.set_cons_succ]); (try simp only [List.set_cons_zero])
            refine wpAnyH_take (i := 19) (oi := { dst := some 138, op := Op.binOp BinOp.neq 3 (Operand.tmp 133) (Operand.tmp 137) 3, type := 4, pos := "law.go:79", after := #[{ on := 14, ground := Ground.data }, { on := 18, ground := Ground.data }, { on := 12, ground := Ground.guard }], guard := some (12, false) }) (v := ?vk40) rfl (by kernel_rfl) (by kernel_rfl) (by kernel_rfl) (fun _ _ _ h => h) (Or.inl ⟨by rfl, ?hk40⟩) (S3.old ((Old.refl y2).drew) HFC.out) ?rk40
            case hk40 => (intro wz hSw; (try dsimp only at hSw); go_simp; try with_reducible rfl)
            (try simp only [Act.put]); (try simp only [List.setIfInBounds_toArray]); (try simp only [List.set_cons_succ]); (try simp only [List.set_cons_zero])
            refine wpAnyH_take (i := 20) (oi := { dst := some 139, op := Op.pick (Operand.tmp 131) (Operand.const (Value.bool true)) (Operand.tmp 138), type := 4, pos := "law.go:79", after := #[{ on := 12, ground := Ground.data }, { on := 19, ground := Ground.data }], guard := none }) (v := ?vk41) rfl (by kernel_rfl) (by kernel_rfl) (by kernel_rfl) (fun _ _ _ h => h) (Or.inl ⟨by rfl, ?hk41⟩) (S3.old ((Old.refl y2).drew) HFC.out) ?rk41
            case hk41 => (intro wz hSw; (try dsimp only at hSw); go_simp; try with_reducible rfl)
            (try simp only [Act.put]); (try simp only [List.setIfInBounds_toArray]); (try simp only [List.set_cons_succ]); (try simp only [List.set_cons_zero])
            refine wpAnyH_done (by kernel_rfl) ?_ _
            refine NoPanic.normal ?_
            have HQ3 := hid (HQ.out.old ((Old.refl y2).drew))
            have HC3 := hid ((Old.refl y2).drew)
            clear HFC HTm HVt
            generalize World.drew y2 = y3 at *
            obtain ⟨x0, x1, x2, x3, x4⟩ := box5 HQ3.out.box
            have l9 : ((m7 : Nat) : Int) ≤ 256 := by have := HQ3.out.len; have := HQ3.out.few; omega
            go_wp2
            generalize wr = wq at *
            go_loopw [144] (fun c wr => ∃ j : Nat, j ≤ m7 ∧ c = .int .i64 (j : Nat) ∧ Old y3 wr) (fun c _ => m7 - (intOf c).toNat)
            case atStart => exact ⟨0, Nat.zero_le _, rfl, Old.refl _⟩
            case round =>
              obtain ⟨j, hj, rfl, hU⟩ := hrel
              have HUr := hid hU
              clear hU
              by_cases hjl : j < m7
              · have hil : j < Z.length := by rw [← HQ3.out.len]; exact hjl
                obtain ⟨gy, cy, qy, hyc, hym, ⟨y0, y1, yy⟩⟩ := HQ3.out.doc.row.at j hil
                obtain ⟨ey, -, ec⟩ := Value.slice.inj qy
                subst ey ec
                have k0 := HUr.out.keep y0
                have k1 := HUr.out.keep y1
                have k2 := HUr.out.keep yy
                have m2 : (0 : Int) ≤ (j : Int) := by omega
                have m3 : (j : Int) < (m7 : Int) := by omega
                rw [← HQ3.out.len] at hyc
                obtain ⟨gn, eg, ncell⟩ := HCell.out j hil
                subst eg
                have HBq := hid (HQ3.out.doc.byt _ (List.getElem_mem hil))
                have HRd := hid (HQ3.out.read (List.getElem_mem hil))
                have HNc := hid ncell
                clear y0 y1 yy qy ncell x0 x1 x2 x3 x4
                generalize Z[j] = y at *
                clear hil
                obtain ⟨nm, hnm⟩ : ∃ nm, nm = y.nm := ⟨_, rfl⟩
                rw [← hnm] at k0 HNc HRd
                clear hnm
                go_upto_region 38 with (fail)
                have HV := hid (show Old wr (wr.alloc (.cells #[.string nm, .slice y.na y.now.length y.nc, .slice y.sa y.safe.length y.sc] 51)) from (Old.refl wr).alloc _)
                have HB8 := hid (alloc_at wr (.cells #[.string nm, .slice y.na y.now.length y.nc, .slice y.sa y.safe.length y.sc] 51))
                clear k0 k1 k2
                generalize wr.alloc (.cells #[.string nm, .slice y.na y.now.length y.nc, .slice y.sa y.safe.length y.sc] 51) = w5 at *
                obtain ⟨b8, hb8⟩ : ∃ b8, b8 = wr.heap.size := ⟨_, rfl⟩
                rw [← hb8] at HB8 ⊢
                clear hb8
                have HU5 := hid (HUr.out.trans HV.out)
                obtain ⟨t8, t9, -, -, -, -⟩ := box3 HB8.out
                have HR1 := hid (show Calls Tryz.prog 16 #[.pointer (some ⟨db, 0, none⟩), .string nm] w5 fun e w' => ∃ v' rc, e = .returned (.tuple #[v', .int .i64 rc]) ∧ Own w' v' y.now ∧ Old w5 w' from (readD w w5 db _ _ nm (HQ3.out.disk.old HU5.out)).mono fun e w' q => by obtain ⟨v', q1, q2, q3, -⟩ := q; rw [HRd.out] at q2; exact ⟨v', _, q1, q2, q3⟩)
                go_upto_region 39 with (go_at_call 16; refine HR1.out.mono ?_; rintro e w8 ⟨v8, rc, rfl, o8, u8⟩; obtain ⟨a8, c8, e8⟩ := o8.len; subst e8; have O8 := hid o8; have U8 := hid u8; clear o8 u8)
                clear t8 t9
                obtain ⟨t8, t9, -, -, -, -⟩ := box3 (U8.out.block HB8.out)
                have HU8 := hid (HU5.out.trans U8.out)
                have hg1 := (box5 (HU8.out.block HQ3.out.box)).2.1
                have HF := hid (And.intro ((HC3.out.trans HU8.out).keep HNc.out) (And.intro t8 (And.intro t9 hg1)))
                clear t8 t9 hg1
                have HSm := hid (fun (W' : World) (u : Old w8 W') => sameL (.slice a8 y.now.length c8) (.slice y.na y.now.length y.nc) y.now W' (O8.out.old u).row (HBq.out.1.old (HU8.out.trans u)).row)
                refine wp_region_noPanic ?_
                refine wp_region_held_drew (S := fun wz => wz.cell? ⟨gn, j, none⟩ = some (.string nm) ∧ wz.cell? ⟨b8, 0, none⟩ = some (.string nm) ∧ wz.cell? ⟨b8, 1, none⟩ = some (.slice y.na y.now.length y.nc) ∧ wz.cell? ⟨gm, 1, none⟩ = some (.bool false)) (by kernel_rfl) ?_ (fun hHeld => ?_)
                · exact (S4x.old ((Old.refl w8).drew) HF.out)
                (try simp only [Act.put]); (try simp only [List.setIfInBounds_toArray]); (try simp only [List.set_cons_succ]); (try simp only [List.set_cons_zero])
                clear hHeld
                refine wpAnyH_take (i := 0) (oi := { dst := some 156, op := Op.move (Operand.tmp 18), type := 45, pos := "law.go:84", after := #[], guard := none }) (v := ?vk1) rfl (by kernel_rfl) (by kernel_rfl) (by kernel_rfl) (fun _ _ _ h => h) (Or.inl ⟨by rfl, ?hk1⟩) (S4x.old ((Old.refl w8).drew) HF.out) ?rk1
                case hk1 => (intro wz hSw; (try dsimp only at hSw); go_simp; try with_reducible rfl)
                (try simp only [Act.put]); (try simp only [List.setIfInBounds_toArray]); (try simp only [List.set_cons_succ]); (try simp only [List.set_cons_zero])
                refine wpAnyH_take (i := 1) (oi := { dst := some 157, op := Op.move (Operand.tmp 19), type := 3, pos := "law.go:84", after := #[], guard := none }) (v := ?vk2) rfl (by kernel_rfl) (by kernel_rfl) (by kernel_rfl) (fun _ _ _ h => h) (Or.inl ⟨by rfl, ?hk2⟩) (S4x.old ((Old.refl w8).drew) HF.out) ?rk2
                case hk2 => (intro wz hSw; (try dsimp only at hSw); go_simp; try with_reducible rfl)
                (try simp only [Act.put]); (try simp only [List.setIfInBounds_toArray]); (try simp only [List.set_cons_succ]); (try simp only [List.set_cons_zero])
                refine wpAnyH_take (i := 2) (oi := { dst := some 158, op := Op.indexAddr 45 (Operand.tmp 156) (Operand.tmp 157), type := 0, pos := "law.go:84", after := #[{ on := 0, ground := Ground.data }, { on := 1, ground := Ground.data }], guard := none }) (v := ?vk3) rfl (by kernel_rfl) (by kernel_rfl) (by kernel_rfl) (fun _ _ _ h => h) (Or.inl ⟨by rfl, ?hk3⟩) (S4x.old ((Old.refl w8).drew) HF.out) ?rk3
                case hk3 => (intro wz hSw; (try dsimp only at hSw); go_simp; try with_reducible rfl)
                (try simp only [Act.put]); (try simp only [List.setIfInBounds_toArray]); (try simp only [List.set_cons_succ]); (try simp only [List.set_cons_zero])
                refine wpAnyH_take (i := 3) (oi := { dst := some 159, op := Op.load 9 (Operand.tmp 158), type := 9, pos := "law.go:84", after := #[{ on := 2, ground := Ground.data }], guard := none }) (v := ?vk4) rfl (by kernel_rfl) (by kernel_rfl) (by kernel_rfl) (fun _ _ _ h => h) (Or.inl ⟨by rfl, ?hk4⟩) (S4x.old ((Old.refl w8).drew) HF.out) ?rk4
                case hk4 => (intro wz hSw; (try dsimp only at hSw); go_simp; try with_reducible rfl)
                (try simp only [Act.put]); (try simp only [List.setIfInBounds_toArray]); (try simp only [List.set_cons_succ]); (try simp only [List.set_cons_zero])
                refine wpAnyH_take (i := 4) (oi := { dst := some 160, op := Op.fieldAddr 51 (Operand.tmp 20) 0, type := 0, pos := "law.go:84", after := #[], guard := none }) (v := ?vk5) rfl (by kernel_rfl) (by kernel_rfl) (by kernel_rfl) (fun _ _ _ h => h) (Or.inl ⟨by rfl, ?hk5⟩) (S4x.old ((Old.refl w8).drew) HF.out) ?rk5
                case hk5 => (intro wz hSw; (try dsimp only at hSw); go_simp; try with_reducible rfl)
                (try simp only [Act.put]); (try simp only [List.setIfInBounds_toArray]); (try simp only [List.set_cons_succ]); (try simp only [List.set_cons_zero])
                refine wpAnyH_take (i := 5) (oi := { dst := some 161, op := Op.load 9 (Operand.tmp 160), type := 9, pos := "law.go:84", after := #[{ on := 4, ground := Ground.data }], guard := none }) (v := ?vk6) rfl (by kernel_rfl) (by kernel_rfl) (by kernel_rfl) (fun _ _ _ h => h) (Or.inl ⟨by rfl, ?hk6⟩) (S4x.old ((Old.refl w8).drew) HF.out) ?rk6
                case hk6 => (intro wz hSw; (try dsimp only at hSw); go_simp; try with_reducible rfl)
                (try simp only [Act.put]); (try simp only [List.setIfInBounds_toArray]); (try simp only [List.set_cons_succ]); (try simp only [List.set_cons_zero])
                refine wpAnyH_take (i := 6) (oi := { dst := some 162, op := Op.binOp BinOp.neq 9 (Operand.tmp 159) (Operand.tmp 161) 9, type := 4, pos := "law.go:84", after := #[{ on := 3, ground := Ground.data }, { on := 5, ground := Ground.data }], guard := none }) (v := ?vk7) rfl (by kernel_rfl) (by kernel_rfl) (by kernel_rfl) (fun _ _ _ h => h) (Or.inl ⟨by rfl, ?hk7⟩) (S4x.old ((Old.refl w8).drew) HF.out) ?rk7
                case hk7 => (intro wz hSw; (try dsimp only at hSw); go_simp; try with_reducible rfl)
                (try simp only [Act.put]); (try simp only [List.setIfInBounds_toArray]); (try simp only [List.set_cons_succ]); (try simp only [List.set_cons_zero])
                refine wpAnyH_take (i := 7) (oi := { dst := some 163, op := Op.move (Operand.tmp 162), type := 4, pos := "law.go:84", after := #[{ on := 6, ground := Ground.data }], guard := none }) (v := ?vk8) rfl (by kernel_rfl) (by kernel_rfl) (by kernel_rfl) (fun _ _ _ h => h) (Or.inl ⟨by rfl, ?hk8⟩) (S4x.old ((Old.refl w8).drew) HF.out) ?rk8
                case hk8 => (intro wz hSw; (try dsimp only at hSw); go_simp; try with_reducible rfl)
                (try simp only [Act.put]); (try simp only [List.setIfInBounds_toArray]); (try simp only [List.set_cons_succ]); (try simp only [List.set_cons_zero])
                refine wpAnyH_take (i := 8) (oi := { dst := some 164, op := Op.fieldAddr 34 (Operand.tmp 6) 0, type := 0, pos := "law.go:84", after := #[{ on := 7, ground := Ground.guard }], guard := some (7, false) }) (v := ?vk9) rfl (by kernel_rfl) (by kernel_rfl) (by kernel_rfl) (fun _ _ _ h => h) (Or.inl ⟨by rfl, ?hk9⟩) (S4x.old ((Old.refl w8).drew) HF.out) ?rk9
                case hk9 => (intro wz hSw; (try dsimp only at hSw); go_simp; try with_reducible rfl)
                (try simp only [Act.put]); (try simp only [List.setIfInBounds_toArray]); (try simp only [List.set_cons_succ]); (try simp only [List.set_cons_zero])
                refine wpAnyH_take (i := 9) (oi := { dst := some 165, op := Op.fieldAddr 32 (Operand.tmp 164) 1, type := 0, pos := "law.go:84", after := #[{ on := 8, ground := Ground.data }, { on := 7, ground := Ground.guard }], guard := some (7, false) }) (v := ?vk10) rfl (by kernel_rfl) (by kernel_rfl) (by kernel_rfl) (fun _ _ _ h => h) (Or.inl ⟨by rfl, ?hk10⟩) (S4x.old ((Old.refl w8).drew) HF.out) ?rk10
                case hk10 => (intro wz hSw; (try dsimp only at hSw); go_simp; try with_reducible rfl)
                (try simp only [Act.put]); (try simp only [List.setIfInBounds_toArray]); (try simp only [List.set_cons_succ]); (try simp only [List.set_cons_zero])
                refine wpAnyH_take (i := 10) (oi := { dst := some 166, op := Op.load 4 (Operand.tmp 165), type := 4, pos := "law.go:84", after := #[{ on := 9, ground := Ground.data }, { on := 7, ground := Ground.guard }], guard := some (7, false) }) (v := ?vk11) rfl (by kernel_rfl) (by kernel_rfl) (by kernel_rfl) (fun _ _ _ h => h) (Or.inl ⟨by rfl, ?hk11⟩) (S4x.old ((Old.refl w8).drew) HF.out) ?rk11
                case hk11 => (intro wz hSw; (try dsimp only at hSw); go_simp; try with_reducible rfl)
                (try simp only [Act.put]); (try simp only [List.setIfInBounds_toArray]); (try simp only [List.set_cons_succ]); (try simp only [List.set_cons_zero])
                refine wpAnyH_take (i := 11) (oi := { dst := some 167, op := Op.unOp UnOp.not 4 (Operand.tmp 166), type := 4, pos := "law.go:84", after := #[{ on := 10, ground := Ground.data }, { on := 7, ground := Ground.guard }], guard := some (7, false) }) (v := ?vk12) rfl (by kernel_rfl) (by kernel_rfl) (by kernel_rfl) (fun _ _ _ h => h) (Or.inl ⟨by rfl, ?hk12⟩) (S4x.old ((Old.refl w8).drew) HF.out) ?rk12
                case hk12 => (intro wz hSw; (try dsimp only at hSw); go_simp; try with_reducible rfl)
                (try simp only [Act.put]); (try simp only [List.setIfInBounds_toArray]); (try simp only [List.set_cons_succ]); (try simp only [List.set_cons_zero])
                refine wpAnyH_take (i := 12) (oi := { dst := some 168, op := Op.move (Operand.tmp 167), type := 4, pos := "law.go:84", after := #[{ on := 11, ground := Ground.data }, { on := 7, ground := Ground.chain }, { on := 7, ground := Ground.guard }], guard := some (7, false) }) (v := ?vk13) rfl (by kernel_rfl) (by kernel_rfl) (by kernel_rfl) (fun _ _ _ h => h) (Or.inl ⟨by rfl, ?hk13⟩) (S4x.old ((Old.refl w8).drew) HF.out) ?rk13
                case hk13 => (intro wz hSw; (try dsimp only at hSw); go_simp; try with_reducible rfl)
                (try simp only [Act.put]); (try simp only [List.setIfInBounds_toArray]); (try simp only [List.set_cons_succ]); (try simp only [List.set_cons_zero])
                refine wpAnyH_take (i := 13) (oi := { dst := some 169, op := Op.move (Operand.tmp 21), type := 49, pos := "law.go:84", after := #[{ on := 12, ground := Ground.guard }], guard := some (12, true) }) (v := ?vk14) rfl (by kernel_rfl) (by kernel_rfl) (by kernel_rfl) (fun _ _ _ h => h) (Or.inl ⟨by rfl, ?hk14⟩) (S4x.old ((Old.refl w8).drew) HF.out) ?rk14
                case hk14 => (intro wz hSw; (try dsimp only at hSw); go_simp; try with_reducible rfl)
                (try simp only [Act.put]); (try simp only [List.setIfInBounds_toArray]); (try simp only [List.set_cons_succ]); (try simp only [List.set_cons_zero])
                refine wpAnyH_take (i := 14) (oi := { dst := some 170, op := Op.fieldAddr 51 (Operand.tmp 20) 1, type := 0, pos := "law.go:84", after := #[{ on := 12, ground := Ground.guard }], guard := some (12, true) }) (v := ?vk15) rfl (by kernel_rfl) (by kernel_rfl) (by kernel_rfl) (fun _ _ _ h => h) (Or.inl ⟨by rfl, ?hk15⟩) (S4x.old ((Old.refl w8).drew) HF.out) ?rk15
                case hk15 => (intro wz hSw; (try dsimp only at hSw); go_simp; try with_reducible rfl)
                (try simp only [Act.put]); (try simp only [List.setIfInBounds_toArray]); (try simp only [List.set_cons_succ]); (try simp only [List.set_cons_zero])
                refine wpAnyH_take (i := 15) (oi := { dst := some 171, op := Op.load 49 (Operand.tmp 170), type := 49, pos := "law.go:84", after := #[{ on := 14, ground := Ground.data }, { on := 12, ground := Ground.guard }], guard := some (12, true) }) (v := ?vk16) rfl (by kernel_rfl) (by kernel_rfl) (by kernel_rfl) (fun _ _ _ h => h) (Or.inl ⟨by rfl, ?hk16⟩) (S4x.old ((Old.refl w8).drew) HF.out) ?rk16
                case hk16 => (intro wz hSw; (try dsimp only at hSw); go_simp; try with_reducible rfl)
                (try simp only [Act.put]); (try simp only [List.setIfInBounds_toArray]); (try simp only [List.set_cons_succ]); (try simp only [List.set_cons_zero])
                refine wpAnyH_ready (rs := [16]) (by kernel_rfl) (by simp) ?_
                refine AllReadyH.cons (o := { dst := some 172, op := Op.call { callee := Callee.value (Operand.func 17), args := #[Operand.tmp 169, Operand.tmp 171], argTypes := #[49, 49] }, type := 4, pos := "law.go:84", after := #[{ on := 13, ground := Ground.data }, { on := 15, ground := Ground.data }, { on := 12, ground := Ground.chain }, { on := 12, ground := Ground.guard }], guard := some (12, true) }) rfl (fun K hK => ?_) AllReadyH.nil
                refine wantCall2 ?_ 17 (.tmp 169) (.tmp 171) #[49, 49] ?_ (.slice a8 y.now.length c8) (.slice y.na y.now.length y.nc) ?_ ?_ ?_ ((enters_of Tryz.func17 (by kernel_rfl) rfl) _ _) ?_
                · rfl
                · rfl
                · rfl
                · rfl
                · rfl
                refine (HSm.out _ ((Old.refl w8).drew)).mono ?_
                rintro o x17 ⟨rfl, bq17⟩
                refine ⟨_, rfl, ?_⟩
                have UU17 := Old.trans (((Old.refl w8).drew)) bq17
                refine hK.out _ _ (S4x.old UU17 HF.out) (fun _ => ?_)
                clear hK K
                (try simp only [Act.put]); (try simp only [List.setIfInBounds_toArray]); (try simp only [List.set_cons_succ]); (try simp only [List.set_cons_zero])
                refine wpAnyH_take (i := 17) (oi := { dst := some 173, op := Op.unOp UnOp.not 4 (Operand.tmp 172), type := 4, pos := "law.go:84", after := #[{ on := 16, ground := Ground.data }, { on := 12, ground := Ground.guard }], guard := some (12, true) }) (v := ?vk18) rfl (by kernel_rfl) (by kernel_rfl) (by kernel_rfl) (fun _ _ _ h => h) (Or.inl ⟨by rfl, ?hk18⟩) (S4x.old UU17 HF.out) ?rk18
                case hk18 => (intro wz hSw; (try dsimp only at hSw); go_simp; try with_reducible rfl)
                (try simp only [Act.put]); (try simp only [List.setIfInBounds_toArray]); (try simp only [List.set_cons_succ]); (try simp only [List.set_cons_zero])
                refine wpAnyH_take (i := 18) (oi := { dst := some 174, op := Op.pick (Operand.tmp 168) (Operand.tmp 173) (Operand.const (Value.bool false)), type := 4, pos := "law.go:84", after := #[{ on := 12, ground := Ground.data }, { on := 17, ground := Ground.data }, { on := 7, ground := Ground.guard }], guard := some (7, false) }) (v := ?vk19) rfl (by kernel_rfl) (by kernel_rfl) (by kernel_rfl) (fun _ _ _ h => h) (Or.inl ⟨by rfl, ?hk19⟩) (S4x.old UU17 HF.out) ?rk19
                case hk19 => (intro wz hSw; (try dsimp only at hSw); go_simp; try with_reducible rfl)
                (try simp only [Act.put]); (try simp only [List.setIfInBounds_toArray]); (try simp only [List.set_cons_succ]); (try simp only [List.set_cons_zero])
                refine wpAnyH_take (i := 19) (oi := { dst := some 175, op := Op.pick (Operand.tmp 163) (Operand.const (Value.bool true)) (Operand.tmp 174), type := 4, pos := "law.go:84", after := #[{ on := 7, ground := Ground.data }, { on := 18, ground := Ground.data }], guard := none }) (v := ?vk20) rfl (by kernel_rfl) (by kernel_rfl) (by kernel_rfl) (fun _ _ _ h => h) (Or.inl ⟨by rfl, ?hk20⟩) (S4x.old UU17 HF.out) ?rk20
                case hk20 => (intro wz hSw; (try dsimp only at hSw); go_simp; try with_reducible rfl)
                (try simp only [Act.put]); (try simp only [List.setIfInBounds_toArray]); (try simp only [List.set_cons_succ]); (try simp only [List.set_cons_zero])
                refine wpAnyH_done (by kernel_rfl) ?_ _
                refine NoPanic.normal ?_
                have HUx := hid (HU8.out.trans UU17)
                go_wp2
                go_roundw
                case rel => exact ⟨j + 1, hjl, by go_num, HUx.out⟩
                case measure => simp [intOf]; omega
              · have m3 : ¬ (j : Int) < (m7 : Int) := by omega
                have HFin := hid (HQ3.out.old HUr.out)
                clear x0 x1 x2 x3 x4
                go_wp2
                go_roundw
                case rel => exact ⟨i + 1, hk, false, p', s1, s2, a7, m7, c7, Z, false, fu2, s1, s2, by omega, rfl, rfl, by go_num, HFin.out⟩
                case measure => simp [intOf]; omega
      · by_cases c2 : ok = 2
        · subst c2
          obtain ⟨M, hM, eM⟩ := and_mask on 7 (by omega)
          have eM : bits .and .i64 on 7 = (M : Int) := eM
          have HM := hid hM
          clear hM
          have HFl := hid (failD w wx db p (hk :: gm :: docB (.slice a m cc) Y ++ [X]) (M : Int) HDx.out (by have := HM.out; omega))
          go_upto_region 21 with (go_at_call 10; refine HFl.out.mono ?_; rintro e w6 ⟨rfl, d6, q6⟩; have D6 := hid d6; have Q6 := hid q6; clear d6 q6)
          have M6 := hid (HPx.out.mid (Q6.out.sub (fun g hg => List.mem_append_left _ (List.mem_cons_of_mem _ hg))))
          have X6 := hid (Q6.out.at (by simp) HX.out)
          clear b0 b1 b2 b3 b4 HFl
          obtain ⟨b0, b1, b2, b3, b4⟩ := box5 X6.out
          obtain ⟨e0, e1, e2, e3, e4⟩ := box5 M6.out.1
          obtain ⟨f0, f1, f2, f3, f4⟩ := box5f M6.out.1
          have HPn := hid (HPx.out.fail M HM.out D6.out (fun g hg => List.mem_append_left _ hg) Q6.out)
          go_upto_region 31 with (fail)
          clear e0 e1 e2 e3 e4 f0 f1 f2 f3 f4 b0 b1 b2 b3 b4 M6 X6 D6 Q6 HPx HDx eM
          generalize w6.setCell ⟨gm, 2, none⟩ (.int .i64 (M : Int)) = w9 at *
          generalize { p with fail := max 0 (M : Int) } = p' at *
          generalize (M : Int) = fu2 at *
          cases br with
          | true =>
            go_wp2
            go_roundw
            case rel => exact ⟨i + 1, hk, true, p', t0, v0, a, m, cc, Y, dn, fu2, t1, v1, by omega, rfl, rfl, by go_num, HPn.out⟩
            case measure => simp [intOf]; omega
          | false =>
            obtain ⟨hku, q1, q2⟩ := HPn.out.ku rfl
            have q3 := (HPn.out.rel.here hku.2).1
            obtain rfl : t0 = t1 := q1.symm
            obtain rfl : v0 = v1 := q2.symm
            subst q3
            clear hku
            go_upto_region 33 with (go_at_call 13; refine (namesD w _ db _ _ HPn.out.disk).mono ?_; rintro e y2 ⟨vn, S4, rfl, hS4, hP4, oS4, u4⟩; have HS4 := hid (And.intro hS4 hP4); have O4 := hid oS4; have U4 := hid u4; clear u4 hS4 hP4 oS4)
            obtain ⟨a4, c4, e4, lc4, lm4, hcell⟩ := O4.out.at5
            have eS : S4 = keysP (Y.map Fi.p) := rise_eq HS4.out.1 (HPn.out.rel.perm.map _) HS4.out.2 HPn.out.rel.rise
            have eL : S4.length = m := by rw [eS]; unfold keysP; rw [List.length_map, List.length_map, HPn.out.len]
            have HCell := hid (show ∀ i (hi : i < Y.length), ∃ g, a4 = some ⟨g, 0, none⟩ ∧ y2.cell? ⟨g, i, none⟩ = some (.string Y[i].nm) from fun i hi => by
              obtain ⟨g, e, c⟩ := hcell i (by rw [eL, HPn.out.len]; exact hi)
              refine ⟨g, e, ?_⟩
              rw [c]
              congr 2
              subst eS
              simp [keysP, Fi.p])
            rw [eL] at e4 lc4
            subst e4
            clear hcell eS eL HS4 O4
            have HQ := hid (HPn.out.old U4.out)
            obtain ⟨x0, x1, x2, x3, x4⟩ := box5 HQ.out.box
            have HFC := hid (show y2.cell? ⟨gm, 0, none⟩ = some (.slice a m cc) ∧ y2.cell? ⟨gm, 3, none⟩ = some (.int .i64 t0) ∧ y2.cell? ⟨gm, 4, none⟩ = some (.int .i64 v0) from ⟨x0, x3, x4⟩)
            have HTm := hid (fun (W' : World) (u : Old y2 W') => term_any hk _ t0 v0 W' (u.block HQ.out.hbox))
            have HVt := hid (fun (W' : World) (u : Old y2 W') => vote_any hk _ t0 v0 W' (u.block HQ.out.hbox))
            clear x0 x1 x2 x3 x4
            refine wp_region_noPanic ?_
            refine wp_region_held_drew (S := fun wz => wz.cell? ⟨gm, 0, none⟩ = some (.slice a m cc) ∧ wz.cell? ⟨gm, 3, none⟩ = some (.int .i64 t0) ∧ wz.cell? ⟨gm, 4, none⟩ = some (.int .i64 v0)) (by kernel_rfl) ?_ (fun hHeld => ?_)
            · exact (S3.old ((Old.refl y2).drew) HFC.out)
            (try simp only [Act.put]); (try simp only [List.setIfInBounds_toArray]); (try simp only [List.set_cons_succ]); (try simp only [List.set_cons_zero])
            clear hHeld
            refine wpAnyH_take (i := 0) (oi := { dst := some 119, op := Op.move (Operand.tmp 4), type := 26, pos := "law.go:79", after := #[], guard := none }) (v := ?vk62) rfl (by kernel_rfl) (by kernel_rfl) (by kernel_rfl) (fun _ _ _ h => h) (Or.inl ⟨by rfl, ?hk62⟩) (S3.old ((Old.refl y2).drew) HFC.out) ?rk62
            case hk62 => (intro wz hSw; (try dsimp only at hSw); go_simp; try with_reducible rfl)
            (try simp only [Act.put]); (try simp only [List.setIfInBounds_toArray]); (try simp only [List.set_cons_succ]); (try simp only [List.set_cons_zero])
            refine wpAnyH_take (i := 2) (oi := { dst := some 121, op := Op.fieldAddr 34 (Operand.tmp 6) 1, type := 0, pos := "law.go:79", after := #[], guard := none }) (v := ?vk63) rfl (by kernel_rfl) (by kernel_rfl) (by kernel_rfl) (fun _ _ _ h => h) (Or.inl ⟨by rfl, ?hk63⟩) (S3.old ((Old.refl y2).drew) HFC.out) ?rk63
            case hk63 => (intro wz hSw; (try dsimp only at hSw); go_simp; try with_reducible rfl)
            (try simp only [Act.put]); (try simp only [List.setIfInBounds_toArray]); (try simp only [List.set_cons_succ]); (try simp only [List.set_cons_zero])
            refine wpAnyH_take (i := 3) (oi := { dst := some 122, op := Op.load 2 (Operand.tmp 121), type := 2, pos := "law.go:79", after := #[{ on := 2, ground := Ground.data }], guard := none }) (v := ?vk64) rfl (by kernel_rfl) (by kernel_rfl) (by kernel_rfl) (fun _ _ _ h => h) (Or.inl ⟨by rfl, ?hk64⟩) (S3.old ((Old.refl y2).drew) HFC.out) ?rk64
            case hk64 => (intro wz hSw; (try dsimp only at hSw); go_simp; try with_reducible rfl)
            (try simp only [Act.put]); (try simp only [List.setIfInBounds_toArray]); (try simp only [List.set_cons_succ]); (try simp only [List.set_cons_zero])
            refine wpAnyH_ready (rs := [1]) (by kernel_rfl) (by simp) ?_
            refine AllReadyH.cons (o := { dst := some 120, op := Op.call { callee := Callee.value (Operand.func 14), args := #[Operand.tmp 119], argTypes := #[26] }, type := 2, pos := "law.go:79", after := #[{ on := 0, ground := Ground.data }], guard := none }) rfl (fun K hK => ?_) AllReadyH.nil
            refine wantCall1 ?_ 14 (.tmp 119) #[26] ?_ (.pointer (some ⟨hk, 0, none⟩)) ?_ ?_ ((enters_of Tryz.func14 (by kernel_rfl) rfl) _ _) ?_
            · rfl
            · rfl
            · rfl
            · rfl
            refine (HTm.out _ ((Old.refl y2).drew)).mono ?_
            rintro o x65 ⟨rfl, hx65⟩
            subst hx65
            refine ⟨_, rfl, ?_⟩
            refine hK.out _ _ (S3.old ((Old.refl y2).drew) HFC.out) (fun _ => ?_)
            clear hK K
            (try simp only [Act.put]); (try simp only [List.setIfInBounds_toArray]); (try simp only [List.set_cons_succ]); (try simp only [List.set_cons_zero])
            refine wpAnyH_take (i := 4) (oi := { dst := some 123, op := Op.binOp BinOp.neq 2 (Operand.tmp 120) (Operand.tmp 122) 2, type := 4, pos := "law.go:79", after := #[{ on := 1, ground := Ground.data }, { on := 3, ground := Ground.data }], guard := none }) (v := ?vk66) rfl (by kernel_rfl) (by kernel_rfl) (by kernel_rfl) (fun _ _ _ h => h) (Or.inl ⟨by rfl, ?hk66⟩) (S3.old ((Old.refl y2).drew) HFC.out) ?rk66
            case hk66 => (intro wz hSw; (try dsimp only at hSw); go_simp; try with_reducible rfl)
            (try simp only [Act.put]); (try simp only [List.setIfInBounds_toArray]); (try simp only [List.set_cons_succ]); (try simp only [List.set_cons_zero])
            refine wpAnyH_take (i := 5) (oi := { dst := some 124, op := Op.move (Operand.tmp 123), type := 4, pos := "law.go:79", after := #[{ on := 4, ground := Ground.data }, { on := 1, ground := Ground.chain }], guard := none }) (v := ?vk67) rfl (by kernel_rfl) (by kernel_rfl) (by kernel_rfl) (fun _ _ _ h => h) (Or.inl ⟨by rfl, ?hk67⟩) (S3.old ((Old.refl y2).drew) HFC.out) ?rk67
            case hk67 => (intro wz hSw; (try dsimp only at hSw); go_simp; try with_reducible rfl)
            (try simp only [Act.put]); (try simp only [List.setIfInBounds_toArray]); (try simp only [List.set_cons_succ]); (try simp only [List.set_cons_zero])
            refine wpAnyH_take (i := 6) (oi := { dst := some 125, op := Op.move (Operand.tmp 4), type := 26, pos := "law.go:79", after := #[{ on := 5, ground := Ground.guard }], guard := some (5, false) }) (v := ?vk68) rfl (by kernel_rfl) (by kernel_rfl) (by kernel_rfl) (fun _ _ _ h => h) (Or.inl ⟨by rfl, ?hk68⟩) (S3.old ((Old.refl y2).drew) HFC.out) ?rk68
            case hk68 => (intro wz hSw; (try dsimp only at hSw); go_simp; try with_reducible rfl)
            (try simp only [Act.put]); (try simp only [List.setIfInBounds_toArray]); (try simp only [List.set_cons_succ]); (try simp only [List.set_cons_zero])
            refine wpAnyH_take (i := 8) (oi := { dst := some 127, op := Op.fieldAddr 34 (Operand.tmp 6) 2, type := 0, pos := "law.go:79", after := #[{ on := 5, ground := Ground.guard }], guard := some (5, false) }) (v := ?vk69) rfl (by kernel_rfl) (by kernel_rfl) (by kernel_rfl) (fun _ _ _ h => h) (Or.inl ⟨by rfl, ?hk69⟩) (S3.old ((Old.refl y2).drew) HFC.out) ?rk69
            case hk69 => (intro wz hSw; (try dsimp only at hSw); go_simp; try with_reducible rfl)
            (try simp only [Act.put]); (try simp only [List.setIfInBounds_toArray]); (try simp only [List.set_cons_succ]); (try simp only [List.set_cons_zero])
            refine wpAnyH_take (i := 9) (oi := { dst := some 128, op := Op.load 2 (Operand.tmp 127), type := 2, pos := "law.go:79", after := #[{ on := 8, ground := Ground.data }, { on := 5, ground := Ground.guard }], guard := some (5, false) }) (v := ?vk70) rfl (by kernel_rfl) (by kernel_rfl) (by kernel_rfl) (fun _ _ _ h => h) (Or.inl ⟨by rfl, ?hk70⟩) (S3.old ((Old.refl y2).drew) HFC.out) ?rk70
            case hk70 => (intro wz hSw; (try dsimp only at hSw); go_simp; try with_reducible rfl)
            (try simp only [Act.put]); (try simp only [List.setIfInBounds_toArray]); (try simp only [List.set_cons_succ]); (try simp only [List.set_cons_zero])
            refine wpAnyH_ready (rs := [7]) (by kernel_rfl) (by simp) ?_
            refine AllReadyH.cons (o := { dst := some 126, op := Op.call { callee := Callee.value (Operand.func 15), args := #[Operand.tmp 125], argTypes := #[26] }, type := 3, pos := "law.go:79", after := #[{ on := 6, ground := Ground.data }, { on := 5, ground := Ground.chain }, { on := 5, ground := Ground.guard }], guard := some (5, false) }) rfl (fun K hK => ?_) AllReadyH.nil
            refine wantCall1 ?_ 15 (.tmp 125) #[26] ?_ (.pointer (some ⟨hk, 0, none⟩)) ?_ ?_ ((enters_of Tryz.func15 (by kernel_rfl) rfl) _ _) ?_
            · rfl
            · rfl
            · rfl
            · rfl
            refine (HVt.out _ ((Old.refl y2).drew)).mono ?_
            rintro o x71 ⟨rfl, hx71⟩
            subst hx71
            refine ⟨_, rfl, ?_⟩
            refine hK.out _ _ (S3.old ((Old.refl y2).drew) HFC.out) (fun _ => ?_)
            clear hK K
            (try simp only [Act.put]); (try simp only [List.setIfInBounds_toArray]); (try simp only [List.set_cons_succ]); (try simp only [List.set_cons_zero])
            refine wpAnyH_take (i := 10) (oi := { dst := some 129, op := Op.binOp BinOp.neq 2 (Operand.tmp 126) (Operand.tmp 128) 2, type := 4, pos := "law.go:79", after := #[{ on := 7, ground := Ground.data }, { on := 9, ground := Ground.data }, { on := 5, ground := Ground.guard }], guard := some (5, false) }) (v := ?vk72) rfl (by kernel_rfl) (by kernel_rfl) (by kernel_rfl) (fun _ _ _ h => h) (Or.inl ⟨by rfl, ?hk72⟩) (S3.old ((Old.refl y2).drew) HFC.out) ?rk72
            case hk72 => (intro wz hSw; (try dsimp only at hSw); go_simp; try with_reducible rfl)
            (try simp only [Act.put]); (try simp only [List.setIfInBounds_toArray]); (try simp only [List.set_cons_succ]); (try simp only [List.set_cons_zero])
            refine wpAnyH_take (i := 11) (oi := { dst := some 130, op := Op.pick (Operand.tmp 124) (Operand.const (Value.bool true)) (Operand.tmp 129), type := 4, pos := "law.go:79", after := #[{ on := 5, ground := Ground.data }, { on := 10, ground := Ground.data }], guard := none }) (v := ?vk73) rfl (by kernel_rfl) (by kernel_rfl) (by kernel_rfl) (fun _ _ _ h => h) (Or.inl ⟨by rfl, ?hk73⟩) (S3.old ((Old.refl y2).drew) HFC.out) ?rk73
            case hk73 => (intro wz hSw; (try dsimp only at hSw); go_simp; try with_reducible rfl)
            (try simp only [Act.put]); (try simp only [List.setIfInBounds_toArray]); (try simp only [List.set_cons_succ]); (try simp only [List.set_cons_zero])
            refine wpAnyH_take (i := 12) (oi := { dst := some 131, op := Op.move (Operand.tmp 130), type := 4, pos := "law.go:79", after := #[{ on := 11, ground := Ground.data }, { on := 7, ground := Ground.chain }], guard := none }) (v := ?vk74) rfl (by kernel_rfl) (by kernel_rfl) (by kernel_rfl) (fun _ _ _ h => h) (Or.inl ⟨by rfl, ?hk74⟩) (S3.old ((Old.refl y2).drew) HFC.out) ?rk74
            case hk74 => (intro wz hSw; (try dsimp only at hSw); go_simp; try with_reducible rfl)
            (try simp only [Act.put]); (try simp only [List.setIfInBounds_toArray]); (try simp only [List.set_cons_succ]); (try simp only [List.set_cons_zero])
            refine wpAnyH_take (i := 13) (oi := { dst := some 132, op := Op.move (Operand.tmp 18), type := 45, pos := "law.go:79", after := #[{ on := 12, ground := Ground.guard }], guard := some (12, false) }) (v := ?vk75) rfl (by kernel_rfl) (by kernel_rfl) (by kernel_rfl) (fun _ _ _ h => h) (Or.inl ⟨by rfl, ?hk75⟩) (S3.old ((Old.refl y2).drew) HFC.out) ?rk75
            case hk75 => (intro wz hSw; (try dsimp only at hSw); go_simp; try with_reducible rfl)
            (try simp only [Act.put]); (try simp only [List.setIfInBounds_toArray]); (try simp only [List.set_cons_succ]); (try simp only [List.set_cons_zero])
            refine wpAnyH_take (i := 14) (oi := { dst := some 133, op := Op.call { callee := Callee.builtin Builtin.len, args := #[Operand.tmp 132], argTypes := #[45] }, type := 3, pos := "law.go:79", after := #[{ on := 13, ground := Ground.data }, { on := 12, ground := Ground.guard }], guard := some (12, false) }) (v := ?vk76) rfl (by kernel_rfl) (by kernel_rfl) (by kernel_rfl) (fun _ _ _ h => h) (Or.inl ⟨by rfl, ?hk76⟩) (S3.old ((Old.refl y2).drew) HFC.out) ?rk76
            case hk76 => (intro wz hSw; (try dsimp only at hSw); go_simp; try with_reducible rfl)
            (try simp only [Act.put]); (try simp only [List.setIfInBounds_toArray]); (try simp only [List.set_cons_succ]); (try simp only [List.set_cons_zero])
            refine wpAnyH_take (i := 15) (oi := { dst := some 134, op := Op.fieldAddr 34 (Operand.tmp 6) 0, type := 0, pos := "law.go:79", after := #[{ on := 12, ground := Ground.guard }], guard := some (12, false) }) (v := ?vk77) rfl (by kernel_rfl) (by kernel_rfl) (by kernel_rfl) (fun _ _ _ h => h) (Or.inl ⟨by rfl, ?hk77⟩) (S3.old ((Old.refl y2).drew) HFC.out) ?rk77
            case hk77 => (intro wz hSw; (try dsimp only at hSw); go_simp; try with_reducible rfl)
            (try simp only [Act.put]); (try simp only [List.setIfInBounds_toArray]); (try simp only [List.set_cons_succ]); (try simp only [List.set_cons_zero])
            refine wpAnyH_take (i := 16) (oi := { dst := some 135, op := Op.fieldAddr 32 (Operand.tmp 134) 0, type := 0, pos := "law.go:79", after := #[{ on := 15, ground := Ground.data }, { on := 12, ground := Ground.guard }], guard := some (12, false) }) (v := ?vk78) rfl (by kernel_rfl) (by kernel_rfl) (by kernel_rfl) (fun _ _ _ h => h) (Or.inl ⟨by rfl, ?hk78⟩) (S3.old ((Old.refl y2).drew) HFC.out) ?rk78
            case hk78 => (intro wz hSw; (try dsimp only at hSw); go_simp; try with_reducible rfl)
            (try simp only [Act.put]); (try simp only [List.setIfInBounds_toArray]); (try simp only [List.set_cons_succ]); (try simp only [List.set_cons_zero])
            refine wpAnyH_take (i := 17) (oi := { dst := some 136, op := Op.load 30 (Operand.tmp 135), type := 30, pos := "law.go:79", after := #[{ on := 16, ground := Ground.data }, { on := 12, ground := Ground.guard }], guard := some (12, false) }) (v := ?vk79) rfl (by kernel_rfl) (by kernel_rfl) (by kernel_rfl) (fun _ _ _ h => h) (Or.inl ⟨by rfl, ?hk79⟩) (S3.old ((Old.refl y2).drew) HFC.out) ?rk79
            case hk79 => (intro wz hSw; (try dsimp only at hSw); go_simp; try with_reducible rfl)
            (try simp only [Act.put]); (try simp only [List.setIfInBounds_toArray]); (try simp only [List.set_cons_succ]); (try simp only [List.set_cons_zero])
            refine wpAnyH_take (i := 18) (oi := { dst := some 137, op := Op.call { callee := Callee.builtin Builtin.len, args := #[Operand.tmp 136], argTypes := #[30] }, type := 3, pos := "law.go:79", after := #[{ on := 17, ground := Ground.data }, { on := 12, ground := Ground.guard }], guard := some (12, false) }) (v := ?vk80) rfl (by kernel_rfl) (by kernel_rfl) (by kernel_rfl) (fun _ _ _ h => h) (Or.inl ⟨by rfl, ?hk80⟩) (S3.old ((Old.refl y2).drew) HFC.out) ?rk80
            case hk80 => (intro wz hSw; (try dsimp only at hSw); go_simp; try with_reducible rfl)
            (try simp only [Act.put]); (try simp only [List.setIfInBounds_toArray]); (try simp only [List.set_cons_succ]); (try simp only [List.set_cons_zero])
            refine wpAnyH_take (i := 19) (oi := { dst := some 138, op := Op.binOp BinOp.neq 3 (Operand.tmp 133) (Operand.tmp 137) 3, type := 4, pos := "law.go:79", after := #[{ on := 14, ground := Ground.data }, { on := 18, ground := Ground.data }, { on := 12, ground := Ground.guard }], guard := some (12, false) }) (v := ?vk81) rfl (by kernel_rfl) (by kernel_rfl) (by kernel_rfl) (fun _ _ _ h => h) (Or.inl ⟨by rfl, ?hk81⟩) (S3.old ((Old.refl y2).drew) HFC.out) ?rk81
            case hk81 => (intro wz hSw; (try dsimp only at hSw); go_simp; try with_reducible rfl)
            (try simp only [Act.put]); (try simp only [List.setIfInBounds_toArray]); (try simp only [List.set_cons_succ]); (try simp only [List.set_cons_zero])
            refine wpAnyH_take (i := 20) (oi := { dst := some 139, op := Op.pick (Operand.tmp 131) (Operand.const (Value.bool true)) (Operand.tmp 138), type := 4, pos := "law.go:79", after := #[{ on := 12, ground := Ground.data }, { on := 19, ground := Ground.data }], guard := none }) (v := ?vk82) rfl (by kernel_rfl) (by kernel_rfl) (by kernel_rfl) (fun _ _ _ h => h) (Or.inl ⟨by rfl, ?hk82⟩) (S3.old ((Old.refl y2).drew) HFC.out) ?rk82
            case hk82 => (intro wz hSw; (try dsimp only at hSw); go_simp; try with_reducible rfl)
            (try simp only [Act.put]); (try simp only [List.setIfInBounds_toArray]); (try simp only [List.set_cons_succ]); (try simp only [List.set_cons_zero])
            refine wpAnyH_done (by kernel_rfl) ?_ _
            refine NoPanic.normal ?_
            have HQ3 := hid (HQ.out.old ((Old.refl y2).drew))
            have HC3 := hid ((Old.refl y2).drew)
            clear HFC HTm HVt
            generalize World.drew y2 = y3 at *
            obtain ⟨x0, x1, x2, x3, x4⟩ := box5 HQ3.out.box
            have l9 : ((m : Nat) : Int) ≤ 256 := by have := HQ3.out.len; have := HQ3.out.few; omega
            go_wp2
            generalize wr = wq at *
            go_loopw [144] (fun c wr => ∃ j : Nat, j ≤ m ∧ c = .int .i64 (j : Nat) ∧ Old y3 wr) (fun c _ => m - (intOf c).toNat)
            case atStart => exact ⟨0, Nat.zero_le _, rfl, Old.refl _⟩
            case round =>
              obtain ⟨j, hj, rfl, hU⟩ := hrel
              have HUr := hid hU
              clear hU
              by_cases hjl : j < m
              · have hil : j < Y.length := by rw [← HQ3.out.len]; exact hjl
                obtain ⟨gy, cy, qy, hyc, hym, ⟨y0, y1, yy⟩⟩ := HQ3.out.doc.row.at j hil
                obtain ⟨ey, -, ec⟩ := Value.slice.inj qy
                subst ey ec
                have k0 := HUr.out.keep y0
                have k1 := HUr.out.keep y1
                have k2 := HUr.out.keep yy
                have m2 : (0 : Int) ≤ (j : Int) := by omega
                have m3 : (j : Int) < (m : Int) := by omega
                rw [← HQ3.out.len] at hyc
                obtain ⟨gn, eg, ncell⟩ := HCell.out j hil
                subst eg
                have HBq := hid (HQ3.out.doc.byt _ (List.getElem_mem hil))
                have HRd := hid (HQ3.out.read (List.getElem_mem hil))
                have HNc := hid ncell
                clear y0 y1 yy qy ncell x0 x1 x2 x3 x4
                generalize Y[j] = y at *
                clear hil
                obtain ⟨nm, hnm⟩ : ∃ nm, nm = y.nm := ⟨_, rfl⟩
                rw [← hnm] at k0 HNc HRd
                clear hnm
                go_upto_region 38 with (fail)
                have HV := hid (show Old wr (wr.alloc (.cells #[.string nm, .slice y.na y.now.length y.nc, .slice y.sa y.safe.length y.sc] 51)) from (Old.refl wr).alloc _)
                have HB8 := hid (alloc_at wr (.cells #[.string nm, .slice y.na y.now.length y.nc, .slice y.sa y.safe.length y.sc] 51))
                clear k0 k1 k2
                generalize wr.alloc (.cells #[.string nm, .slice y.na y.now.length y.nc, .slice y.sa y.safe.length y.sc] 51) = w5 at *
                obtain ⟨b8, hb8⟩ : ∃ b8, b8 = wr.heap.size := ⟨_, rfl⟩
                rw [← hb8] at HB8 ⊢
                clear hb8
                have HU5 := hid (HUr.out.trans HV.out)
                obtain ⟨t8, t9, -, -, -, -⟩ := box3 HB8.out
                have HR1 := hid (show Calls Tryz.prog 16 #[.pointer (some ⟨db, 0, none⟩), .string nm] w5 fun e w' => ∃ v' rc, e = .returned (.tuple #[v', .int .i64 rc]) ∧ Own w' v' y.now ∧ Old w5 w' from (readD w w5 db _ _ nm (HQ3.out.disk.old HU5.out)).mono fun e w' q => by obtain ⟨v', q1, q2, q3, -⟩ := q; rw [HRd.out] at q2; exact ⟨v', _, q1, q2, q3⟩)
                go_upto_region 39 with (go_at_call 16; refine HR1.out.mono ?_; rintro e w8 ⟨v8, rc, rfl, o8, u8⟩; obtain ⟨a8, c8, e8⟩ := o8.len; subst e8; have O8 := hid o8; have U8 := hid u8; clear o8 u8)
                clear t8 t9
                obtain ⟨t8, t9, -, -, -, -⟩ := box3 (U8.out.block HB8.out)
                have HU8 := hid (HU5.out.trans U8.out)
                have hg1 := (box5 (HU8.out.block HQ3.out.box)).2.1
                have HF := hid (And.intro ((HC3.out.trans HU8.out).keep HNc.out) (And.intro t8 (And.intro t9 hg1)))
                clear t8 t9 hg1
                have HSm := hid (fun (W' : World) (u : Old w8 W') => sameL (.slice a8 y.now.length c8) (.slice y.na y.now.length y.nc) y.now W' (O8.out.old u).row (HBq.out.1.old (HU8.out.trans u)).row)
                refine wp_region_noPanic ?_
                refine wp_region_held_drew (S := fun wz => wz.cell? ⟨gn, j, none⟩ = some (.string nm) ∧ wz.cell? ⟨b8, 0, none⟩ = some (.string nm) ∧ wz.cell? ⟨b8, 1, none⟩ = some (.slice y.na y.now.length y.nc) ∧ wz.cell? ⟨gm, 1, none⟩ = some (.bool false)) (by kernel_rfl) ?_ (fun hHeld => ?_)
                · exact (S4x.old ((Old.refl w8).drew) HF.out)
                (try simp only [Act.put]); (try simp only [List.setIfInBounds_toArray]); (try simp only [List.set_cons_succ]); (try simp only [List.set_cons_zero])
                clear hHeld
                refine wpAnyH_take (i := 0) (oi := { dst := some 156, op := Op.move (Operand.tmp 18), type := 45, pos := "law.go:84", after := #[], guard := none }) (v := ?vk42) rfl (by kernel_rfl) (by kernel_rfl) (by kernel_rfl) (fun _ _ _ h => h) (Or.inl ⟨by rfl, ?hk42⟩) (S4x.old ((Old.refl w8).drew) HF.out) ?rk42
                case hk42 => (intro wz hSw; (try dsimp only at hSw); go_simp; try with_reducible rfl)
                (try simp only [Act.put]); (try simp only [List.setIfInBounds_toArray]); (try simp only [List.set_cons_succ]); (try simp only [List.set_cons_zero])
                refine wpAnyH_take (i := 1) (oi := { dst := some 157, op := Op.move (Operand.tmp 19), type := 3, pos := "law.go:84", after := #[], guard := none }) (v := ?vk43) rfl (by kernel_rfl) (by kernel_rfl) (by kernel_rfl) (fun _ _ _ h => h) (Or.inl ⟨by rfl, ?hk43⟩) (S4x.old ((Old.refl w8).drew) HF.out) ?rk43
                case hk43 => (intro wz hSw; (try dsimp only at hSw); go_simp; try with_reducible rfl)
                (try simp only [Act.put]); (try simp only [List.setIfInBounds_toArray]); (try simp only [List.set_cons_succ]); (try simp only [List.set_cons_zero])
                refine wpAnyH_take (i := 2) (oi := { dst := some 158, op := Op.indexAddr 45 (Operand.tmp 156) (Operand.tmp 157), type := 0, pos := "law.go:84", after := #[{ on := 0, ground := Ground.data }, { on := 1, ground := Ground.data }], guard := none }) (v := ?vk44) rfl (by kernel_rfl) (by kernel_rfl) (by kernel_rfl) (fun _ _ _ h => h) (Or.inl ⟨by rfl, ?hk44⟩) (S4x.old ((Old.refl w8).drew) HF.out) ?rk44
                case hk44 => (intro wz hSw; (try dsimp only at hSw); go_simp; try with_reducible rfl)
                (try simp only [Act.put]); (try simp only [List.setIfInBounds_toArray]); (try simp only [List.set_cons_succ]); (try simp only [List.set_cons_zero])
                refine wpAnyH_take (i := 3) (oi := { dst := some 159, op := Op.load 9 (Operand.tmp 158), type := 9, pos := "law.go:84", after := #[{ on := 2, ground := Ground.data }], guard := none }) (v := ?vk45) rfl (by kernel_rfl) (by kernel_rfl) (by kernel_rfl) (fun _ _ _ h => h) (Or.inl ⟨by rfl, ?hk45⟩) (S4x.old ((Old.refl w8).drew) HF.out) ?rk45
                case hk45 => (intro wz hSw; (try dsimp only at hSw); go_simp; try with_reducible rfl)
                (try simp only [Act.put]); (try simp only [List.setIfInBounds_toArray]); (try simp only [List.set_cons_succ]); (try simp only [List.set_cons_zero])
                refine wpAnyH_take (i := 4) (oi := { dst := some 160, op := Op.fieldAddr 51 (Operand.tmp 20) 0, type := 0, pos := "law.go:84", after := #[], guard := none }) (v := ?vk46) rfl (by kernel_rfl) (by kernel_rfl) (by kernel_rfl) (fun _ _ _ h => h) (Or.inl ⟨by rfl, ?hk46⟩) (S4x.old ((Old.refl w8).drew) HF.out) ?rk46
                case hk46 => (intro wz hSw; (try dsimp only at hSw); go_simp; try with_reducible rfl)
                (try simp only [Act.put]); (try simp only [List.setIfInBounds_toArray]); (try simp only [List.set_cons_succ]); (try simp only [List.set_cons_zero])
                refine wpAnyH_take (i := 5) (oi := { dst := some 161, op := Op.load 9 (Operand.tmp 160), type := 9, pos := "law.go:84", after := #[{ on := 4, ground := Ground.data }], guard := none }) (v := ?vk47) rfl (by kernel_rfl) (by kernel_rfl) (by kernel_rfl) (fun _ _ _ h => h) (Or.inl ⟨by rfl, ?hk47⟩) (S4x.old ((Old.refl w8).drew) HF.out) ?rk47
                case hk47 => (intro wz hSw; (try dsimp only at hSw); go_simp; try with_reducible rfl)
                (try simp only [Act.put]); (try simp only [List.setIfInBounds_toArray]); (try simp only [List.set_cons_succ]); (try simp only [List.set_cons_zero])
                refine wpAnyH_take (i := 6) (oi := { dst := some 162, op := Op.binOp BinOp.neq 9 (Operand.tmp 159) (Operand.tmp 161) 9, type := 4, pos := "law.go:84", after := #[{ on := 3, ground := Ground.data }, { on := 5, ground := Ground.data }], guard := none }) (v := ?vk48) rfl (by kernel_rfl) (by kernel_rfl) (by kernel_rfl) (fun _ _ _ h => h) (Or.inl ⟨by rfl, ?hk48⟩) (S4x.old ((Old.refl w8).drew) HF.out) ?rk48
                case hk48 => (intro wz hSw; (try dsimp only at hSw); go_simp; try with_reducible rfl)
                (try simp only [Act.put]); (try simp only [List.setIfInBounds_toArray]); (try simp only [List.set_cons_succ]); (try simp only [List.set_cons_zero])
                refine wpAnyH_take (i := 7) (oi := { dst := some 163, op := Op.move (Operand.tmp 162), type := 4, pos := "law.go:84", after := #[{ on := 6, ground := Ground.data }], guard := none }) (v := ?vk49) rfl (by kernel_rfl) (by kernel_rfl) (by kernel_rfl) (fun _ _ _ h => h) (Or.inl ⟨by rfl, ?hk49⟩) (S4x.old ((Old.refl w8).drew) HF.out) ?rk49
                case hk49 => (intro wz hSw; (try dsimp only at hSw); go_simp; try with_reducible rfl)
                (try simp only [Act.put]); (try simp only [List.setIfInBounds_toArray]); (try simp only [List.set_cons_succ]); (try simp only [List.set_cons_zero])
                refine wpAnyH_take (i := 8) (oi := { dst := some 164, op := Op.fieldAddr 34 (Operand.tmp 6) 0, type := 0, pos := "law.go:84", after := #[{ on := 7, ground := Ground.guard }], guard := some (7, false) }) (v := ?vk50) rfl (by kernel_rfl) (by kernel_rfl) (by kernel_rfl) (fun _ _ _ h => h) (Or.inl ⟨by rfl, ?hk50⟩) (S4x.old ((Old.refl w8).drew) HF.out) ?rk50
                case hk50 => (intro wz hSw; (try dsimp only at hSw); go_simp; try with_reducible rfl)
                (try simp only [Act.put]); (try simp only [List.setIfInBounds_toArray]); (try simp only [List.set_cons_succ]); (try simp only [List.set_cons_zero])
                refine wpAnyH_take (i := 9) (oi := { dst := some 165, op := Op.fieldAddr 32 (Operand.tmp 164) 1, type := 0, pos := "law.go:84", after := #[{ on := 8, ground := Ground.data }, { on := 7, ground := Ground.guard }], guard := some (7, false) }) (v := ?vk51) rfl (by kernel_rfl) (by kernel_rfl) (by kernel_rfl) (fun _ _ _ h => h) (Or.inl ⟨by rfl, ?hk51⟩) (S4x.old ((Old.refl w8).drew) HF.out) ?rk51
                case hk51 => (intro wz hSw; (try dsimp only at hSw); go_simp; try with_reducible rfl)
                (try simp only [Act.put]); (try simp only [List.setIfInBounds_toArray]); (try simp only [List.set_cons_succ]); (try simp only [List.set_cons_zero])
                refine wpAnyH_take (i := 10) (oi := { dst := some 166, op := Op.load 4 (Operand.tmp 165), type := 4, pos := "law.go:84", after := #[{ on := 9, ground := Ground.data }, { on := 7, ground := Ground.guard }], guard := some (7, false) }) (v := ?vk52) rfl (by kernel_rfl) (by kernel_rfl) (by kernel_rfl) (fun _ _ _ h => h) (Or.inl ⟨by rfl, ?hk52⟩) (S4x.old ((Old.refl w8).drew) HF.out) ?rk52
                case hk52 => (intro wz hSw; (try dsimp only at hSw); go_simp; try with_reducible rfl)
                (try simp only [Act.put]); (try simp only [List.setIfInBounds_toArray]); (try simp only [List.set_cons_succ]); (try simp only [List.set_cons_zero])
                refine wpAnyH_take (i := 11) (oi := { dst := some 167, op := Op.unOp UnOp.not 4 (Operand.tmp 166), type := 4, pos := "law.go:84", after := #[{ on := 10, ground := Ground.data }, { on := 7, ground := Ground.guard }], guard := some (7, false) }) (v := ?vk53) rfl (by kernel_rfl) (by kernel_rfl) (by kernel_rfl) (fun _ _ _ h => h) (Or.inl ⟨by rfl, ?hk53⟩) (S4x.old ((Old.refl w8).drew) HF.out) ?rk53
                case hk53 => (intro wz hSw; (try dsimp only at hSw); go_simp; try with_reducible rfl)
                (try simp only [Act.put]); (try simp only [List.setIfInBounds_toArray]); (try simp only [List.set_cons_succ]); (try simp only [List.set_cons_zero])
                refine wpAnyH_take (i := 12) (oi := { dst := some 168, op := Op.move (Operand.tmp 167), type := 4, pos := "law.go:84", after := #[{ on := 11, ground := Ground.data }, { on := 7, ground := Ground.chain }, { on := 7, ground := Ground.guard }], guard := some (7, false) }) (v := ?vk54) rfl (by kernel_rfl) (by kernel_rfl) (by kernel_rfl) (fun _ _ _ h => h) (Or.inl ⟨by rfl, ?hk54⟩) (S4x.old ((Old.refl w8).drew) HF.out) ?rk54
                case hk54 => (intro wz hSw; (try dsimp only at hSw); go_simp; try with_reducible rfl)
                (try simp only [Act.put]); (try simp only [List.setIfInBounds_toArray]); (try simp only [List.set_cons_succ]); (try simp only [List.set_cons_zero])
                refine wpAnyH_take (i := 13) (oi := { dst := some 169, op := Op.move (Operand.tmp 21), type := 49, pos := "law.go:84", after := #[{ on := 12, ground := Ground.guard }], guard := some (12, true) }) (v := ?vk55) rfl (by kernel_rfl) (by kernel_rfl) (by kernel_rfl) (fun _ _ _ h => h) (Or.inl ⟨by rfl, ?hk55⟩) (S4x.old ((Old.refl w8).drew) HF.out) ?rk55
                case hk55 => (intro wz hSw; (try dsimp only at hSw); go_simp; try with_reducible rfl)
                (try simp only [Act.put]); (try simp only [List.setIfInBounds_toArray]); (try simp only [List.set_cons_succ]); (try simp only [List.set_cons_zero])
                refine wpAnyH_take (i := 14) (oi := { dst := some 170, op := Op.fieldAddr 51 (Operand.tmp 20) 1, type := 0, pos := "law.go:84", after := #[{ on := 12, ground := Ground.guard }], guard := some (12, true) }) (v := ?vk56) rfl (by kernel_rfl) (by kernel_rfl) (by kernel_rfl) (fun _ _ _ h => h) (Or.inl ⟨by rfl, ?hk56⟩) (S4x.old ((Old.refl w8).drew) HF.out) ?rk56
                case hk56 => (intro wz hSw; (try dsimp only at hSw); go_simp; try with_reducible rfl)
                (try simp only [Act.put]); (try simp only [List.setIfInBounds_toArray]); (try simp only [List.set_cons_succ]); (try simp only [List.set_cons_zero])
                refine wpAnyH_take (i := 15) (oi := { dst := some 171, op := Op.load 49 (Operand.tmp 170), type := 49, pos := "law.go:84", after := #[{ on := 14, ground := Ground.data }, { on := 12, ground := Ground.guard }], guard := some (12, true) }) (v := ?vk57) rfl (by kernel_rfl) (by kernel_rfl) (by kernel_rfl) (fun _ _ _ h => h) (Or.inl ⟨by rfl, ?hk57⟩) (S4x.old ((Old.refl w8).drew) HF.out) ?rk57
                case hk57 => (intro wz hSw; (try dsimp only at hSw); go_simp; try with_reducible rfl)
                (try simp only [Act.put]); (try simp only [List.setIfInBounds_toArray]); (try simp only [List.set_cons_succ]); (try simp only [List.set_cons_zero])
                refine wpAnyH_ready (rs := [16]) (by kernel_rfl) (by simp) ?_
                refine AllReadyH.cons (o := { dst := some 172, op := Op.call { callee := Callee.value (Operand.func 17), args := #[Operand.tmp 169, Operand.tmp 171], argTypes := #[49, 49] }, type := 4, pos := "law.go:84", after := #[{ on := 13, ground := Ground.data }, { on := 15, ground := Ground.data }, { on := 12, ground := Ground.chain }, { on := 12, ground := Ground.guard }], guard := some (12, true) }) rfl (fun K hK => ?_) AllReadyH.nil
                refine wantCall2 ?_ 17 (.tmp 169) (.tmp 171) #[49, 49] ?_ (.slice a8 y.now.length c8) (.slice y.na y.now.length y.nc) ?_ ?_ ?_ ((enters_of Tryz.func17 (by kernel_rfl) rfl) _ _) ?_
                · rfl
                · rfl
                · rfl
                · rfl
                · rfl
                refine (HSm.out _ ((Old.refl w8).drew)).mono ?_
                rintro o x58 ⟨rfl, bq58⟩
                refine ⟨_, rfl, ?_⟩
                have UU58 := Old.trans (((Old.refl w8).drew)) bq58
                refine hK.out _ _ (S4x.old UU58 HF.out) (fun _ => ?_)
                clear hK K
                (try simp only [Act.put]); (try simp only [List.setIfInBounds_toArray]); (try simp only [List.set_cons_succ]); (try simp only [List.set_cons_zero])
                refine wpAnyH_take (i := 17) (oi := { dst := some 173, op := Op.unOp UnOp.not 4 (Operand.tmp 172), type := 4, pos := "law.go:84", after := #[{ on := 16, ground := Ground.data }, { on := 12, ground := Ground.guard }], guard := some (12, true) }) (v := ?vk59) rfl (by kernel_rfl) (by kernel_rfl) (by kernel_rfl) (fun _ _ _ h => h) (Or.inl ⟨by rfl, ?hk59⟩) (S4x.old UU58 HF.out) ?rk59
                case hk59 => (intro wz hSw; (try dsimp only at hSw); go_simp; try with_reducible rfl)
                (try simp only [Act.put]); (try simp only [List.setIfInBounds_toArray]); (try simp only [List.set_cons_succ]); (try simp only [List.set_cons_zero])
                refine wpAnyH_take (i := 18) (oi := { dst := some 174, op := Op.pick (Operand.tmp 168) (Operand.tmp 173) (Operand.const (Value.bool false)), type := 4, pos := "law.go:84", after := #[{ on := 12, ground := Ground.data }, { on := 17, ground := Ground.data }, { on := 7, ground := Ground.guard }], guard := some (7, false) }) (v := ?vk60) rfl (by kernel_rfl) (by kernel_rfl) (by kernel_rfl) (fun _ _ _ h => h) (Or.inl ⟨by rfl, ?hk60⟩) (S4x.old UU58 HF.out) ?rk60
                case hk60 => (intro wz hSw; (try dsimp only at hSw); go_simp; try with_reducible rfl)
                (try simp only [Act.put]); (try simp only [List.setIfInBounds_toArray]); (try simp only [List.set_cons_succ]); (try simp only [List.set_cons_zero])
                refine wpAnyH_take (i := 19) (oi := { dst := some 175, op := Op.pick (Operand.tmp 163) (Operand.const (Value.bool true)) (Operand.tmp 174), type := 4, pos := "law.go:84", after := #[{ on := 7, ground := Ground.data }, { on := 18, ground := Ground.data }], guard := none }) (v := ?vk61) rfl (by kernel_rfl) (by kernel_rfl) (by kernel_rfl) (fun _ _ _ h => h) (Or.inl ⟨by rfl, ?hk61⟩) (S4x.old UU58 HF.out) ?rk61
                case hk61 => (intro wz hSw; (try dsimp only at hSw); go_simp; try with_reducible rfl)
                (try simp only [Act.put]); (try simp only [List.setIfInBounds_toArray]); (try simp only [List.set_cons_succ]); (try simp only [List.set_cons_zero])
                refine wpAnyH_done (by kernel_rfl) ?_ _
                refine NoPanic.normal ?_
                have HUx := hid (HU8.out.trans UU58)
                go_wp2
                go_roundw
                case rel => exact ⟨j + 1, hjl, by go_num, HUx.out⟩
                case measure => simp [intOf]; omega
              · have m3 : ¬ (j : Int) < (m : Int) := by omega
                have HFin := hid (HQ3.out.old HUr.out)
                clear x0 x1 x2 x3 x4
                go_wp2
                go_roundw
                case rel => exact ⟨i + 1, hk, false, p', t0, v0, a, m, cc, Y, false, fu2, t0, v0, by omega, rfl, rfl, by go_num, HFin.out⟩
                case measure => simp [intOf]; omega
        · by_cases c3 : ok = 3
          · subst c3
            have HCr := hid (crashD w wx db p (hk :: gm :: docB (.slice a m cc) Y ++ [X]) _ okp HDx.out (HOk.out.2.2.1.old HPx.out.disk.base) HOk.out.2.2.2.1 (fun h0 g e => .inl (HOk.out.2.2.2.2 h0 g e)))
            go_upto_region 24 with (go_at_call 11; refine HCr.out.mono ?_; rintro e w6 ⟨rfl, S, hS1, hS2, d6, q6⟩; have D6 := hid d6; have Q6 := hid q6; have HRl := hid (HPx.out.rel.crash HPx.out.disk.nod S okp hS1 hS2); have HOp := hid (open_rel HRl.out D6.out.nod rfl rfl (kf_crash HPx.out.kf S okp)); clear d6 q6 hS1 hS2)
            clear HRl HCr
            generalize crashP p S okp = q at *
            obtain ⟨⟨o1, o2⟩, ho⟩ : ∃ o, opV q = o := ⟨_, rfl⟩
            rw [ho] at HOp
            have HOn := hid (show Calls Tryz.prog 6 #[.pointer (some ⟨db, 0, none⟩)] w6 (OkPost w w6 db (hk :: gm :: docB (.slice a m cc) Y ++ [X]) (opP q) (o1, o2)) from by rw [← ho]; exact open_ok w w6 db q (hk :: gm :: docB (.slice a m cc) Y ++ [X]) D6.out HT.out HOp.out.2.2.2)
            clear ho
            generalize opP q = p' at *
            go_upto_region 25 with (go_at_call 6; refine HOn.out.mono ?_; rintro e w7 ⟨hn, rfl, d7, b7, l7, q7⟩; have D7 := hid d7; have B7 := hid (show w7.heap[hn]? = some (.cells #[.pointer (some ⟨db, 0, none⟩), .int .i64 o1, .int .i64 o2] 65 (0, 0)) from b7); have L7 := hid l7; have Q7 := hid (Q6.out.trans q7); clear d7 b7 l7 q7)
            have M7 := hid (HPx.out.mid (Q7.out.sub (fun g hg => List.mem_append_left _ (List.mem_cons_of_mem _ hg))))
            have X7 := hid (Q7.out.at (by simp) HX.out)
            clear b0 b1 b2 b3 b4 HOn
            obtain ⟨b0, b1, b2, b3, b4⟩ := box5 X7.out
            obtain ⟨e0, e1, e2, e3, e4⟩ := box5 M7.out.1
            have HDc := hid (show Calls Tryz.prog 12 #[.agg #[.slice a m cc, .bool dn, .int .i64 fu], .slice pk lk ck] w7 (CPost w7 (docB (.slice a m cc) Y) (crD (Y.map Fi.p) okp)) from by have q := rcrash_any a cc Y dn fu (.slice pk lk ck) okp w7 (by rw [← HPx.out.len]; exact M7.out.2) HPx.out.few (HOk.out.2.2.1.old D7.out.base); rw [← HPx.out.len] at q; exact q)
            have HDo := hid (fun (W' : World) (a8 : Option Addr) (c8 : Nat) (Z8 : List Fi) (hd : DocAt W' (.slice a8 Z8.length c8) Z8) (hz : Z8.map Fi.p = crD (Y.map Fi.p) okp) => show Calls Tryz.prog 7 #[.agg #[.slice a8 Z8.length c8, .bool false, .int .i64 0]] W' (OP W' (docB (.slice a8 Z8.length c8) Z8) (opF (crD (Y.map Fi.p) okp)) false 0 o1 o2 0) from by
              have hl : Z8.length ≤ 256 := by
                have e := congrArg List.length hz
                rw [List.length_map, crD_few, List.length_map] at e
                have := HPx.out.few
                omega
              have hn2 : ((Z8.map Fi.p).map (·.1)).Nodup := by
                rw [hz]
                have e := crD_keys (Y.map Fi.p) okp
                unfold keysP at e
                rw [e]
                exact HPx.out.nod
              have r := ropen_any W' a8 c8 Z8 hd hl hn2
              rw [hz, HOp.out.2.2.1] at r
              exact r)
            go_upto_region 26 with (first | (go_at_call 12; refine HDc.out.mono ?_; rintro e w8 ⟨a8, c8, Z8, rfl, d8, z8, u8, g8⟩; have D8 := hid d8; have ZZ8 := hid z8; have U8 := hid u8; have G8 := hid g8; clear d8 z8 u8 g8) | (go_at_call 7; refine (HDo.out _ a8 c8 Z8 D8.out ZZ8.out).mono ?_; rintro e w9 ⟨a9, c9, Z9, rfl, d9, z9, u9, g9⟩; have D9 := hid d9; have ZZ9 := hid z9; have U9 := hid u9; have G9 := hid g9; clear d9 z9 u9 g9))
            have V9 := hid (show Old w9 (w9.alloc (.cells #[.slice a9 Z9.length c9, .bool false, .int .i64 0, .int .i64 o1, .int .i64 o2] 34)) from (Old.refl w9).alloc _)
            have X9 := hid (alloc_at w9 (.cells #[.slice a9 Z9.length c9, .bool false, .int .i64 0, .int .i64 o1, .int .i64 o2] 34))
            have UV := hid (U8.out.trans (U9.out.trans V9.out))
            have HPn := hid (show HAt w ((((((w9.alloc (.cells #[.slice a9 Z9.length c9, .bool false, .int .i64 0, .int .i64 o1, .int .i64 o2] 34)).setCell ⟨gm, 0, none⟩ (.slice a9 Z9.length c9)).setCell ⟨gm, 1, none⟩ (.bool false)).setCell ⟨gm, 2, none⟩ (.int .i64 0)).setCell ⟨gm, 3, none⟩ (.int .i64 o1)).setCell ⟨gm, 4, none⟩ (.int .i64 o2)) db hn gm p' o1 o2 a9 Z9.length c9 Z9 false 0 o1 o2 false from
              HAt.put (a := a9) (c := c9) (Z := Z9) (dn := false) (fu := 0) (t1 := o1) (v1 := o2) (br := false) D7.out UV.out ⟨by simp, by simp⟩ B7.out (UV.out.block M7.out.1) (D9.out.old V9.out) (fun g hg => by
                rcases G9.out g hg with z | z
                · rcases G8.out g z with y | y
                  · exact .inl (List.mem_append_left _ (List.mem_append_left _ (List.mem_cons_of_mem _ (List.mem_cons_of_mem _ y))))
                  · exact .inr y
                · exact .inr (Nat.le_trans U8.out.size z)) (by rw [ZZ9.out]; exact HOp.out.1) HPx.out.low L7.out HOp.out.2.1.kf (fun _ => ⟨HOp.out.2.1, rfl, rfl⟩))
            clear e0 e1 e2 e3 e4 b0 b1 b2 b3 b4
            obtain ⟨e0, e1, e2, e3, e4⟩ := box5 (UV.out.block M7.out.1)
            obtain ⟨f0, f1, f2, f3, f4⟩ := box5f (UV.out.block M7.out.1)
            obtain ⟨x0, x1, x2, x3, x4⟩ := box5 X9.out
            go_upto_region 27 with (fail)
            clear e0 e1 e2 e3 e4 f0 f1 f2 f3 f4 x0 x1 x2 x3 x4 X9 V9 UV D7 D8 D9 U8 U9 M7 X7 B7 Q7 Q6 D6 HPx HDx HDc HDo HOp G8 G9 ZZ8 ZZ9
            generalize ((((((w9.alloc (.cells #[.slice a9 Z9.length c9, .bool false, .int .i64 0, .int .i64 o1, .int .i64 o2] 34)).setCell ⟨gm, 0, none⟩ (.slice a9 Z9.length c9)).setCell ⟨gm, 1, none⟩ (.bool false)).setCell ⟨gm, 2, none⟩ (.int .i64 0)).setCell ⟨gm, 3, none⟩ (.int .i64 o1)).setCell ⟨gm, 4, none⟩ (.int .i64 o2)) = w10 at *
            obtain ⟨m9, hm9⟩ : ∃ m9, m9 = Z9.length := ⟨_, rfl⟩
            rw [← hm9] at HPn
            clear hm9
            go_upto_region 31 with (fail)
            go_upto_region 33 with (go_at_call 13; refine (namesD w _ db _ _ HPn.out.disk).mono ?_; rintro e y2 ⟨vn, S4, rfl, hS4, hP4, oS4, u4⟩; have HS4 := hid (And.intro hS4 hP4); have O4 := hid oS4; have U4 := hid u4; clear u4 hS4 hP4 oS4)
            obtain ⟨a4, c4, e4, lc4, lm4, hcell⟩ := O4.out.at5
            have eS : S4 = keysP (Z9.map Fi.p) := rise_eq HS4.out.1 (HPn.out.rel.perm.map _) HS4.out.2 HPn.out.rel.rise
            have eL : S4.length = m9 := by rw [eS]; unfold keysP; rw [List.length_map, List.length_map, HPn.out.len]
            have HCell := hid (show ∀ i (hi : i < Z9.length), ∃ g, a4 = some ⟨g, 0, none⟩ ∧ y2.cell? ⟨g, i, none⟩ = some (.string Z9[i].nm) from fun i hi => by
              obtain ⟨g, e, c⟩ := hcell i (by rw [eL, HPn.out.len]; exact hi)
              refine ⟨g, e, ?_⟩
              rw [c]
              congr 2
              subst eS
              simp [keysP, Fi.p])
            rw [eL] at e4 lc4
            subst e4
            clear hcell eS eL HS4 O4
            have HQ := hid (HPn.out.old U4.out)
            obtain ⟨x0, x1, x2, x3, x4⟩ := box5 HQ.out.box
            have HFC := hid (show y2.cell? ⟨gm, 0, none⟩ = some (.slice a9 m9 c9) ∧ y2.cell? ⟨gm, 3, none⟩ = some (.int .i64 o1) ∧ y2.cell? ⟨gm, 4, none⟩ = some (.int .i64 o2) from ⟨x0, x3, x4⟩)
            have HTm := hid (fun (W' : World) (u : Old y2 W') => term_any hn _ o1 o2 W' (u.block HQ.out.hbox))
            have HVt := hid (fun (W' : World) (u : Old y2 W') => vote_any hn _ o1 o2 W' (u.block HQ.out.hbox))
            clear x0 x1 x2 x3 x4
            refine wp_region_noPanic ?_
            refine wp_region_held_drew (S := fun wz => wz.cell? ⟨gm, 0, none⟩ = some (.slice a9 m9 c9) ∧ wz.cell? ⟨gm, 3, none⟩ = some (.int .i64 o1) ∧ wz.cell? ⟨gm, 4, none⟩ = some (.int .i64 o2)) (by kernel_rfl) ?_ (fun hHeld => ?_)
            · exact (S3.old ((Old.refl y2).drew) HFC.out)
            (try simp only [Act.put]); (try simp only [List.setIfInBounds_toArray]); (try simp only [List.set_cons_succ]); (try simp only [List.set_cons_zero])
            clear hHeld
            refine wpAnyH_take (i := 0) (oi := { dst := some 119, op := Op.move (Operand.tmp 4), type := 26, pos := "law.go:79", after := #[], guard := none }) (v := ?vk103) rfl (by kernel_rfl) (by kernel_rfl) (by kernel_rfl) (fun _ _ _ h => h) (Or.inl ⟨by rfl, ?hk103⟩) (S3.old ((Old.refl y2).drew) HFC.out) ?rk103
            case hk103 => (intro wz hSw; (try dsimp only at hSw); go_simp; try with_reducible rfl)
            (try simp only [Act.put]); (try simp only [List.setIfInBounds_toArray]); (try simp only [List.set_cons_succ]); (try simp only [List.set_cons_zero])
            refine wpAnyH_take (i := 2) (oi := { dst := some 121, op := Op.fieldAddr 34 (Operand.tmp 6) 1, type := 0, pos := "law.go:79", after := #[], guard := none }) (v := ?vk104) rfl (by kernel_rfl) (by kernel_rfl) (by kernel_rfl) (fun _ _ _ h => h) (Or.inl ⟨by rfl, ?hk104⟩) (S3.old ((Old.refl y2).drew) HFC.out) ?rk104
            case hk104 => (intro wz hSw; (try dsimp only at hSw); go_simp; try with_reducible rfl)
            (try simp only [Act.put]); (try simp only [List.setIfInBounds_toArray]); (try simp only [List.set_cons_succ]); (try simp only [List.set_cons_zero])
            refine wpAnyH_take (i := 3) (oi := { dst := some 122, op := Op.load 2 (Operand.tmp 121), type := 2, pos := "law.go:79", after := #[{ on := 2, ground := Ground.data }], guard := none }) (v := ?vk105) rfl (by kernel_rfl) (by kernel_rfl) (by kernel_rfl) (fun _ _ _ h => h) (Or.inl ⟨by rfl, ?hk105⟩) (S3.old ((Old.refl y2).drew) HFC.out) ?rk105
            case hk105 => (intro wz hSw; (try dsimp only at hSw); go_simp; try with_reducible rfl)
            (try simp only [Act.put]); (try simp only [List.setIfInBounds_toArray]); (try simp only [List.set_cons_succ]); (try simp only [List.set_cons_zero])
            refine wpAnyH_ready (rs := [1]) (by kernel_rfl) (by simp) ?_
            refine AllReadyH.cons (o := { dst := some 120, op := Op.call { callee := Callee.value (Operand.func 14), args := #[Operand.tmp 119], argTypes := #[26] }, type := 2, pos := "law.go:79", after := #[{ on := 0, ground := Ground.data }], guard := none }) rfl (fun K hK => ?_) AllReadyH.nil
            refine wantCall1 ?_ 14 (.tmp 119) #[26] ?_ (.pointer (some ⟨hn, 0, none⟩)) ?_ ?_ ((enters_of Tryz.func14 (by kernel_rfl) rfl) _ _) ?_
            · rfl
            · rfl
            · rfl
            · rfl
            refine (HTm.out _ ((Old.refl y2).drew)).mono ?_
            rintro o x106 ⟨rfl, hx106⟩
            subst hx106
            refine ⟨_, rfl, ?_⟩
            refine hK.out _ _ (S3.old ((Old.refl y2).drew) HFC.out) (fun _ => ?_)
            clear hK K
            (try simp only [Act.put]); (try simp only [List.setIfInBounds_toArray]); (try simp only [List.set_cons_succ]); (try simp only [List.set_cons_zero])
            refine wpAnyH_take (i := 4) (oi := { dst := some 123, op := Op.binOp BinOp.neq 2 (Operand.tmp 120) (Operand.tmp 122) 2, type := 4, pos := "law.go:79", after := #[{ on := 1, ground := Ground.data }, { on := 3, ground := Ground.data }], guard := none }) (v := ?vk107) rfl (by kernel_rfl) (by kernel_rfl) (by kernel_rfl) (fun _ _ _ h => h) (Or.inl ⟨by rfl, ?hk107⟩) (S3.old ((Old.refl y2).drew) HFC.out) ?rk107
            case hk107 => (intro wz hSw; (try dsimp only at hSw); go_simp; try with_reducible rfl)
            (try simp only [Act.put]); (try simp only [List.setIfInBounds_toArray]); (try simp only [List.set_cons_succ]); (try simp only [List.set_cons_zero])
            refine wpAnyH_take (i := 5) (oi := { dst := some 124, op := Op.move (Operand.tmp 123), type := 4, pos := "law.go:79", after := #[{ on := 4, ground := Ground.data }, { on := 1, ground := Ground.chain }], guard := none }) (v := ?vk108) rfl (by kernel_rfl) (by kernel_rfl) (by kernel_rfl) (fun _ _ _ h => h) (Or.inl ⟨by rfl, ?hk108⟩) (S3.old ((Old.refl y2).drew) HFC.out) ?rk108
            case hk108 => (intro wz hSw; (try dsimp only at hSw); go_simp; try with_reducible rfl)
            (try simp only [Act.put]); (try simp only [List.setIfInBounds_toArray]); (try simp only [List.set_cons_succ]); (try simp only [List.set_cons_zero])
            refine wpAnyH_take (i := 6) (oi := { dst := some 125, op := Op.move (Operand.tmp 4), type := 26, pos := "law.go:79", after := #[{ on := 5, ground := Ground.guard }], guard := some (5, false) }) (v := ?vk109) rfl (by kernel_rfl) (by kernel_rfl) (by kernel_rfl) (fun _ _ _ h => h) (Or.inl ⟨by rfl, ?hk109⟩) (S3.old ((Old.refl y2).drew) HFC.out) ?rk109
            case hk109 => (intro wz hSw; (try dsimp only at hSw); go_simp; try with_reducible rfl)
            (try simp only [Act.put]); (try simp only [List.setIfInBounds_toArray]); (try simp only [List.set_cons_succ]); (try simp only [List.set_cons_zero])
            refine wpAnyH_take (i := 8) (oi := { dst := some 127, op := Op.fieldAddr 34 (Operand.tmp 6) 2, type := 0, pos := "law.go:79", after := #[{ on := 5, ground := Ground.guard }], guard := some (5, false) }) (v := ?vk110) rfl (by kernel_rfl) (by kernel_rfl) (by kernel_rfl) (fun _ _ _ h => h) (Or.inl ⟨by rfl, ?hk110⟩) (S3.old ((Old.refl y2).drew) HFC.out) ?rk110
            case hk110 => (intro wz hSw; (try dsimp only at hSw); go_simp; try with_reducible rfl)
            (try simp only [Act.put]); (try simp only [List.setIfInBounds_toArray]); (try simp only [List.set_cons_succ]); (try simp only [List.set_cons_zero])
            refine wpAnyH_take (i := 9) (oi := { dst := some 128, op := Op.load 2 (Operand.tmp 127), type := 2, pos := "law.go:79", after := #[{ on := 8, ground := Ground.data }, { on := 5, ground := Ground.guard }], guard := some (5, false) }) (v := ?vk111) rfl (by kernel_rfl) (by kernel_rfl) (by kernel_rfl) (fun _ _ _ h => h) (Or.inl ⟨by rfl, ?hk111⟩) (S3.old ((Old.refl y2).drew) HFC.out) ?rk111
            case hk111 => (intro wz hSw; (try dsimp only at hSw); go_simp; try with_reducible rfl)
            (try simp only [Act.put]); (try simp only [List.setIfInBounds_toArray]); (try simp only [List.set_cons_succ]); (try simp only [List.set_cons_zero])
            refine wpAnyH_ready (rs := [7]) (by kernel_rfl) (by simp) ?_
            refine AllReadyH.cons (o := { dst := some 126, op := Op.call { callee := Callee.value (Operand.func 15), args := #[Operand.tmp 125], argTypes := #[26] }, type := 3, pos := "law.go:79", after := #[{ on := 6, ground := Ground.data }, { on := 5, ground := Ground.chain }, { on := 5, ground := Ground.guard }], guard := some (5, false) }) rfl (fun K hK => ?_) AllReadyH.nil
            refine wantCall1 ?_ 15 (.tmp 125) #[26] ?_ (.pointer (some ⟨hn, 0, none⟩)) ?_ ?_ ((enters_of Tryz.func15 (by kernel_rfl) rfl) _ _) ?_
            · rfl
            · rfl
            · rfl
            · rfl
            refine (HVt.out _ ((Old.refl y2).drew)).mono ?_
            rintro o x112 ⟨rfl, hx112⟩
            subst hx112
            refine ⟨_, rfl, ?_⟩
            refine hK.out _ _ (S3.old ((Old.refl y2).drew) HFC.out) (fun _ => ?_)
            clear hK K
            (try simp only [Act.put]); (try simp only [List.setIfInBounds_toArray]); (try simp only [List.set_cons_succ]); (try simp only [List.set_cons_zero])
            refine wpAnyH_take (i := 10) (oi := { dst := some 129, op := Op.binOp BinOp.neq 2 (Operand.tmp 126) (Operand.tmp 128) 2, type := 4, pos := "law.go:79", after := #[{ on := 7, ground := Ground.data }, { on := 9, ground := Ground.data }, { on := 5, ground := Ground.guard }], guard := some (5, false) }) (v := ?vk113) rfl (by kernel_rfl) (by kernel_rfl) (by kernel_rfl) (fun _ _ _ h => h) (Or.inl ⟨by rfl, ?hk113⟩) (S3.old ((Old.refl y2).drew) HFC.out) ?rk113
            case hk113 => (intro wz hSw; (try dsimp only at hSw); go_simp; try with_reducible rfl)
            (try simp only [Act.put]); (try simp only [List.setIfInBounds_toArray]); (try simp only [List.set_cons_succ]); (try simp only [List.set_cons_zero])
            refine wpAnyH_take (i := 11) (oi := { dst := some 130, op := Op.pick (Operand.tmp 124) (Operand.const (Value.bool true)) (Operand.tmp 129), type := 4, pos := "law.go:79", after := #[{ on := 5, ground := Ground.data }, { on := 10, ground := Ground.data }], guard := none }) (v := ?vk114) rfl (by kernel_rfl) (by kernel_rfl) (by kernel_rfl) (fun _ _ _ h => h) (Or.inl ⟨by rfl, ?hk114⟩) (S3.old ((Old.refl y2).drew) HFC.out) ?rk114
            case hk114 => (intro wz hSw; (try dsimp only at hSw); go_simp; try with_reducible rfl)
            (try simp only [Act.put]); (try simp only [List.setIfInBounds_toArray]); (try simp only [List.set_cons_succ]); (try simp only [List.set_cons_zero])
            refine wpAnyH_take (i := 12) (oi := { dst := some 131, op := Op.move (Operand.tmp 130), type := 4, pos := "law.go:79", after := #[{ on := 11, ground := Ground.data }, { on := 7, ground := Ground.chain }], guard := none }) (v := ?vk115) rfl (by kernel_rfl) (by kernel_rfl) (by kernel_rfl) (fun _ _ _ h => h) (Or.inl ⟨by rfl, ?hk115⟩) (S3.old ((Old.refl y2).drew) HFC.out) ?rk115
            case hk115 => (intro wz hSw; (try dsimp only at hSw); go_simp; try with_reducible rfl)
            (try simp only [Act.put]); (try simp only [List.setIfInBounds_toArray]); (try simp only [List.set_cons_succ]); (try simp only [List.set_cons_zero])
            refine wpAnyH_take (i := 13) (oi := { dst := some 132, op := Op.move (Operand.tmp 18), type := 45, pos := "law.go:79", after := #[{ on := 12, ground := Ground.guard }], guard := some (12, false) }) (v := ?vk116) rfl (by kernel_rfl) (by kernel_rfl) (by kernel_rfl) (fun _ _ _ h => h) (Or.inl ⟨by rfl, ?hk116⟩) (S3.old ((Old.refl y2).drew) HFC.out) ?rk116
            case hk116 => (intro wz hSw; (try dsimp only at hSw); go_simp; try with_reducible rfl)
            (try simp only [Act.put]); (try simp only [List.setIfInBounds_toArray]); (try simp only [List.set_cons_succ]); (try simp only [List.set_cons_zero])
            refine wpAnyH_take (i := 14) (oi := { dst := some 133, op := Op.call { callee := Callee.builtin Builtin.len, args := #[Operand.tmp 132], argTypes := #[45] }, type := 3, pos := "law.go:79", after := #[{ on := 13, ground := Ground.data }, { on := 12, ground := Ground.guard }], guard := some (12, false) }) (v := ?vk117) rfl (by kernel_rfl) (by kernel_rfl) (by kernel_rfl) (fun _ _ _ h => h) (Or.inl ⟨by rfl, ?hk117⟩) (S3.old ((Old.refl y2).drew) HFC.out) ?rk117
            case hk117 => (intro wz hSw; (try dsimp only at hSw); go_simp; try with_reducible rfl)
            (try simp only [Act.put]); (try simp only [List.setIfInBounds_toArray]); (try simp only [List.set_cons_succ]); (try simp only [List.set_cons_zero])
            refine wpAnyH_take (i := 15) (oi := { dst := some 134, op := Op.fieldAddr 34 (Operand.tmp 6) 0, type := 0, pos := "law.go:79", after := #[{ on := 12, ground := Ground.guard }], guard := some (12, false) }) (v := ?vk118) rfl (by kernel_rfl) (by kernel_rfl) (by kernel_rfl) (fun _ _ _ h => h) (Or.inl ⟨by rfl, ?hk118⟩) (S3.old ((Old.refl y2).drew) HFC.out) ?rk118
            case hk118 => (intro wz hSw; (try dsimp only at hSw); go_simp; try with_reducible rfl)
            (try simp only [Act.put]); (try simp only [List.setIfInBounds_toArray]); (try simp only [List.set_cons_succ]); (try simp only [List.set_cons_zero])
            refine wpAnyH_take (i := 16) (oi := { dst := some 135, op := Op.fieldAddr 32 (Operand.tmp 134) 0, type := 0, pos := "law.go:79", after := #[{ on := 15, ground := Ground.data }, { on := 12, ground := Ground.guard }], guard := some (12, false) }) (v := ?vk119) rfl (by kernel_rfl) (by kernel_rfl) (by kernel_rfl) (fun _ _ _ h => h) (Or.inl ⟨by rfl, ?hk119⟩) (S3.old ((Old.refl y2).drew) HFC.out) ?rk119
            case hk119 => (intro wz hSw; (try dsimp only at hSw); go_simp; try with_reducible rfl)
            (try simp only [Act.put]); (try simp only [List.setIfInBounds_toArray]); (try simp only [List.set_cons_succ]); (try simp only [List.set_cons_zero])
            refine wpAnyH_take (i := 17) (oi := { dst := some 136, op := Op.load 30 (Operand.tmp 135), type := 30, pos := "law.go:79", after := #[{ on := 16, ground := Ground.data }, { on := 12, ground := Ground.guard }], guard := some (12, false) }) (v := ?vk120) rfl (by kernel_rfl) (by kernel_rfl) (by kernel_rfl) (fun _ _ _ h => h) (Or.inl ⟨by rfl, ?hk120⟩) (S3.old ((Old.refl y2).drew) HFC.out) ?rk120
            case hk120 => (intro wz hSw; (try dsimp only at hSw); go_simp; try with_reducible rfl)
            (try simp only [Act.put]); (try simp only [List.setIfInBounds_toArray]); (try simp only [List.set_cons_succ]); (try simp only [List.set_cons_zero])
            refine wpAnyH_take (i := 18) (oi := { dst := some 137, op := Op.call { callee := Callee.builtin Builtin.len, args := #[Operand.tmp 136], argTypes := #[30] }, type := 3, pos := "law.go:79", after := #[{ on := 17, ground := Ground.data }, { on := 12, ground := Ground.guard }], guard := some (12, false) }) (v := ?vk121) rfl (by kernel_rfl) (by kernel_rfl) (by kernel_rfl) (fun _ _ _ h => h) (Or.inl ⟨by rfl, ?hk121⟩) (S3.old ((Old.refl y2).drew) HFC.out) ?rk121
            case hk121 => (intro wz hSw; (try dsimp only at hSw); go_simp; try with_reducible rfl)
            (try simp only [Act.put]); (try simp only [List.setIfInBounds_toArray]); (try simp only [List.set_cons_succ]); (try simp only [List.set_cons_zero])
            refine wpAnyH_take (i := 19) (oi := { dst := some 138, op := Op.binOp BinOp.neq 3 (Operand.tmp 133) (Operand.tmp 137) 3, type := 4, pos := "law.go:79", after := #[{ on := 14, ground := Ground.data }, { on := 18, ground := Ground.data }, { on := 12, ground := Ground.guard }], guard := some (12, false) }) (v := ?vk122) rfl (by kernel_rfl) (by kernel_rfl) (by kernel_rfl) (fun _ _ _ h => h) (Or.inl ⟨by rfl, ?hk122⟩) (S3.old ((Old.refl y2).drew) HFC.out) ?rk122
            case hk122 => (intro wz hSw; (try dsimp only at hSw); go_simp; try with_reducible rfl)
            (try simp only [Act.put]); (try simp only [List.setIfInBounds_toArray]); (try simp only [List.set_cons_succ]); (try simp only [List.set_cons_zero])
            refine wpAnyH_take (i := 20) (oi := { dst := some 139, op := Op.pick (Operand.tmp 131) (Operand.const (Value.bool true)) (Operand.tmp 138), type := 4, pos := "law.go:79", after := #[{ on := 12, ground := Ground.data }, { on := 19, ground := Ground.data }], guard := none }) (v := ?vk123) rfl (by kernel_rfl) (by kernel_rfl) (by kernel_rfl) (fun _ _ _ h => h) (Or.inl ⟨by rfl, ?hk123⟩) (S3.old ((Old.refl y2).drew) HFC.out) ?rk123
            case hk123 => (intro wz hSw; (try dsimp only at hSw); go_simp; try with_reducible rfl)
            (try simp only [Act.put]); (try simp only [List.setIfInBounds_toArray]); (try simp only [List.set_cons_succ]); (try simp only [List.set_cons_zero])
            refine wpAnyH_done (by kernel_rfl) ?_ _
            refine NoPanic.normal ?_
            have HQ3 := hid (HQ.out.old ((Old.refl y2).drew))
            have HC3 := hid ((Old.refl y2).drew)
            clear HFC HTm HVt
            generalize World.drew y2 = y3 at *
            obtain ⟨x0, x1, x2, x3, x4⟩ := box5 HQ3.out.box
            have l9 : ((m9 : Nat) : Int) ≤ 256 := by have := HQ3.out.len; have := HQ3.out.few; omega
            go_wp2
            generalize wr = wq at *
            go_loopw [144] (fun c wr => ∃ j : Nat, j ≤ m9 ∧ c = .int .i64 (j : Nat) ∧ Old y3 wr) (fun c _ => m9 - (intOf c).toNat)
            case atStart => exact ⟨0, Nat.zero_le _, rfl, Old.refl _⟩
            case round =>
              obtain ⟨j, hj, rfl, hU⟩ := hrel
              have HUr := hid hU
              clear hU
              by_cases hjl : j < m9
              · have hil : j < Z9.length := by rw [← HQ3.out.len]; exact hjl
                obtain ⟨gy, cy, qy, hyc, hym, ⟨y0, y1, yy⟩⟩ := HQ3.out.doc.row.at j hil
                obtain ⟨ey, -, ec⟩ := Value.slice.inj qy
                subst ey ec
                have k0 := HUr.out.keep y0
                have k1 := HUr.out.keep y1
                have k2 := HUr.out.keep yy
                have m2 : (0 : Int) ≤ (j : Int) := by omega
                have m3 : (j : Int) < (m9 : Int) := by omega
                rw [← HQ3.out.len] at hyc
                obtain ⟨gn, eg, ncell⟩ := HCell.out j hil
                subst eg
                have HBq := hid (HQ3.out.doc.byt _ (List.getElem_mem hil))
                have HRd := hid (HQ3.out.read (List.getElem_mem hil))
                have HNc := hid ncell
                clear y0 y1 yy qy ncell x0 x1 x2 x3 x4
                generalize Z9[j] = y at *
                clear hil
                obtain ⟨nm, hnm⟩ : ∃ nm, nm = y.nm := ⟨_, rfl⟩
                rw [← hnm] at k0 HNc HRd
                clear hnm
                go_upto_region 38 with (fail)
                have HV := hid (show Old wr (wr.alloc (.cells #[.string nm, .slice y.na y.now.length y.nc, .slice y.sa y.safe.length y.sc] 51)) from (Old.refl wr).alloc _)
                have HB8 := hid (alloc_at wr (.cells #[.string nm, .slice y.na y.now.length y.nc, .slice y.sa y.safe.length y.sc] 51))
                clear k0 k1 k2
                generalize wr.alloc (.cells #[.string nm, .slice y.na y.now.length y.nc, .slice y.sa y.safe.length y.sc] 51) = w5 at *
                obtain ⟨b8, hb8⟩ : ∃ b8, b8 = wr.heap.size := ⟨_, rfl⟩
                rw [← hb8] at HB8 ⊢
                clear hb8
                have HU5 := hid (HUr.out.trans HV.out)
                obtain ⟨t8, t9, -, -, -, -⟩ := box3 HB8.out
                have HR1 := hid (show Calls Tryz.prog 16 #[.pointer (some ⟨db, 0, none⟩), .string nm] w5 fun e w' => ∃ v' rc, e = .returned (.tuple #[v', .int .i64 rc]) ∧ Own w' v' y.now ∧ Old w5 w' from (readD w w5 db _ _ nm (HQ3.out.disk.old HU5.out)).mono fun e w' q => by obtain ⟨v', q1, q2, q3, -⟩ := q; rw [HRd.out] at q2; exact ⟨v', _, q1, q2, q3⟩)
                go_upto_region 39 with (go_at_call 16; refine HR1.out.mono ?_; rintro e w8 ⟨v8, rc, rfl, o8, u8⟩; obtain ⟨a8, c8, e8⟩ := o8.len; subst e8; have O8 := hid o8; have U8 := hid u8; clear o8 u8)
                clear t8 t9
                obtain ⟨t8, t9, -, -, -, -⟩ := box3 (U8.out.block HB8.out)
                have HU8 := hid (HU5.out.trans U8.out)
                have hg1 := (box5 (HU8.out.block HQ3.out.box)).2.1
                have HF := hid (And.intro ((HC3.out.trans HU8.out).keep HNc.out) (And.intro t8 (And.intro t9 hg1)))
                clear t8 t9 hg1
                have HSm := hid (fun (W' : World) (u : Old w8 W') => sameL (.slice a8 y.now.length c8) (.slice y.na y.now.length y.nc) y.now W' (O8.out.old u).row (HBq.out.1.old (HU8.out.trans u)).row)
                refine wp_region_noPanic ?_
                refine wp_region_held_drew (S := fun wz => wz.cell? ⟨gn, j, none⟩ = some (.string nm) ∧ wz.cell? ⟨b8, 0, none⟩ = some (.string nm) ∧ wz.cell? ⟨b8, 1, none⟩ = some (.slice y.na y.now.length y.nc) ∧ wz.cell? ⟨gm, 1, none⟩ = some (.bool false)) (by kernel_rfl) ?_ (fun hHeld => ?_)
                · exact (S4x.old ((Old.refl w8).drew) HF.out)
                (try simp only [Act.put]); (try simp only [List.setIfInBounds_toArray]); (try simp only [List.set_cons_succ]); (try simp only [List.set_cons_zero])
                clear hHeld
                refine wpAnyH_take (i := 0) (oi := { dst := some 156, op := Op.move (Operand.tmp 18), type := 45, pos := "law.go:84", after := #[], guard := none }) (v := ?vk83) rfl (by kernel_rfl) (by kernel_rfl) (by kernel_rfl) (fun _ _ _ h => h) (Or.inl ⟨by rfl, ?hk83⟩) (S4x.old ((Old.refl w8).drew) HF.out) ?rk83
                case hk83 => (intro wz hSw; (try dsimp only at hSw); go_simp; try with_reducible rfl)
                (try simp only [Act.put]); (try simp only [List.setIfInBounds_toArray]); (try simp only [List.set_cons_succ]); (try simp only [List.set_cons_zero])
                refine wpAnyH_take (i := 1) (oi := { dst := some 157, op := Op.move (Operand.tmp 19), type := 3, pos := "law.go:84", after := #[], guard := none }) (v := ?vk84) rfl (by kernel_rfl) (by kernel_rfl) (by kernel_rfl) (fun _ _ _ h => h) (Or.inl ⟨by rfl, ?hk84⟩) (S4x.old ((Old.refl w8).drew) HF.out) ?rk84
                case hk84 => (intro wz hSw; (try dsimp only at hSw); go_simp; try with_reducible rfl)
                (try simp only [Act.put]); (try simp only [List.setIfInBounds_toArray]); (try simp only [List.set_cons_succ]); (try simp only [List.set_cons_zero])
                refine wpAnyH_take (i := 2) (oi := { dst := some 158, op := Op.indexAddr 45 (Operand.tmp 156) (Operand.tmp 157), type := 0, pos := "law.go:84", after := #[{ on := 0, ground := Ground.data }, { on := 1, ground := Ground.data }], guard := none }) (v := ?vk85) rfl (by kernel_rfl) (by kernel_rfl) (by kernel_rfl) (fun _ _ _ h => h) (Or.inl ⟨by rfl, ?hk85⟩) (S4x.old ((Old.refl w8).drew) HF.out) ?rk85
                case hk85 => (intro wz hSw; (try dsimp only at hSw); go_simp; try with_reducible rfl)
                (try simp only [Act.put]); (try simp only [List.setIfInBounds_toArray]); (try simp only [List.set_cons_succ]); (try simp only [List.set_cons_zero])
                refine wpAnyH_take (i := 3) (oi := { dst := some 159, op := Op.load 9 (Operand.tmp 158), type := 9, pos := "law.go:84", after := #[{ on := 2, ground := Ground.data }], guard := none }) (v := ?vk86) rfl (by kernel_rfl) (by kernel_rfl) (by kernel_rfl) (fun _ _ _ h => h) (Or.inl ⟨by rfl, ?hk86⟩) (S4x.old ((Old.refl w8).drew) HF.out) ?rk86
                case hk86 => (intro wz hSw; (try dsimp only at hSw); go_simp; try with_reducible rfl)
                (try simp only [Act.put]); (try simp only [List.setIfInBounds_toArray]); (try simp only [List.set_cons_succ]); (try simp only [List.set_cons_zero])
                refine wpAnyH_take (i := 4) (oi := { dst := some 160, op := Op.fieldAddr 51 (Operand.tmp 20) 0, type := 0, pos := "law.go:84", after := #[], guard := none }) (v := ?vk87) rfl (by kernel_rfl) (by kernel_rfl) (by kernel_rfl) (fun _ _ _ h => h) (Or.inl ⟨by rfl, ?hk87⟩) (S4x.old ((Old.refl w8).drew) HF.out) ?rk87
                case hk87 => (intro wz hSw; (try dsimp only at hSw); go_simp; try with_reducible rfl)
                (try simp only [Act.put]); (try simp only [List.setIfInBounds_toArray]); (try simp only [List.set_cons_succ]); (try simp only [List.set_cons_zero])
                refine wpAnyH_take (i := 5) (oi := { dst := some 161, op := Op.load 9 (Operand.tmp 160), type := 9, pos := "law.go:84", after := #[{ on := 4, ground := Ground.data }], guard := none }) (v := ?vk88) rfl (by kernel_rfl) (by kernel_rfl) (by kernel_rfl) (fun _ _ _ h => h) (Or.inl ⟨by rfl, ?hk88⟩) (S4x.old ((Old.refl w8).drew) HF.out) ?rk88
                case hk88 => (intro wz hSw; (try dsimp only at hSw); go_simp; try with_reducible rfl)
                (try simp only [Act.put]); (try simp only [List.setIfInBounds_toArray]); (try simp only [List.set_cons_succ]); (try simp only [List.set_cons_zero])
                refine wpAnyH_take (i := 6) (oi := { dst := some 162, op := Op.binOp BinOp.neq 9 (Operand.tmp 159) (Operand.tmp 161) 9, type := 4, pos := "law.go:84", after := #[{ on := 3, ground := Ground.data }, { on := 5, ground := Ground.data }], guard := none }) (v := ?vk89) rfl (by kernel_rfl) (by kernel_rfl) (by kernel_rfl) (fun _ _ _ h => h) (Or.inl ⟨by rfl, ?hk89⟩) (S4x.old ((Old.refl w8).drew) HF.out) ?rk89
                case hk89 => (intro wz hSw; (try dsimp only at hSw); go_simp; try with_reducible rfl)
                (try simp only [Act.put]); (try simp only [List.setIfInBounds_toArray]); (try simp only [List.set_cons_succ]); (try simp only [List.set_cons_zero])
                refine wpAnyH_take (i := 7) (oi := { dst := some 163, op := Op.move (Operand.tmp 162), type := 4, pos := "law.go:84", after := #[{ on := 6, ground := Ground.data }], guard := none }) (v := ?vk90) rfl (by kernel_rfl) (by kernel_rfl) (by kernel_rfl) (fun _ _ _ h => h) (Or.inl ⟨by rfl, ?hk90⟩) (S4x.old ((Old.refl w8).drew) HF.out) ?rk90
                case hk90 => (intro wz hSw; (try dsimp only at hSw); go_simp; try with_reducible rfl)
                (try simp only [Act.put]); (try simp only [List.setIfInBounds_toArray]); (try simp only [List.set_cons_succ]); (try simp only [List.set_cons_zero])
                refine wpAnyH_take (i := 8) (oi := { dst := some 164, op := Op.fieldAddr 34 (Operand.tmp 6) 0, type := 0, pos := "law.go:84", after := #[{ on := 7, ground := Ground.guard }], guard := some (7, false) }) (v := ?vk91) rfl (by kernel_rfl) (by kernel_rfl) (by kernel_rfl) (fun _ _ _ h => h) (Or.inl ⟨by rfl, ?hk91⟩) (S4x.old ((Old.refl w8).drew) HF.out) ?rk91
                case hk91 => (intro wz hSw; (try dsimp only at hSw); go_simp; try with_reducible rfl)
                (try simp only [Act.put]); (try simp only [List.setIfInBounds_toArray]); (try simp only [List.set_cons_succ]); (try simp only [List.set_cons_zero])
                refine wpAnyH_take (i := 9) (oi := { dst := some 165, op := Op.fieldAddr 32 (Operand.tmp 164) 1, type := 0, pos := "law.go:84", after := #[{ on := 8, ground := Ground.data }, { on := 7, ground := Ground.guard }], guard := some (7, false) }) (v := ?vk92) rfl (by kernel_rfl) (by kernel_rfl) (by kernel_rfl) (fun _ _ _ h => h) (Or.inl ⟨by rfl, ?hk92⟩) (S4x.old ((Old.refl w8).drew) HF.out) ?rk92
                case hk92 => (intro wz hSw; (try dsimp only at hSw); go_simp; try with_reducible rfl)
                (try simp only [Act.put]); (try simp only [List.setIfInBounds_toArray]); (try simp only [List.set_cons_succ]); (try simp only [List.set_cons_zero])
                refine wpAnyH_take (i := 10) (oi := { dst := some 166, op := Op.load 4 (Operand.tmp 165), type := 4, pos := "law.go:84", after := #[{ on := 9, ground := Ground.data }, { on := 7, ground := Ground.guard }], guard := some (7, false) }) (v := ?vk93) rfl (by kernel_rfl) (by kernel_rfl) (by kernel_rfl) (fun _ _ _ h => h) (Or.inl ⟨by rfl, ?hk93⟩) (S4x.old ((Old.refl w8).drew) HF.out) ?rk93
                case hk93 => (intro wz hSw; (try dsimp only at hSw); go_simp; try with_reducible rfl)
                (try simp only [Act.put]); (try simp only [List.setIfInBounds_toArray]); (try simp only [List.set_cons_succ]); (try simp only [List.set_cons_zero])
                refine wpAnyH_take (i := 11) (oi := { dst := some 167, op := Op.unOp UnOp.not 4 (Operand.tmp 166), type := 4, pos := "law.go:84", after := #[{ on := 10, ground := Ground.data }, { on := 7, ground := Ground.guard }], guard := some (7, false) }) (v := ?vk94) rfl (by kernel_rfl) (by kernel_rfl) (by kernel_rfl) (fun _ _ _ h => h) (Or.inl ⟨by rfl, ?hk94⟩) (S4x.old ((Old.refl w8).drew) HF.out) ?rk94
                case hk94 => (intro wz hSw; (try dsimp only at hSw); go_simp; try with_reducible rfl)
                (try simp only [Act.put]); (try simp only [List.setIfInBounds_toArray]); (try simp only [List.set_cons_succ]); (try simp only [List.set_cons_zero])
                refine wpAnyH_take (i := 12) (oi := { dst := some 168, op := Op.move (Operand.tmp 167), type := 4, pos := "law.go:84", after := #[{ on := 11, ground := Ground.data }, { on := 7, ground := Ground.chain }, { on := 7, ground := Ground.guard }], guard := some (7, false) }) (v := ?vk95) rfl (by kernel_rfl) (by kernel_rfl) (by kernel_rfl) (fun _ _ _ h => h) (Or.inl ⟨by rfl, ?hk95⟩) (S4x.old ((Old.refl w8).drew) HF.out) ?rk95
                case hk95 => (intro wz hSw; (try dsimp only at hSw); go_simp; try with_reducible rfl)
                (try simp only [Act.put]); (try simp only [List.setIfInBounds_toArray]); (try simp only [List.set_cons_succ]); (try simp only [List.set_cons_zero])
                refine wpAnyH_take (i := 13) (oi := { dst := some 169, op := Op.move (Operand.tmp 21), type := 49, pos := "law.go:84", after := #[{ on := 12, ground := Ground.guard }], guard := some (12, true) }) (v := ?vk96) rfl (by kernel_rfl) (by kernel_rfl) (by kernel_rfl) (fun _ _ _ h => h) (Or.inl ⟨by rfl, ?hk96⟩) (S4x.old ((Old.refl w8).drew) HF.out) ?rk96
                case hk96 => (intro wz hSw; (try dsimp only at hSw); go_simp; try with_reducible rfl)
                (try simp only [Act.put]); (try simp only [List.setIfInBounds_toArray]); (try simp only [List.set_cons_succ]); (try simp only [List.set_cons_zero])
                refine wpAnyH_take (i := 14) (oi := { dst := some 170, op := Op.fieldAddr 51 (Operand.tmp 20) 1, type := 0, pos := "law.go:84", after := #[{ on := 12, ground := Ground.guard }], guard := some (12, true) }) (v := ?vk97) rfl (by kernel_rfl) (by kernel_rfl) (by kernel_rfl) (fun _ _ _ h => h) (Or.inl ⟨by rfl, ?hk97⟩) (S4x.old ((Old.refl w8).drew) HF.out) ?rk97
                case hk97 => (intro wz hSw; (try dsimp only at hSw); go_simp; try with_reducible rfl)
                (try simp only [Act.put]); (try simp only [List.setIfInBounds_toArray]); (try simp only [List.set_cons_succ]); (try simp only [List.set_cons_zero])
                refine wpAnyH_take (i := 15) (oi := { dst := some 171, op := Op.load 49 (Operand.tmp 170), type := 49, pos := "law.go:84", after := #[{ on := 14, ground := Ground.data }, { on := 12, ground := Ground.guard }], guard := some (12, true) }) (v := ?vk98) rfl (by kernel_rfl) (by kernel_rfl) (by kernel_rfl) (fun _ _ _ h => h) (Or.inl ⟨by rfl, ?hk98⟩) (S4x.old ((Old.refl w8).drew) HF.out) ?rk98
                case hk98 => (intro wz hSw; (try dsimp only at hSw); go_simp; try with_reducible rfl)
                (try simp only [Act.put]); (try simp only [List.setIfInBounds_toArray]); (try simp only [List.set_cons_succ]); (try simp only [List.set_cons_zero])
                refine wpAnyH_ready (rs := [16]) (by kernel_rfl) (by simp) ?_
                refine AllReadyH.cons (o := { dst := some 172, op := Op.call { callee := Callee.value (Operand.func 17), args := #[Operand.tmp 169, Operand.tmp 171], argTypes := #[49, 49] }, type := 4, pos := "law.go:84", after := #[{ on := 13, ground := Ground.data }, { on := 15, ground := Ground.data }, { on := 12, ground := Ground.chain }, { on := 12, ground := Ground.guard }], guard := some (12, true) }) rfl (fun K hK => ?_) AllReadyH.nil
                refine wantCall2 ?_ 17 (.tmp 169) (.tmp 171) #[49, 49] ?_ (.slice a8 y.now.length c8) (.slice y.na y.now.length y.nc) ?_ ?_ ?_ ((enters_of Tryz.func17 (by kernel_rfl) rfl) _ _) ?_
                · rfl
                · rfl
                · rfl
                · rfl
                · rfl
                refine (HSm.out _ ((Old.refl w8).drew)).mono ?_
                rintro o x99 ⟨rfl, bq99⟩
                refine ⟨_, rfl, ?_⟩
                have UU99 := Old.trans (((Old.refl w8).drew)) bq99
                refine hK.out _ _ (S4x.old UU99 HF.out) (fun _ => ?_)
                clear hK K
                (try simp only [Act.put]); (try simp only [List.setIfInBounds_toArray]); (try simp only [List.set_cons_succ]); (try simp only [List.set_cons_zero])
                refine wpAnyH_take (i := 17) (oi := { dst := some 173, op := Op.unOp UnOp.not 4 (Operand.tmp 172), type := 4, pos := "law.go:84", after := #[{ on := 16, ground := Ground.data }, { on := 12, ground := Ground.guard }], guard := some (12, true) }) (v := ?vk100) rfl (by kernel_rfl) (by kernel_rfl) (by kernel_rfl) (fun _ _ _ h => h) (Or.inl ⟨by rfl, ?hk100⟩) (S4x.old UU99 HF.out) ?rk100
                case hk100 => (intro wz hSw; (try dsimp only at hSw); go_simp; try with_reducible rfl)
                (try simp only [Act.put]); (try simp only [List.setIfInBounds_toArray]); (try simp only [List.set_cons_succ]); (try simp only [List.set_cons_zero])
                refine wpAnyH_take (i := 18) (oi := { dst := some 174, op := Op.pick (Operand.tmp 168) (Operand.tmp 173) (Operand.const (Value.bool false)), type := 4, pos := "law.go:84", after := #[{ on := 12, ground := Ground.data }, { on := 17, ground := Ground.data }, { on := 7, ground := Ground.guard }], guard := some (7, false) }) (v := ?vk101) rfl (by kernel_rfl) (by kernel_rfl) (by kernel_rfl) (fun _ _ _ h => h) (Or.inl ⟨by rfl, ?hk101⟩) (S4x.old UU99 HF.out) ?rk101
                case hk101 => (intro wz hSw; (try dsimp only at hSw); go_simp; try with_reducible rfl)
                (try simp only [Act.put]); (try simp only [List.setIfInBounds_toArray]); (try simp only [List.set_cons_succ]); (try simp only [List.set_cons_zero])
                refine wpAnyH_take (i := 19) (oi := { dst := some 175, op := Op.pick (Operand.tmp 163) (Operand.const (Value.bool true)) (Operand.tmp 174), type := 4, pos := "law.go:84", after := #[{ on := 7, ground := Ground.data }, { on := 18, ground := Ground.data }], guard := none }) (v := ?vk102) rfl (by kernel_rfl) (by kernel_rfl) (by kernel_rfl) (fun _ _ _ h => h) (Or.inl ⟨by rfl, ?hk102⟩) (S4x.old UU99 HF.out) ?rk102
                case hk102 => (intro wz hSw; (try dsimp only at hSw); go_simp; try with_reducible rfl)
                (try simp only [Act.put]); (try simp only [List.setIfInBounds_toArray]); (try simp only [List.set_cons_succ]); (try simp only [List.set_cons_zero])
                refine wpAnyH_done (by kernel_rfl) ?_ _
                refine NoPanic.normal ?_
                have HUx := hid (HU8.out.trans UU99)
                go_wp2
                go_roundw
                case rel => exact ⟨j + 1, hjl, by go_num, HUx.out⟩
                case measure => simp [intOf]; omega
              · have m3 : ¬ (j : Int) < (m9 : Int) := by omega
                have HFin := hid (HQ3.out.old HUr.out)
                clear x0 x1 x2 x3 x4
                go_wp2
                go_roundw
                case rel => exact ⟨i + 1, hn, false, p', o1, o2, a9, m9, c9, Z9, false, 0, o1, o2, by omega, rfl, rfl, by go_num, HFin.out⟩
                case measure => simp [intOf]; omega
          · have d1 : (ok == 1) = false := by rw [beq_eq_false_iff_ne]; exact c1
            have d2 : (ok == 2) = false := by rw [beq_eq_false_iff_ne]; exact c2
            have d3 : (ok == 3) = false := by rw [beq_eq_false_iff_ne]; exact c3
            clear c1 c2 c3
            go_upto_region 31 with (fail)
            clear b0 b1 b2 b3 b4 HDx
            cases br with
            | true =>
              go_wp2
              go_roundw
              case rel => exact ⟨i + 1, hk, true, p, t0, v0, a, m, cc, Y, dn, fu, t1, v1, by omega, rfl, rfl, by go_num, HPx.out⟩
              case measure => simp [intOf]; omega
            | false =>
              obtain ⟨hku, q1, q2⟩ := HPx.out.ku rfl
              have q3 := (HPx.out.rel.here hku.2).1
              obtain rfl : t0 = t1 := q1.symm
              obtain rfl : v0 = v1 := q2.symm
              subst q3
              clear hku
              go_upto_region 33 with (go_at_call 13; refine (namesD w _ db _ _ HPx.out.disk).mono ?_; rintro e y2 ⟨vn, S4, rfl, hS4, hP4, oS4, u4⟩; have HS4 := hid (And.intro hS4 hP4); have O4 := hid oS4; have U4 := hid u4; clear u4 hS4 hP4 oS4)
              obtain ⟨a4, c4, e4, lc4, lm4, hcell⟩ := O4.out.at5
              have eS : S4 = keysP (Y.map Fi.p) := rise_eq HS4.out.1 (HPx.out.rel.perm.map _) HS4.out.2 HPx.out.rel.rise
              have eL : S4.length = m := by rw [eS]; unfold keysP; rw [List.length_map, List.length_map, HPx.out.len]
              have HCell := hid (show ∀ i (hi : i < Y.length), ∃ g, a4 = some ⟨g, 0, none⟩ ∧ y2.cell? ⟨g, i, none⟩ = some (.string Y[i].nm) from fun i hi => by
                obtain ⟨g, e, c⟩ := hcell i (by rw [eL, HPx.out.len]; exact hi)
                refine ⟨g, e, ?_⟩
                rw [c]
                congr 2
                subst eS
                simp [keysP, Fi.p])
              rw [eL] at e4 lc4
              subst e4
              clear hcell eS eL HS4 O4
              have HQ := hid (HPx.out.old U4.out)
              obtain ⟨x0, x1, x2, x3, x4⟩ := box5 HQ.out.box
              have HFC := hid (show y2.cell? ⟨gm, 0, none⟩ = some (.slice a m cc) ∧ y2.cell? ⟨gm, 3, none⟩ = some (.int .i64 t0) ∧ y2.cell? ⟨gm, 4, none⟩ = some (.int .i64 v0) from ⟨x0, x3, x4⟩)
              have HTm := hid (fun (W' : World) (u : Old y2 W') => term_any hk _ t0 v0 W' (u.block HQ.out.hbox))
              have HVt := hid (fun (W' : World) (u : Old y2 W') => vote_any hk _ t0 v0 W' (u.block HQ.out.hbox))
              clear x0 x1 x2 x3 x4
              refine wp_region_noPanic ?_
              refine wp_region_held_drew (S := fun wz => wz.cell? ⟨gm, 0, none⟩ = some (.slice a m cc) ∧ wz.cell? ⟨gm, 3, none⟩ = some (.int .i64 t0) ∧ wz.cell? ⟨gm, 4, none⟩ = some (.int .i64 v0)) (by kernel_rfl) ?_ (fun hHeld => ?_)
              · exact (S3.old ((Old.refl y2).drew) HFC.out)
              (try simp only [Act.put]); (try simp only [List.setIfInBounds_toArray]); (try simp only [List.set_cons_succ]); (try simp only [List.set_cons_zero])
              clear hHeld
              refine wpAnyH_take (i := 0) (oi := { dst := some 119, op := Op.move (Operand.tmp 4), type := 26, pos := "law.go:79", after := #[], guard := none }) (v := ?vk144) rfl (by kernel_rfl) (by kernel_rfl) (by kernel_rfl) (fun _ _ _ h => h) (Or.inl ⟨by rfl, ?hk144⟩) (S3.old ((Old.refl y2).drew) HFC.out) ?rk144
              case hk144 => (intro wz hSw; (try dsimp only at hSw); go_simp; try with_reducible rfl)
              (try simp only [Act.put]); (try simp only [List.setIfInBounds_toArray]); (try simp only [List.set_cons_succ]); (try simp only [List.set_cons_zero])
              refine wpAnyH_take (i := 2) (oi := { dst := some 121, op := Op.fieldAddr 34 (Operand.tmp 6) 1, type := 0, pos := "law.go:79", after := #[], guard := none }) (v := ?vk145) rfl (by kernel_rfl) (by kernel_rfl) (by kernel_rfl) (fun _ _ _ h => h) (Or.inl ⟨by rfl, ?hk145⟩) (S3.old ((Old.refl y2).drew) HFC.out) ?rk145
              case hk145 => (intro wz hSw; (try dsimp only at hSw); go_simp; try with_reducible rfl)
              (try simp only [Act.put]); (try simp only [List.setIfInBounds_toArray]); (try simp only [List.set_cons_succ]); (try simp only [List.set_cons_zero])
              refine wpAnyH_take (i := 3) (oi := { dst := some 122, op := Op.load 2 (Operand.tmp 121), type := 2, pos := "law.go:79", after := #[{ on := 2, ground := Ground.data }], guard := none }) (v := ?vk146) rfl (by kernel_rfl) (by kernel_rfl) (by kernel_rfl) (fun _ _ _ h => h) (Or.inl ⟨by rfl, ?hk146⟩) (S3.old ((Old.refl y2).drew) HFC.out) ?rk146
              case hk146 => (intro wz hSw; (try dsimp only at hSw); go_simp; try with_reducible rfl)
              (try simp only [Act.put]); (try simp only [List.setIfInBounds_toArray]); (try simp only [List.set_cons_succ]); (try simp only [List.set_cons_zero])
              refine wpAnyH_ready (rs := [1]) (by kernel_rfl) (by simp) ?_
              refine AllReadyH.cons (o := { dst := some 120, op := Op.call { callee := Callee.value (Operand.func 14), args := #[Operand.tmp 119], argTypes := #[26] }, type := 2, pos := "law.go:79", after := #[{ on := 0, ground := Ground.data }], guard := none }) rfl (fun K hK => ?_) AllReadyH.nil
              refine wantCall1 ?_ 14 (.tmp 119) #[26] ?_ (.pointer (some ⟨hk, 0, none⟩)) ?_ ?_ ((enters_of Tryz.func14 (by kernel_rfl) rfl) _ _) ?_
              · rfl
              · rfl
              · rfl
              · rfl
              refine (HTm.out _ ((Old.refl y2).drew)).mono ?_
              rintro o x147 ⟨rfl, hx147⟩
              subst hx147
              refine ⟨_, rfl, ?_⟩
              refine hK.out _ _ (S3.old ((Old.refl y2).drew) HFC.out) (fun _ => ?_)
              clear hK K
              (try simp only [Act.put]); (try simp only [List.setIfInBounds_toArray]); (try simp only [List.set_cons_succ]); (try simp only [List.set_cons_zero])
              refine wpAnyH_take (i := 4) (oi := { dst := some 123, op := Op.binOp BinOp.neq 2 (Operand.tmp 120) (Operand.tmp 122) 2, type := 4, pos := "law.go:79", after := #[{ on := 1, ground := Ground.data }, { on := 3, ground := Ground.data }], guard := none }) (v := ?vk148) rfl (by kernel_rfl) (by kernel_rfl) (by kernel_rfl) (fun _ _ _ h => h) (Or.inl ⟨by rfl, ?hk148⟩) (S3.old ((Old.refl y2).drew) HFC.out) ?rk148
              case hk148 => (intro wz hSw; (try dsimp only at hSw); go_simp; try with_reducible rfl)
              (try simp only [Act.put]); (try simp only [List.setIfInBounds_toArray]); (try simp only [List.set_cons_succ]); (try simp only [List.set_cons_zero])
              refine wpAnyH_take (i := 5) (oi := { dst := some 124, op := Op.move (Operand.tmp 123), type := 4, pos := "law.go:79", after := #[{ on := 4, ground := Ground.data }, { on := 1, ground := Ground.chain }], guard := none }) (v := ?vk149) rfl (by kernel_rfl) (by kernel_rfl) (by kernel_rfl) (fun _ _ _ h => h) (Or.inl ⟨by rfl, ?hk149⟩) (S3.old ((Old.refl y2).drew) HFC.out) ?rk149
              case hk149 => (intro wz hSw; (try dsimp only at hSw); go_simp; try with_reducible rfl)
              (try simp only [Act.put]); (try simp only [List.setIfInBounds_toArray]); (try simp only [List.set_cons_succ]); (try simp only [List.set_cons_zero])
              refine wpAnyH_take (i := 6) (oi := { dst := some 125, op := Op.move (Operand.tmp 4), type := 26, pos := "law.go:79", after := #[{ on := 5, ground := Ground.guard }], guard := some (5, false) }) (v := ?vk150) rfl (by kernel_rfl) (by kernel_rfl) (by kernel_rfl) (fun _ _ _ h => h) (Or.inl ⟨by rfl, ?hk150⟩) (S3.old ((Old.refl y2).drew) HFC.out) ?rk150
              case hk150 => (intro wz hSw; (try dsimp only at hSw); go_simp; try with_reducible rfl)
              (try simp only [Act.put]); (try simp only [List.setIfInBounds_toArray]); (try simp only [List.set_cons_succ]); (try simp only [List.set_cons_zero])
              refine wpAnyH_take (i := 8) (oi := { dst := some 127, op := Op.fieldAddr 34 (Operand.tmp 6) 2, type := 0, pos := "law.go:79", after := #[{ on := 5, ground := Ground.guard }], guard := some (5, false) }) (v := ?vk151) rfl (by kernel_rfl) (by kernel_rfl) (by kernel_rfl) (fun _ _ _ h => h) (Or.inl ⟨by rfl, ?hk151⟩) (S3.old ((Old.refl y2).drew) HFC.out) ?rk151
              case hk151 => (intro wz hSw; (try dsimp only at hSw); go_simp; try with_reducible rfl)
              (try simp only [Act.put]); (try simp only [List.setIfInBounds_toArray]); (try simp only [List.set_cons_succ]); (try simp only [List.set_cons_zero])
              refine wpAnyH_take (i := 9) (oi := { dst := some 128, op := Op.load 2 (Operand.tmp 127), type := 2, pos := "law.go:79", after := #[{ on := 8, ground := Ground.data }, { on := 5, ground := Ground.guard }], guard := some (5, false) }) (v := ?vk152) rfl (by kernel_rfl) (by kernel_rfl) (by kernel_rfl) (fun _ _ _ h => h) (Or.inl ⟨by rfl, ?hk152⟩) (S3.old ((Old.refl y2).drew) HFC.out) ?rk152
              case hk152 => (intro wz hSw; (try dsimp only at hSw); go_simp; try with_reducible rfl)
              (try simp only [Act.put]); (try simp only [List.setIfInBounds_toArray]); (try simp only [List.set_cons_succ]); (try simp only [List.set_cons_zero])
              refine wpAnyH_ready (rs := [7]) (by kernel_rfl) (by simp) ?_
              refine AllReadyH.cons (o := { dst := some 126, op := Op.call { callee := Callee.value (Operand.func 15), args := #[Operand.tmp 125], argTypes := #[26] }, type := 3, pos := "law.go:79", after := #[{ on := 6, ground := Ground.data }, { on := 5, ground := Ground.chain }, { on := 5, ground := Ground.guard }], guard := some (5, false) }) rfl (fun K hK => ?_) AllReadyH.nil
              refine wantCall1 ?_ 15 (.tmp 125) #[26] ?_ (.pointer (some ⟨hk, 0, none⟩)) ?_ ?_ ((enters_of Tryz.func15 (by kernel_rfl) rfl) _ _) ?_
              · rfl
              · rfl
              · rfl
              · rfl
              refine (HVt.out _ ((Old.refl y2).drew)).mono ?_
              rintro o x153 ⟨rfl, hx153⟩
              subst hx153
              refine ⟨_, rfl, ?_⟩
              refine hK.out _ _ (S3.old ((Old.refl y2).drew) HFC.out) (fun _ => ?_)
              clear hK K
              (try simp only [Act.put]); (try simp only [List.setIfInBounds_toArray]); (try simp only [List.set_cons_succ]); (try simp only [List.set_cons_zero])
              refine wpAnyH_take (i := 10) (oi := { dst := some 129, op := Op.binOp BinOp.neq 2 (Operand.tmp 126) (Operand.tmp 128) 2, type := 4, pos := "law.go:79", after := #[{ on := 7, ground := Ground.data }, { on := 9, ground := Ground.data }, { on := 5, ground := Ground.guard }], guard := some (5, false) }) (v := ?vk154) rfl (by kernel_rfl) (by kernel_rfl) (by kernel_rfl) (fun _ _ _ h => h) (Or.inl ⟨by rfl, ?hk154⟩) (S3.old ((Old.refl y2).drew) HFC.out) ?rk154
              case hk154 => (intro wz hSw; (try dsimp only at hSw); go_simp; try with_reducible rfl)
              (try simp only [Act.put]); (try simp only [List.setIfInBounds_toArray]); (try simp only [List.set_cons_succ]); (try simp only [List.set_cons_zero])
              refine wpAnyH_take (i := 11) (oi := { dst := some 130, op := Op.pick (Operand.tmp 124) (Operand.const (Value.bool true)) (Operand.tmp 129), type := 4, pos := "law.go:79", after := #[{ on := 5, ground := Ground.data }, { on := 10, ground := Ground.data }], guard := none }) (v := ?vk155) rfl (by kernel_rfl) (by kernel_rfl) (by kernel_rfl) (fun _ _ _ h => h) (Or.inl ⟨by rfl, ?hk155⟩) (S3.old ((Old.refl y2).drew) HFC.out) ?rk155
              case hk155 => (intro wz hSw; (try dsimp only at hSw); go_simp; try with_reducible rfl)
              (try simp only [Act.put]); (try simp only [List.setIfInBounds_toArray]); (try simp only [List.set_cons_succ]); (try simp only [List.set_cons_zero])
              refine wpAnyH_take (i := 12) (oi := { dst := some 131, op := Op.move (Operand.tmp 130), type := 4, pos := "law.go:79", after := #[{ on := 11, ground := Ground.data }, { on := 7, ground := Ground.chain }], guard := none }) (v := ?vk156) rfl (by kernel_rfl) (by kernel_rfl) (by kernel_rfl) (fun _ _ _ h => h) (Or.inl ⟨by rfl, ?hk156⟩) (S3.old ((Old.refl y2).drew) HFC.out) ?rk156
              case hk156 => (intro wz hSw; (try dsimp only at hSw); go_simp; try with_reducible rfl)
              (try simp only [Act.put]); (try simp only [List.setIfInBounds_toArray]); (try simp only [List.set_cons_succ]); (try simp only [List.set_cons_zero])
              refine wpAnyH_take (i := 13) (oi := { dst := some 132, op := Op.move (Operand.tmp 18), type := 45, pos := "law.go:79", after := #[{ on := 12, ground := Ground.guard }], guard := some (12, false) }) (v := ?vk157) rfl (by kernel_rfl) (by kernel_rfl) (by kernel_rfl) (fun _ _ _ h => h) (Or.inl ⟨by rfl, ?hk157⟩) (S3.old ((Old.refl y2).drew) HFC.out) ?rk157
              case hk157 => (intro wz hSw; (try dsimp only at hSw); go_simp; try with_reducible rfl)
              (try simp only [Act.put]); (try simp only [List.setIfInBounds_toArray]); (try simp only [List.set_cons_succ]); (try simp only [List.set_cons_zero])
              refine wpAnyH_take (i := 14) (oi := { dst := some 133, op := Op.call { callee := Callee.builtin Builtin.len, args := #[Operand.tmp 132], argTypes := #[45] }, type := 3, pos := "law.go:79", after := #[{ on := 13, ground := Ground.data }, { on := 12, ground := Ground.guard }], guard := some (12, false) }) (v := ?vk158) rfl (by kernel_rfl) (by kernel_rfl) (by kernel_rfl) (fun _ _ _ h => h) (Or.inl ⟨by rfl, ?hk158⟩) (S3.old ((Old.refl y2).drew) HFC.out) ?rk158
              case hk158 => (intro wz hSw; (try dsimp only at hSw); go_simp; try with_reducible rfl)
              (try simp only [Act.put]); (try simp only [List.setIfInBounds_toArray]); (try simp only [List.set_cons_succ]); (try simp only [List.set_cons_zero])
              refine wpAnyH_take (i := 15) (oi := { dst := some 134, op := Op.fieldAddr 34 (Operand.tmp 6) 0, type := 0, pos := "law.go:79", after := #[{ on := 12, ground := Ground.guard }], guard := some (12, false) }) (v := ?vk159) rfl (by kernel_rfl) (by kernel_rfl) (by kernel_rfl) (fun _ _ _ h => h) (Or.inl ⟨by rfl, ?hk159⟩) (S3.old ((Old.refl y2).drew) HFC.out) ?rk159
              case hk159 => (intro wz hSw; (try dsimp only at hSw); go_simp; try with_reducible rfl)
              (try simp only [Act.put]); (try simp only [List.setIfInBounds_toArray]); (try simp only [List.set_cons_succ]); (try simp only [List.set_cons_zero])
              refine wpAnyH_take (i := 16) (oi := { dst := some 135, op := Op.fieldAddr 32 (Operand.tmp 134) 0, type := 0, pos := "law.go:79", after := #[{ on := 15, ground := Ground.data }, { on := 12, ground := Ground.guard }], guard := some (12, false) }) (v := ?vk160) rfl (by kernel_rfl) (by kernel_rfl) (by kernel_rfl) (fun _ _ _ h => h) (Or.inl ⟨by rfl, ?hk160⟩) (S3.old ((Old.refl y2).drew) HFC.out) ?rk160
              case hk160 => (intro wz hSw; (try dsimp only at hSw); go_simp; try with_reducible rfl)
              (try simp only [Act.put]); (try simp only [List.setIfInBounds_toArray]); (try simp only [List.set_cons_succ]); (try simp only [List.set_cons_zero])
              refine wpAnyH_take (i := 17) (oi := { dst := some 136, op := Op.load 30 (Operand.tmp 135), type := 30, pos := "law.go:79", after := #[{ on := 16, ground := Ground.data }, { on := 12, ground := Ground.guard }], guard := some (12, false) }) (v := ?vk161) rfl (by kernel_rfl) (by kernel_rfl) (by kernel_rfl) (fun _ _ _ h => h) (Or.inl ⟨by rfl, ?hk161⟩) (S3.old ((Old.refl y2).drew) HFC.out) ?rk161
              case hk161 => (intro wz hSw; (try dsimp only at hSw); go_simp; try with_reducible rfl)
              (try simp only [Act.put]); (try simp only [List.setIfInBounds_toArray]); (try simp only [List.set_cons_succ]); (try simp only [List.set_cons_zero])
              refine wpAnyH_take (i := 18) (oi := { dst := some 137, op := Op.call { callee := Callee.builtin Builtin.len, args := #[Operand.tmp 136], argTypes := #[30] }, type := 3, pos := "law.go:79", after := #[{ on := 17, ground := Ground.data }, { on := 12, ground := Ground.guard }], guard := some (12, false) }) (v := ?vk162) rfl (by kernel_rfl) (by kernel_rfl) (by kernel_rfl) (fun _ _ _ h => h) (Or.inl ⟨by rfl, ?hk162⟩) (S3.old ((Old.refl y2).drew) HFC.out) ?rk162
              case hk162 => (intro wz hSw; (try dsimp only at hSw); go_simp; try with_reducible rfl)
              (try simp only [Act.put]); (try simp only [List.setIfInBounds_toArray]); (try simp only [List.set_cons_succ]); (try simp only [List.set_cons_zero])
              refine wpAnyH_take (i := 19) (oi := { dst := some 138, op := Op.binOp BinOp.neq 3 (Operand.tmp 133) (Operand.tmp 137) 3, type := 4, pos := "law.go:79", after := #[{ on := 14, ground := Ground.data }, { on := 18, ground := Ground.data }, { on := 12, ground := Ground.guard }], guard := some (12, false) }) (v := ?vk163) rfl (by kernel_rfl) (by kernel_rfl) (by kernel_rfl) (fun _ _ _ h => h) (Or.inl ⟨by rfl, ?hk163⟩) (S3.old ((Old.refl y2).drew) HFC.out) ?rk163
              case hk163 => (intro wz hSw; (try dsimp only at hSw); go_simp; try with_reducible rfl)
              (try simp only [Act.put]); (try simp only [List.setIfInBounds_toArray]); (try simp only [List.set_cons_succ]); (try simp only [List.set_cons_zero])
              refine wpAnyH_take (i := 20) (oi := { dst := some 139, op := Op.pick (Operand.tmp 131) (Operand.const (Value.bool true)) (Operand.tmp 138), type := 4, pos := "law.go:79", after := #[{ on := 12, ground := Ground.data }, { on := 19, ground := Ground.data }], guard := none }) (v := ?vk164) rfl (by kernel_rfl) (by kernel_rfl) (by kernel_rfl) (fun _ _ _ h => h) (Or.inl ⟨by rfl, ?hk164⟩) (S3.old ((Old.refl y2).drew) HFC.out) ?rk164
              case hk164 => (intro wz hSw; (try dsimp only at hSw); go_simp; try with_reducible rfl)
              (try simp only [Act.put]); (try simp only [List.setIfInBounds_toArray]); (try simp only [List.set_cons_succ]); (try simp only [List.set_cons_zero])
              refine wpAnyH_done (by kernel_rfl) ?_ _
              refine NoPanic.normal ?_
              have HQ3 := hid (HQ.out.old ((Old.refl y2).drew))
              have HC3 := hid ((Old.refl y2).drew)
              clear HFC HTm HVt
              generalize World.drew y2 = y3 at *
              obtain ⟨x0, x1, x2, x3, x4⟩ := box5 HQ3.out.box
              have l9 : ((m : Nat) : Int) ≤ 256 := by have := HQ3.out.len; have := HQ3.out.few; omega
              go_wp2
              generalize wr = wq at *
              go_loopw [144] (fun c wr => ∃ j : Nat, j ≤ m ∧ c = .int .i64 (j : Nat) ∧ Old y3 wr) (fun c _ => m - (intOf c).toNat)
              case atStart => exact ⟨0, Nat.zero_le _, rfl, Old.refl _⟩
              case round =>
                obtain ⟨j, hj, rfl, hU⟩ := hrel
                have HUr := hid hU
                clear hU
                by_cases hjl : j < m
                · have hil : j < Y.length := by rw [← HQ3.out.len]; exact hjl
                  obtain ⟨gy, cy, qy, hyc, hym, ⟨y0, y1, yy⟩⟩ := HQ3.out.doc.row.at j hil
                  obtain ⟨ey, -, ec⟩ := Value.slice.inj qy
                  subst ey ec
                  have k0 := HUr.out.keep y0
                  have k1 := HUr.out.keep y1
                  have k2 := HUr.out.keep yy
                  have m2 : (0 : Int) ≤ (j : Int) := by omega
                  have m3 : (j : Int) < (m : Int) := by omega
                  rw [← HQ3.out.len] at hyc
                  obtain ⟨gn, eg, ncell⟩ := HCell.out j hil
                  subst eg
                  have HBq := hid (HQ3.out.doc.byt _ (List.getElem_mem hil))
                  have HRd := hid (HQ3.out.read (List.getElem_mem hil))
                  have HNc := hid ncell
                  clear y0 y1 yy qy ncell x0 x1 x2 x3 x4
                  generalize Y[j] = y at *
                  clear hil
                  obtain ⟨nm, hnm⟩ : ∃ nm, nm = y.nm := ⟨_, rfl⟩
                  rw [← hnm] at k0 HNc HRd
                  clear hnm
                  go_upto_region 38 with (fail)
                  have HV := hid (show Old wr (wr.alloc (.cells #[.string nm, .slice y.na y.now.length y.nc, .slice y.sa y.safe.length y.sc] 51)) from (Old.refl wr).alloc _)
                  have HB8 := hid (alloc_at wr (.cells #[.string nm, .slice y.na y.now.length y.nc, .slice y.sa y.safe.length y.sc] 51))
                  clear k0 k1 k2
                  generalize wr.alloc (.cells #[.string nm, .slice y.na y.now.length y.nc, .slice y.sa y.safe.length y.sc] 51) = w5 at *
                  obtain ⟨b8, hb8⟩ : ∃ b8, b8 = wr.heap.size := ⟨_, rfl⟩
                  rw [← hb8] at HB8 ⊢
                  clear hb8
                  have HU5 := hid (HUr.out.trans HV.out)
                  obtain ⟨t8, t9, -, -, -, -⟩ := box3 HB8.out
                  have HR1 := hid (show Calls Tryz.prog 16 #[.pointer (some ⟨db, 0, none⟩), .string nm] w5 fun e w' => ∃ v' rc, e = .returned (.tuple #[v', .int .i64 rc]) ∧ Own w' v' y.now ∧ Old w5 w' from (readD w w5 db _ _ nm (HQ3.out.disk.old HU5.out)).mono fun e w' q => by obtain ⟨v', q1, q2, q3, -⟩ := q; rw [HRd.out] at q2; exact ⟨v', _, q1, q2, q3⟩)
                  go_upto_region 39 with (go_at_call 16; refine HR1.out.mono ?_; rintro e w8 ⟨v8, rc, rfl, o8, u8⟩; obtain ⟨a8, c8, e8⟩ := o8.len; subst e8; have O8 := hid o8; have U8 := hid u8; clear o8 u8)
                  clear t8 t9
                  obtain ⟨t8, t9, -, -, -, -⟩ := box3 (U8.out.block HB8.out)
                  have HU8 := hid (HU5.out.trans U8.out)
                  have hg1 := (box5 (HU8.out.block HQ3.out.box)).2.1
                  have HF := hid (And.intro ((HC3.out.trans HU8.out).keep HNc.out) (And.intro t8 (And.intro t9 hg1)))
                  clear t8 t9 hg1
                  have HSm := hid (fun (W' : World) (u : Old w8 W') => sameL (.slice a8 y.now.length c8) (.slice y.na y.now.length y.nc) y.now W' (O8.out.old u).row (HBq.out.1.old (HU8.out.trans u)).row)
                  refine wp_region_noPanic ?_
                  refine wp_region_held_drew (S := fun wz => wz.cell? ⟨gn, j, none⟩ = some (.string nm) ∧ wz.cell? ⟨b8, 0, none⟩ = some (.string nm) ∧ wz.cell? ⟨b8, 1, none⟩ = some (.slice y.na y.now.length y.nc) ∧ wz.cell? ⟨gm, 1, none⟩ = some (.bool false)) (by kernel_rfl) ?_ (fun hHeld => ?_)
                  · exact (S4x.old ((Old.refl w8).drew) HF.out)
                  (try simp only [Act.put]); (try simp only [List.setIfInBounds_toArray]); (try simp only [List.set_cons_succ]); (try simp only [List.set_cons_zero])
                  clear hHeld
                  refine wpAnyH_take (i := 0) (oi := { dst := some 156, op := Op.move (Operand.tmp 18), type := 45, pos := "law.go:84", after := #[], guard := none }) (v := ?vk124) rfl (by kernel_rfl) (by kernel_rfl) (by kernel_rfl) (fun _ _ _ h => h) (Or.inl ⟨by rfl, ?hk124⟩) (S4x.old ((Old.refl w8).drew) HF.out) ?rk124
                  case hk124 => (intro wz hSw; (try dsimp only at hSw); go_simp; try with_reducible rfl)
                  (try simp only [Act.put]); (try simp only [List.setIfInBounds_toArray]); (try simp only [List.set_cons_succ]); (try simp only [List.set_cons_zero])
                  refine wpAnyH_take (i := 1) (oi := { dst := some 157, op := Op.move (Operand.tmp 19), type := 3, pos := "law.go:84", after := #[], guard := none }) (v := ?vk125) rfl (by kernel_rfl) (by kernel_rfl) (by kernel_rfl) (fun _ _ _ h => h) (Or.inl ⟨by rfl, ?hk125⟩) (S4x.old ((Old.refl w8).drew) HF.out) ?rk125
                  case hk125 => (intro wz hSw; (try dsimp only at hSw); go_simp; try with_reducible rfl)
                  (try simp only [Act.put]); (try simp only [List.setIfInBounds_toArray]); (try simp only [List.set_cons_succ]); (try simp only [List.set_cons_zero])
                  refine wpAnyH_take (i := 2) (oi := { dst := some 158, op := Op.indexAddr 45 (Operand.tmp 156) (Operand.tmp 157), type := 0, pos := "law.go:84", after := #[{ on := 0, ground := Ground.data }, { on := 1, ground := Ground.data }], guard := none }) (v := ?vk126) rfl (by kernel_rfl) (by kernel_rfl) (by kernel_rfl) (fun _ _ _ h => h) (Or.inl ⟨by rfl, ?hk126⟩) (S4x.old ((Old.refl w8).drew) HF.out) ?rk126
                  case hk126 => (intro wz hSw; (try dsimp only at hSw); go_simp; try with_reducible rfl)
                  (try simp only [Act.put]); (try simp only [List.setIfInBounds_toArray]); (try simp only [List.set_cons_succ]); (try simp only [List.set_cons_zero])
                  refine wpAnyH_take (i := 3) (oi := { dst := some 159, op := Op.load 9 (Operand.tmp 158), type := 9, pos := "law.go:84", after := #[{ on := 2, ground := Ground.data }], guard := none }) (v := ?vk127) rfl (by kernel_rfl) (by kernel_rfl) (by kernel_rfl) (fun _ _ _ h => h) (Or.inl ⟨by rfl, ?hk127⟩) (S4x.old ((Old.refl w8).drew) HF.out) ?rk127
                  case hk127 => (intro wz hSw; (try dsimp only at hSw); go_simp; try with_reducible rfl)
                  (try simp only [Act.put]); (try simp only [List.setIfInBounds_toArray]); (try simp only [List.set_cons_succ]); (try simp only [List.set_cons_zero])
                  refine wpAnyH_take (i := 4) (oi := { dst := some 160, op := Op.fieldAddr 51 (Operand.tmp 20) 0, type := 0, pos := "law.go:84", after := #[], guard := none }) (v := ?vk128) rfl (by kernel_rfl) (by kernel_rfl) (by kernel_rfl) (fun _ _ _ h => h) (Or.inl ⟨by rfl, ?hk128⟩) (S4x.old ((Old.refl w8).drew) HF.out) ?rk128
                  case hk128 => (intro wz hSw; (try dsimp only at hSw); go_simp; try with_reducible rfl)
                  (try simp only [Act.put]); (try simp only [List.setIfInBounds_toArray]); (try simp only [List.set_cons_succ]); (try simp only [List.set_cons_zero])
                  refine wpAnyH_take (i := 5) (oi := { dst := some 161, op := Op.load 9 (Operand.tmp 160), type := 9, pos := "law.go:84", after := #[{ on := 4, ground := Ground.data }], guard := none }) (v := ?vk129) rfl (by kernel_rfl) (by kernel_rfl) (by kernel_rfl) (fun _ _ _ h => h) (Or.inl ⟨by rfl, ?hk129⟩) (S4x.old ((Old.refl w8).drew) HF.out) ?rk129
                  case hk129 => (intro wz hSw; (try dsimp only at hSw); go_simp; try with_reducible rfl)
                  (try simp only [Act.put]); (try simp only [List.setIfInBounds_toArray]); (try simp only [List.set_cons_succ]); (try simp only [List.set_cons_zero])
                  refine wpAnyH_take (i := 6) (oi := { dst := some 162, op := Op.binOp BinOp.neq 9 (Operand.tmp 159) (Operand.tmp 161) 9, type := 4, pos := "law.go:84", after := #[{ on := 3, ground := Ground.data }, { on := 5, ground := Ground.data }], guard := none }) (v := ?vk130) rfl (by kernel_rfl) (by kernel_rfl) (by kernel_rfl) (fun _ _ _ h => h) (Or.inl ⟨by rfl, ?hk130⟩) (S4x.old ((Old.refl w8).drew) HF.out) ?rk130
                  case hk130 => (intro wz hSw; (try dsimp only at hSw); go_simp; try with_reducible rfl)
                  (try simp only [Act.put]); (try simp only [List.setIfInBounds_toArray]); (try simp only [List.set_cons_succ]); (try simp only [List.set_cons_zero])
                  refine wpAnyH_take (i := 7) (oi := { dst := some 163, op := Op.move (Operand.tmp 162), type := 4, pos := "law.go:84", after := #[{ on := 6, ground := Ground.data }], guard := none }) (v := ?vk131) rfl (by kernel_rfl) (by kernel_rfl) (by kernel_rfl) (fun _ _ _ h => h) (Or.inl ⟨by rfl, ?hk131⟩) (S4x.old ((Old.refl w8).drew) HF.out) ?rk131
                  case hk131 => (intro wz hSw; (try dsimp only at hSw); go_simp; try with_reducible rfl)
                  (try simp only [Act.put]); (try simp only [List.setIfInBounds_toArray]); (try simp only [List.set_cons_succ]); (try simp only [List.set_cons_zero])
                  refine wpAnyH_take (i := 8) (oi := { dst := some 164, op := Op.fieldAddr 34 (Operand.tmp 6) 0, type := 0, pos := "law.go:84", after := #[{ on := 7, ground := Ground.guard }], guard := some (7, false) }) (v := ?vk132) rfl (by kernel_rfl) (by kernel_rfl) (by kernel_rfl) (fun _ _ _ h => h) (Or.inl ⟨by rfl, ?hk132⟩) (S4x.old ((Old.refl w8).drew) HF.out) ?rk132
                  case hk132 => (intro wz hSw; (try dsimp only at hSw); go_simp; try with_reducible rfl)
                  (try simp only [Act.put]); (try simp only [List.setIfInBounds_toArray]); (try simp only [List.set_cons_succ]); (try simp only [List.set_cons_zero])
                  refine wpAnyH_take (i := 9) (oi := { dst := some 165, op := Op.fieldAddr 32 (Operand.tmp 164) 1, type := 0, pos := "law.go:84", after := #[{ on := 8, ground := Ground.data }, { on := 7, ground := Ground.guard }], guard := some (7, false) }) (v := ?vk133) rfl (by kernel_rfl) (by kernel_rfl) (by kernel_rfl) (fun _ _ _ h => h) (Or.inl ⟨by rfl, ?hk133⟩) (S4x.old ((Old.refl w8).drew) HF.out) ?rk133
                  case hk133 => (intro wz hSw; (try dsimp only at hSw); go_simp; try with_reducible rfl)
                  (try simp only [Act.put]); (try simp only [List.setIfInBounds_toArray]); (try simp only [List.set_cons_succ]); (try simp only [List.set_cons_zero])
                  refine wpAnyH_take (i := 10) (oi := { dst := some 166, op := Op.load 4 (Operand.tmp 165), type := 4, pos := "law.go:84", after := #[{ on := 9, ground := Ground.data }, { on := 7, ground := Ground.guard }], guard := some (7, false) }) (v := ?vk134) rfl (by kernel_rfl) (by kernel_rfl) (by kernel_rfl) (fun _ _ _ h => h) (Or.inl ⟨by rfl, ?hk134⟩) (S4x.old ((Old.refl w8).drew) HF.out) ?rk134
                  case hk134 => (intro wz hSw; (try dsimp only at hSw); go_simp; try with_reducible rfl)
                  (try simp only [Act.put]); (try simp only [List.setIfInBounds_toArray]); (try simp only [List.set_cons_succ]); (try simp only [List.set_cons_zero])
                  refine wpAnyH_take (i := 11) (oi := { dst := some 167, op := Op.unOp UnOp.not 4 (Operand.tmp 166), type := 4, pos := "law.go:84", after := #[{ on := 10, ground := Ground.data }, { on := 7, ground := Ground.guard }], guard := some (7, false) }) (v := ?vk135) rfl (by kernel_rfl) (by kernel_rfl) (by kernel_rfl) (fun _ _ _ h => h) (Or.inl ⟨by rfl, ?hk135⟩) (S4x.old ((Old.refl w8).drew) HF.out) ?rk135
                  case hk135 => (intro wz hSw; (try dsimp only at hSw); go_simp; try with_reducible rfl)
                  (try simp only [Act.put]); (try simp only [List.setIfInBounds_toArray]); (try simp only [List.set_cons_succ]); (try simp only [List.set_cons_zero])
                  refine wpAnyH_take (i := 12) (oi := { dst := some 168, op := Op.move (Operand.tmp 167), type := 4, pos := "law.go:84", after := #[{ on := 11, ground := Ground.data }, { on := 7, ground := Ground.chain }, { on := 7, ground := Ground.guard }], guard := some (7, false) }) (v := ?vk136) rfl (by kernel_rfl) (by kernel_rfl) (by kernel_rfl) (fun _ _ _ h => h) (Or.inl ⟨by rfl, ?hk136⟩) (S4x.old ((Old.refl w8).drew) HF.out) ?rk136
                  case hk136 => (intro wz hSw; (try dsimp only at hSw); go_simp; try with_reducible rfl)
                  (try simp only [Act.put]); (try simp only [List.setIfInBounds_toArray]); (try simp only [List.set_cons_succ]); (try simp only [List.set_cons_zero])
                  refine wpAnyH_take (i := 13) (oi := { dst := some 169, op := Op.move (Operand.tmp 21), type := 49, pos := "law.go:84", after := #[{ on := 12, ground := Ground.guard }], guard := some (12, true) }) (v := ?vk137) rfl (by kernel_rfl) (by kernel_rfl) (by kernel_rfl) (fun _ _ _ h => h) (Or.inl ⟨by rfl, ?hk137⟩) (S4x.old ((Old.refl w8).drew) HF.out) ?rk137
                  case hk137 => (intro wz hSw; (try dsimp only at hSw); go_simp; try with_reducible rfl)
                  (try simp only [Act.put]); (try simp only [List.setIfInBounds_toArray]); (try simp only [List.set_cons_succ]); (try simp only [List.set_cons_zero])
                  refine wpAnyH_take (i := 14) (oi := { dst := some 170, op := Op.fieldAddr 51 (Operand.tmp 20) 1, type := 0, pos := "law.go:84", after := #[{ on := 12, ground := Ground.guard }], guard := some (12, true) }) (v := ?vk138) rfl (by kernel_rfl) (by kernel_rfl) (by kernel_rfl) (fun _ _ _ h => h) (Or.inl ⟨by rfl, ?hk138⟩) (S4x.old ((Old.refl w8).drew) HF.out) ?rk138
                  case hk138 => (intro wz hSw; (try dsimp only at hSw); go_simp; try with_reducible rfl)
                  (try simp only [Act.put]); (try simp only [List.setIfInBounds_toArray]); (try simp only [List.set_cons_succ]); (try simp only [List.set_cons_zero])
                  refine wpAnyH_take (i := 15) (oi := { dst := some 171, op := Op.load 49 (Operand.tmp 170), type := 49, pos := "law.go:84", after := #[{ on := 14, ground := Ground.data }, { on := 12, ground := Ground.guard }], guard := some (12, true) }) (v := ?vk139) rfl (by kernel_rfl) (by kernel_rfl) (by kernel_rfl) (fun _ _ _ h => h) (Or.inl ⟨by rfl, ?hk139⟩) (S4x.old ((Old.refl w8).drew) HF.out) ?rk139
                  case hk139 => (intro wz hSw; (try dsimp only at hSw); go_simp; try with_reducible rfl)
                  (try simp only [Act.put]); (try simp only [List.setIfInBounds_toArray]); (try simp only [List.set_cons_succ]); (try simp only [List.set_cons_zero])
                  refine wpAnyH_ready (rs := [16]) (by kernel_rfl) (by simp) ?_
                  refine AllReadyH.cons (o := { dst := some 172, op := Op.call { callee := Callee.value (Operand.func 17), args := #[Operand.tmp 169, Operand.tmp 171], argTypes := #[49, 49] }, type := 4, pos := "law.go:84", after := #[{ on := 13, ground := Ground.data }, { on := 15, ground := Ground.data }, { on := 12, ground := Ground.chain }, { on := 12, ground := Ground.guard }], guard := some (12, true) }) rfl (fun K hK => ?_) AllReadyH.nil
                  refine wantCall2 ?_ 17 (.tmp 169) (.tmp 171) #[49, 49] ?_ (.slice a8 y.now.length c8) (.slice y.na y.now.length y.nc) ?_ ?_ ?_ ((enters_of Tryz.func17 (by kernel_rfl) rfl) _ _) ?_
                  · rfl
                  · rfl
                  · rfl
                  · rfl
                  · rfl
                  refine (HSm.out _ ((Old.refl w8).drew)).mono ?_
                  rintro o x140 ⟨rfl, bq140⟩
                  refine ⟨_, rfl, ?_⟩
                  have UU140 := Old.trans (((Old.refl w8).drew)) bq140
                  refine hK.out _ _ (S4x.old UU140 HF.out) (fun _ => ?_)
                  clear hK K
                  (try simp only [Act.put]); (try simp only [List.setIfInBounds_toArray]); (try simp only [List.set_cons_succ]); (try simp only [List.set_cons_zero])
                  refine wpAnyH_take (i := 17) (oi := { dst := some 173, op := Op.unOp UnOp.not 4 (Operand.tmp 172), type := 4, pos := "law.go:84", after := #[{ on := 16, ground := Ground.data }, { on := 12, ground := Ground.guard }], guard := some (12, true) }) (v := ?vk141) rfl (by kernel_rfl) (by kernel_rfl) (by kernel_rfl) (fun _ _ _ h => h) (Or.inl ⟨by rfl, ?hk141⟩) (S4x.old UU140 HF.out) ?rk141
                  case hk141 => (intro wz hSw; (try dsimp only at hSw); go_simp; try with_reducible rfl)
                  (try simp only [Act.put]); (try simp only [List.setIfInBounds_toArray]); (try simp only [List.set_cons_succ]); (try simp only [List.set_cons_zero])
                  refine wpAnyH_take (i := 18) (oi := { dst := some 174, op := Op.pick (Operand.tmp 168) (Operand.tmp 173) (Operand.const (Value.bool false)), type := 4, pos := "law.go:84", after := #[{ on := 12, ground := Ground.data }, { on := 17, ground := Ground.data }, { on := 7, ground := Ground.guard }], guard := some (7, false) }) (v := ?vk142) rfl (by kernel_rfl) (by kernel_rfl) (by kernel_rfl) (fun _ _ _ h => h) (Or.inl ⟨by rfl, ?hk142⟩) (S4x.old UU140 HF.out) ?rk142
                  case hk142 => (intro wz hSw; (try dsimp only at hSw); go_simp; try with_reducible rfl)
                  (try simp only [Act.put]); (try simp only [List.setIfInBounds_toArray]); (try simp only [List.set_cons_succ]); (try simp only [List.set_cons_zero])
                  refine wpAnyH_take (i := 19) (oi := { dst := some 175, op := Op.pick (Operand.tmp 163) (Operand.const (Value.bool true)) (Operand.tmp 174), type := 4, pos := "law.go:84", after := #[{ on := 7, ground := Ground.data }, { on := 18, ground := Ground.data }], guard := none }) (v := ?vk143) rfl (by kernel_rfl) (by kernel_rfl) (by kernel_rfl) (fun _ _ _ h => h) (Or.inl ⟨by rfl, ?hk143⟩) (S4x.old UU140 HF.out) ?rk143
                  case hk143 => (intro wz hSw; (try dsimp only at hSw); go_simp; try with_reducible rfl)
                  (try simp only [Act.put]); (try simp only [List.setIfInBounds_toArray]); (try simp only [List.set_cons_succ]); (try simp only [List.set_cons_zero])
                  refine wpAnyH_done (by kernel_rfl) ?_ _
                  refine NoPanic.normal ?_
                  have HUx := hid (HU8.out.trans UU140)
                  go_wp2
                  go_roundw
                  case rel => exact ⟨j + 1, hjl, by go_num, HUx.out⟩
                  case measure => simp [intOf]; omega
                · have m3 : ¬ (j : Int) < (m : Int) := by omega
                  have HFin := hid (HQ3.out.old HUr.out)
                  clear x0 x1 x2 x3 x4
                  go_wp2
                  go_roundw
                  case rel => exact ⟨i + 1, hk, false, p, t0, v0, a, m, cc, Y, false, fu, t0, v0, by omega, rfl, rfl, by go_num, HFin.out⟩
                  case measure => simp [intOf]; omega
    · have l3 : ¬ ((i : Int) < (n : Int)) := by omega
      have HUf := hid HP.out.disk.base
      go_wp2
      go_ret
      exact ⟨rfl, HUf.out⟩
end Go.Proofs.YtfphopleniidfaaGreatDoor
