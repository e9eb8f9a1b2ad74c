/- The law DiskApart's walk; no condition. -/
import Derived.Test.YtggmejddihbhnaaEe
namespace Go.Proofs.Ytggmejddihbhnaa
open Go.RowKit Go.Lib Go.ChangeShapes Go.WideShapes
set_option linter.unusedVariables false
set_option linter.unusedSimpArgs false
set_option maxRecDepth 20000
theorem getP_app (fs gs : PFs) (s : ByteArray) (x : PF) : getP fs s = some x → getP (fs ++ gs) s = some x := by
  induction fs with
  | nil => intro h; cases h
  | cons q t ih =>
    intro h
    rw [List.cons_append]
    unfold getP at h ⊢
    by_cases c : q.1 = s
    · rw [if_pos c] at h ⊢; exact h
    · rw [if_neg c] at h ⊢; exact ih h
theorem getP_del (fs : PFs) (s u : ByteArray) (h : u ≠ s) : getP (delP fs s) u = getP fs u := by
  induction fs with
  | nil => rfl
  | cons q t ih =>
    unfold delP at ih ⊢
    rw [List.filter_cons]
    by_cases c : q.1 = s
    · rw [if_neg (by simp [c]), ih]
      conv => rhs; unfold getP
      rw [if_neg (fun e => h (by rw [← e, c]))]
    · rw [if_pos (by simp [c])]
      unfold getP
      by_cases c2 : q.1 = u
      · rw [if_pos c2, if_pos c2]
      · rw [if_neg c2, if_neg c2, ih]
theorem getP_put (fs : PFs) (s u : ByteArray) (x : PF) (h : u ≠ s) : getP (putP fs s x) u = getP fs u := by
  induction fs with
  | nil => simp [putP, getP, Ne.symm h]
  | cons q t ih =>
    unfold putP
    by_cases c : q.1 = s
    · rw [if_pos c]
      unfold getP
      rw [if_neg (Ne.symm h), if_neg (fun e => h (by rw [← e, c]))]
    · rw [if_neg c]
      unfold getP
      by_cases c2 : q.1 = u
      · rw [if_pos c2, if_pos c2]
      · rw [if_neg c2, if_neg c2, ih]
theorem getP_set (fs : PFs) (s u : ByteArray) (x : PF) (h : u ≠ s) : getP (setP fs s x) u = getP fs u := by
  induction fs with
  | nil => rfl
  | cons q t ih =>
    unfold setP at ih ⊢
    rw [List.map_cons]
    unfold getP
    by_cases c : q.1 = s
    · rw [if_pos c, if_neg (fun e => h (by rw [← e, c])), if_neg (fun e => h (by rw [← e, c])), ih]
    · rw [if_neg c]
      by_cases c2 : q.1 = u
      · rw [if_pos c2, if_pos c2]
      · rw [if_neg c2, if_neg c2, ih]
theorem getP_set_self (fs : PFs) (s : ByteArray) (x y : PF) : getP fs s = some y → getP (setP fs s x) s = some x := by
  induction fs with
  | nil => intro h; cases h
  | cons q t ih =>
    intro h
    unfold setP at ih ⊢
    rw [List.map_cons]
    unfold getP at h ⊢
    by_cases c : q.1 = s
    · rw [if_pos c, if_pos c]
    · rw [if_neg c] at h ⊢
      rw [if_neg c]
      exact ih h
def sK : ByteArray := ⟨#[107, 101, 112, 116]⟩
theorem sK_list : sK.toList = [107, 101, 112, 116] := by kernel_rfl
theorem misK : [sK].any misN = false := by kernel_rfl
def KP (L : List Nat) (p : PD) : Prop := getP p.fs sK = some ⟨L, L⟩ ∧ p.down = false ∧ p.fail = 0
theorem KP.stepd {L : List Nat} {p : PD} (h : KP L p) : p.stepd = p := by
  obtain ⟨fs, dn, fl⟩ := p
  obtain ⟨h1, h2, h3⟩ := h
  dsimp only at h2 h3
  subst h2 h3
  rfl
theorem KP.fs {L : List Nat} {p : PD} (h : KP L p) (gs : PFs) (hg : getP gs sK = some ⟨L, L⟩) : KP L { p with fs := gs } := ⟨hg, h.2.1, h.2.2⟩
theorem KP.step {L : List Nat} {p : PD} (h : KP L p) (o : Opd) (ha : o.a ≠ sK) (hz : o.k = 3 → o.z ≠ sK) : KP L (stepP p o) := by
  unfold stepP
  split
  · unfold createP; split
    · rw [h.stepd]; exact h.fs _ (getP_app _ _ _ _ h.1)
    · rw [h.stepd]; exact h
  · split
    · unfold removeP; split
      · rw [h.stepd]; exact h.fs _ (by rw [getP_del _ _ _ ha.symm]; exact h.1)
      · rw [h.stepd]; exact h
    · split
      · rename_i c3
        unfold renameP; split
        · rw [h.stepd]; exact h.fs _ (by rw [getP_put _ _ _ _ (hz c3).symm, getP_del _ _ _ ha.symm]; exact h.1)
        · rw [h.stepd]; exact h
      · split
        · unfold writeP; split
          · rw [h.stepd]; exact h.fs _ (by rw [getP_set _ _ _ _ ha.symm]; exact h.1)
          · rw [h.stepd]; exact h
        · split
          · unfold cutP; split
            · rw [h.stepd]; exact h.fs _ (by rw [getP_set _ _ _ _ ha.symm]; exact h.1)
            · rw [h.stepd]; exact h
          · unfold syncP; split
            · rw [h.stepd]; exact h.fs _ (by rw [getP_set _ _ _ _ ha.symm]; exact h.1)
            · rw [h.stepd]; exact h
theorem crash1_self (L : List Nat) (kp : List Bool) : (crash1 ⟨L, L⟩ kp).1 = ⟨L, L⟩ := by
  have e : looL L L = [] := by unfold looL; exact looK_self L _
  unfold crash1
  simp [e, craK]
theorem crS_keeps (S : List ByteArray) (L : List Nat) (x : PFs × List Bool) (h : getP x.1 sK = some ⟨L, L⟩) : ∀ j, getP (crS S j x).1 sK = some ⟨L, L⟩
  | 0 => h
  | j + 1 => by
    have ih := crS_keeps S L x h j
    show getP (setP (crS S j x).1 (S.getD j ByteArray.empty) (crash1 (filP (crS S j x).1 (S.getD j ByteArray.empty)) (crS S j x).2).1) sK = _
    by_cases c : S.getD j ByteArray.empty = sK
    · rw [c, getP_set_self _ _ _ _ ih]
      have e : filP (crS S j x).1 sK = ⟨L, L⟩ := by unfold filP; rw [ih]; rfl
      rw [e, crash1_self]
    · rw [getP_set _ _ _ _ (Ne.symm c)]; exact ih
theorem KP.crash {L : List Nat} {p : PD} (h : KP L p) (S : List ByteArray) (kp : List Bool) : KP L (crashP p S kp) := ⟨crS_keeps S L (p.fs, kp) h.1 _, rfl, rfl⟩
theorem KP.read {L : List Nat} {p : PD} (h : KP L p) : readC p sK = 0 ∧ readL p sK = L := by
  have c : readC p sK = 0 := by
    unfold readC faultC
    rw [h.2.1, misK, h.1]
    rfl
  refine ⟨c, ?_⟩
  unfold readL fileAt
  rw [if_pos c, h.1]
  rfl
theorem k_create : createP pd0 sK = qn sK [] := by kernel_rfl
theorem k_write (L : List Nat) (h : L.length ≤ 1000) : writeP (qn sK []) sK 0 L = qn sK L := by
  have c : writeC (qn sK []) sK 0 L = 0 := by
    unfold writeC
    rw [qn_on sK [] misK, if_pos rfl, qn_at, if_neg (by simp [beyB]), if_neg (by omega)]
  unfold writeP
  rw [if_pos c, qn_at, qn_down]
  show PD.mk (setP (qn sK []).fs sK ⟨overL [] 0 L, []⟩) false 0 = _
  rw [over0 [] L (.inl rfl)]
  simp [qn, setP]
theorem k_sync (L : List Nat) : KP L (syncP (qn sK L) sK) := by
  have c : syncC (qn sK L) sK = 0 := by unfold syncC; exact qn_on sK L misK
  unfold syncP
  rw [if_pos c, qn_at, qn_down]
  exact ⟨by simp [qn, setP, getP], rfl, rfl⟩
set_option maxHeartbeats 4000000 in
set_option maxRecDepth 20000 in
theorem apartLaw (v0 : Value) (n : Nat) (f : Nat → Opd) (v1 : Value) (L : List Nat) (w : World) (h0 : ODRow w v0 n f) (h1 : Rw w v1 L) : Calls Try.prog 6 #[v0, v1] w fun e w' => e = .returned (.bool true) ∧ Old w w' := by
  obtain ⟨hnm, pa, ca, rfl, hnc, hops⟩ := h0
  obtain ⟨pb, cb, rfl⟩ := h1.len
  have HO := hid hops
  clear hops
  by_cases hbig : 1000 < L.length
  · have l1 : (1000 : Int) < (L.length : Int) := by omega
    obtain ⟨L1, HR⟩ : ∃ L1, Hid (Rw w (.slice pb 1000 cb) L1 ∧ L1.length ≤ 1000) := ⟨L.take 1000, hid ⟨h1.take 1000 (by omega), by simp; omega⟩⟩
    obtain ⟨bk, offk, cap, ev, -, lc, mc⟩ := h1.cells (by omega)
    cases ev
    unfold maxLen at mc
    generalize L.length = ll at *
    have q1 : (1000 : Int) ≤ (cb : Int) := by omega
    have q2 : (cb : Int) ≤ 9223372036854775807 := by omega
    clear h1 hbig
    go_enter Try.func6, Try.ntmps6
    go_upto_region 5 with (first | (go_at_call 9; refine (newD w _ (Old.refl _)).mono ?_; rintro e w1 ⟨db, rfl, d1, _⟩; have D1 := hid d1; clear d1) | (go_at_call 10; refine (alive_any _).mono ?_; rintro e w2 ⟨rfl, u2⟩; have D2 := hid (D1.out.old u2); clear u2))
    clear D1
    go_wp2_with (first | (go_at_call 11; refine (createD w _ db _ _ sK D2.out).mono ?_; rintro e w3 ⟨rfl, d3, -⟩; rw [k_create] at d3; have D3 := hid d3; clear d3 D2) | (go_at_call 13; refine (writeD w _ db _ _ sK 0 _ L1 D3.out (HR.out.1.old D3.out.base) (fun h0 g e => .inl (HR.out.1.lt (List.length_pos_iff.2 h0) g e)) (by omega)).mono ?_; rintro e w4 ⟨rfl, d4, -⟩; rw [k_write L1 HR.out.2] at d4; have D4 := hid d4; clear d4 D3) | (go_at_call 16; refine (syncD w _ db _ _ sK D4.out).mono ?_; rintro e w5 ⟨rfl, d5, -⟩; have D5 := hid d5; clear d5 D4))
    go_loopw [6, 32] (fun us c wr => ∃ (i : Nat) (u : Int) (p : PD), i ≤ n ∧ c = .int .i64 (i : Nat) ∧ us = .int .i64 u ∧ KP L1 p ∧ Dsk w wr db p []) (fun _ c _ => n - (intOf c).toNat)
    case atStart => exact ⟨0, 0, _, Nat.zero_le _, rfl, rfl, k_sync L1, D5.out⟩
    case round =>
      obtain ⟨i, u, p, hi, rfl, rfl, hK, hD⟩ := hrel
      have HK := hid hK
      have HD := hid hD
      clear hK hD D5
      by_cases hlt : i < n
      · obtain ⟨bb, off, e, hok, hcell⟩ := HO.out i hlt
        subst e
        have HOk := hid hok
        have HCe := hid (show ∀ j, j < 6 → wr.cell? ⟨bb, off + i * 6 + j, none⟩ = (f i).cs[j]? from fun j hj => by
          have q := hcell j hj
          have hl : j < (f i).cs.length := hj
          rw [List.getElem?_eq_getElem hl] at q ⊢
          exact HD.out.base.keep q)
        clear hok hcell
        generalize f i = o at *
        obtain ⟨ok, oa, oz, on, ovb, oB, ovk, okp⟩ := o
        obtain ⟨pB, cB, eB⟩ := HOk.out.2.2.1.len
        obtain ⟨-, pk, ck, ek, -⟩ := HOk.out.2.2.2.1
        dsimp only at eB ek
        subst eB ek
        have c0 : wr.cell? ⟨bb, off + i * 6, none⟩ = some (.int .i64 ok) := HCe.out 0 (by omega)
        have c1 : wr.cell? ⟨bb, off + i * 6 + 1, none⟩ = some (.string oa) := HCe.out 1 (by omega)
        have c2 : wr.cell? ⟨bb, off + i * 6 + 2, none⟩ = some (.string oz) := HCe.out 2 (by omega)
        have c3 : wr.cell? ⟨bb, off + i * 6 + 3, none⟩ = some (.int .i64 on) := HCe.out 3 (by omega)
        have c4 : wr.cell? ⟨bb, off + i * 6 + 4, none⟩ = some (.slice pB oB.length cB) := HCe.out 4 (by omega)
        have c5 : wr.cell? ⟨bb, off + i * 6 + 5, none⟩ = some (.slice pk okp.length ck) := HCe.out 5 (by omega)
        have l2 : (0 : Int) ≤ (i : Int) := by omega
        have l3 : (i : Int) < (n : Int) := by omega
        have l4 : (n : Int) ≤ 9223372036854775807 := by omega
        clear HCe
        go_upto_region 14 with (fail)
        have HD1 := hid (HD.out.old ((Old.refl wr).alloc (.cells #[.int .i64 ok, .string oa, .string oz, .int .i64 on, .slice pB oB.length cB, .slice pk okp.length ck] 45)))
        generalize wrap64 (u + (oB.length : Int)) = u2
        generalize oB.length = lB at *
        generalize okp.length = lk at *
        clear c0 c1 c2 c3 c4 c5 HD
        by_cases hA : oa.toList = [107, 101, 112, 116]
        · go_wp2
          go_roundw
          case rel => exact ⟨i + 1, _, p, by omega, by go_num, rfl, HK.out, HD1.out⟩
          case measure => simp [intOf]; omega
        · have hA2 : (oa.toList == [107, 101, 112, 116]) = false := by rw [beq_eq_false_iff_ne]; exact hA
          have HA := hid (show oa ≠ sK from fun e => hA (by rw [e]; exact sK_list))
          by_cases h3 : ok = 3
          · subst h3
            by_cases hZ : oz.toList = [107, 101, 112, 116]
            · go_wp2
              go_roundw
              case rel => exact ⟨i + 1, _, p, by omega, by go_num, rfl, HK.out, HD1.out⟩
              case measure => simp [intOf]; omega
            · have hZ2 : (oz.toList == [107, 101, 112, 116]) = false := by rw [beq_eq_false_iff_ne]; exact hZ
              have HZ := hid (show (3 : Int) = 3 → oz ≠ sK from fun _ e => hZ (by rw [e]; exact sK_list))
              by_cases hU : 20000 < u2
              · go_wp2
                go_roundw
                case rel => exact ⟨i + 1, _, p, by omega, by go_num, rfl, HK.out, HD1.out⟩
                case measure => simp [intOf]; omega
              · have HKs := hid (HK.out.step ⟨3, oa, oz, on, .slice pB lB cB, oB, .slice pk lk ck, okp⟩ HA.out HZ.out)
                clear HA HZ
                go_wp2_with (first | (go_at_call 23; refine (stepL_any w _ db p [] ⟨3, oa, oz, on, _, oB, _, okp⟩ HD1.out HOk.out).mono ?_; rintro e w6 ⟨cc, rfl, d6, -⟩; have D6 := hid d6; have K6 := hid HKs.out; clear d6) | (go_at_call 17; refine (readD w _ db _ _ sK D6.out).mono ?_; rintro e w7 ⟨v7, rfl, o7, u7, -⟩; rw [K6.out.read.1]; rw [K6.out.read.2] at o7; have R7 := hid o7.row; have D7 := hid (D6.out.old u7); clear u7 o7 D6) | (go_at_call 20; refine (sameL _ _ L1 _ R7.out (HR.out.1.old D7.out.base)).mono ?_; rintro e w8 ⟨rfl, u8⟩; have D8 := hid (D7.out.old u8); clear u8 R7 D7))
                go_roundw
                case rel => exact ⟨i + 1, _, _, by omega, by go_num, rfl, K6.out, D8.out⟩
                case measure => simp [intOf]; omega
          · have h32 : (ok == 3) = false := by rw [beq_eq_false_iff_ne]; exact h3
            have HZ := hid (show ok = 3 → oz ≠ sK from fun q => absurd q h3)
            by_cases hU : 20000 < u2
            · go_wp2
              go_roundw
              case rel => exact ⟨i + 1, _, p, by omega, by go_num, rfl, HK.out, HD1.out⟩
              case measure => simp [intOf]; omega
            · have hU2 : True := trivial
              have HKs := hid (HK.out.step ⟨ok, oa, oz, on, .slice pB lB cB, oB, .slice pk lk ck, okp⟩ HA.out HZ.out)
              by_cases k1 : 1 ≤ ok
              · by_cases k6 : ok ≤ 6
                · clear HA HZ
                  go_wp2_with (first | (go_at_call 23; refine (stepL_any w _ db p [] ⟨ok, oa, oz, on, _, oB, _, okp⟩ HD1.out HOk.out).mono ?_; rintro e w6 ⟨cc, rfl, d6, -⟩; have D6 := hid d6; have K6 := hid HKs.out; clear d6) | (go_at_call 17; refine (readD w _ db _ _ sK D6.out).mono ?_; rintro e w7 ⟨v7, rfl, o7, u7, -⟩; rw [K6.out.read.1]; rw [K6.out.read.2] at o7; have R7 := hid o7.row; have D7 := hid (D6.out.old u7); clear u7 o7 D6) | (go_at_call 20; refine (sameL _ _ L1 _ R7.out (HR.out.1.old D7.out.base)).mono ?_; rintro e w8 ⟨rfl, u8⟩; have D8 := hid (D7.out.old u8); clear u8 R7 D7))
                  go_roundw
                  case rel => exact ⟨i + 1, _, _, by omega, by go_num, rfl, K6.out, D8.out⟩
                  case measure => simp [intOf]; omega
                · by_cases k9 : ok = 9
                  · subst k9
                    clear HA HZ
                    go_wp2_with (first | (go_at_call 18; refine (crashD w _ db _ _ _ okp HD1.out (HOk.out.2.2.2.1.old HD1.out.base) HOk.out.2.2.2.2.1 (fun h0 g e => .inl (HOk.out.2.2.2.2.2 h0 g e))).mono ?_; rintro e w6 ⟨rfl, S, -, -, d6, -⟩; have D6 := hid d6; have K6 := hid (HK.out.crash S okp); clear d6) | (go_at_call 17; refine (readD w _ db _ _ sK D6.out).mono ?_; rintro e w7 ⟨v7, rfl, o7, u7, -⟩; rw [K6.out.read.1]; rw [K6.out.read.2] at o7; have R7 := hid o7.row; have D7 := hid (D6.out.old u7); clear u7 o7 D6) | (go_at_call 20; refine (sameL _ _ L1 _ R7.out (HR.out.1.old D7.out.base)).mono ?_; rintro e w8 ⟨rfl, u8⟩; have D8 := hid (D7.out.old u8); clear u8 R7 D7))
                    go_roundw
                    case rel => exact ⟨i + 1, _, _, by omega, by go_num, rfl, K6.out, D8.out⟩
                    case measure => simp [intOf]; omega
                  · have k92 : (ok == 9) = false := by rw [beq_eq_false_iff_ne]; exact k9
                    have D6 := hid HD1.out
                    have K6 := hid HK.out
                    clear HA HZ
                    go_wp2_with (first | (go_at_call 17; refine (readD w _ db _ _ sK D6.out).mono ?_; rintro e w7 ⟨v7, rfl, o7, u7, -⟩; rw [K6.out.read.1]; rw [K6.out.read.2] at o7; have R7 := hid o7.row; have D7 := hid (D6.out.old u7); clear u7 o7 D6) | (go_at_call 20; refine (sameL _ _ L1 _ R7.out (HR.out.1.old D7.out.base)).mono ?_; rintro e w8 ⟨rfl, u8⟩; have D8 := hid (D7.out.old u8); clear u8 R7 D7))
                    go_roundw
                    case rel => exact ⟨i + 1, _, _, by omega, by go_num, rfl, K6.out, D8.out⟩
                    case measure => simp [intOf]; omega
              · have k9 : ¬ ok = 9 := by omega
                have k92 : (ok == 9) = false := by rw [beq_eq_false_iff_ne]; exact k9
                have D6 := hid HD1.out
                have K6 := hid HK.out
                clear HA HZ
                go_wp2_with (first | (go_at_call 17; refine (readD w _ db _ _ sK D6.out).mono ?_; rintro e w7 ⟨v7, rfl, o7, u7, -⟩; rw [K6.out.read.1]; rw [K6.out.read.2] at o7; have R7 := hid o7.row; have D7 := hid (D6.out.old u7); clear u7 o7 D6) | (go_at_call 20; refine (sameL _ _ L1 _ R7.out (HR.out.1.old D7.out.base)).mono ?_; rintro e w8 ⟨rfl, u8⟩; have D8 := hid (D7.out.old u8); clear u8 R7 D7))
                go_roundw
                case rel => exact ⟨i + 1, _, _, by omega, by go_num, rfl, K6.out, D8.out⟩
                case measure => simp [intOf]; omega
      · have l3 : ¬ ((i : Int) < (n : Int)) := by omega
        obtain rfl : i = n := by omega
        go_wp2
        go_ret
        exact ⟨rfl, HD.out.base⟩
  · have l1 : ¬ (1000 : Int) < (L.length : Int) := by omega
    obtain ⟨L1, HR⟩ : ∃ L1, Hid (Rw w (.slice pb L.length cb) L1 ∧ L1.length ≤ 1000) := ⟨L, hid ⟨h1, by omega⟩⟩
    clear h1 hbig
    generalize L.length = ll at *
    go_enter Try.func6, Try.ntmps6
    go_upto_region 5 with (first | (go_at_call 9; refine (newD w _ (Old.refl _)).mono ?_; rintro e w1 ⟨db, rfl, d1, _⟩; have D1 := hid d1; clear d1) | (go_at_call 10; refine (alive_any _).mono ?_; rintro e w2 ⟨rfl, u2⟩; have D2 := hid (D1.out.old u2); clear u2))
    clear D1
    go_wp2_with (first | (go_at_call 11; refine (createD w _ db _ _ sK D2.out).mono ?_; rintro e w3 ⟨rfl, d3, -⟩; rw [k_create] at d3; have D3 := hid d3; clear d3 D2) | (go_at_call 13; refine (writeD w _ db _ _ sK 0 _ L1 D3.out (HR.out.1.old D3.out.base) (fun h0 g e => .inl (HR.out.1.lt (List.length_pos_iff.2 h0) g e)) (by omega)).mono ?_; rintro e w4 ⟨rfl, d4, -⟩; rw [k_write L1 HR.out.2] at d4; have D4 := hid d4; clear d4 D3) | (go_at_call 16; refine (syncD w _ db _ _ sK D4.out).mono ?_; rintro e w5 ⟨rfl, d5, -⟩; have D5 := hid d5; clear d5 D4))
    go_loopw [6, 32] (fun us c wr => ∃ (i : Nat) (u : Int) (p : PD), i ≤ n ∧ c = .int .i64 (i : Nat) ∧ us = .int .i64 u ∧ KP L1 p ∧ Dsk w wr db p []) (fun _ c _ => n - (intOf c).toNat)
    case atStart => exact ⟨0, 0, _, Nat.zero_le _, rfl, rfl, k_sync L1, D5.out⟩
    case round =>
      obtain ⟨i, u, p, hi, rfl, rfl, hK, hD⟩ := hrel
      have HK := hid hK
      have HD := hid hD
      clear hK hD D5
      by_cases hlt : i < n
      · obtain ⟨bb, off, e, hok, hcell⟩ := HO.out i hlt
        subst e
        have HOk := hid hok
        have HCe := hid (show ∀ j, j < 6 → wr.cell? ⟨bb, off + i * 6 + j, none⟩ = (f i).cs[j]? from fun j hj => by
          have q := hcell j hj
          have hl : j < (f i).cs.length := hj
          rw [List.getElem?_eq_getElem hl] at q ⊢
          exact HD.out.base.keep q)
        clear hok hcell
        generalize f i = o at *
        obtain ⟨ok, oa, oz, on, ovb, oB, ovk, okp⟩ := o
        obtain ⟨pB, cB, eB⟩ := HOk.out.2.2.1.len
        obtain ⟨-, pk, ck, ek, -⟩ := HOk.out.2.2.2.1
        dsimp only at eB ek
        subst eB ek
        have c0 : wr.cell? ⟨bb, off + i * 6, none⟩ = some (.int .i64 ok) := HCe.out 0 (by omega)
        have c1 : wr.cell? ⟨bb, off + i * 6 + 1, none⟩ = some (.string oa) := HCe.out 1 (by omega)
        have c2 : wr.cell? ⟨bb, off + i * 6 + 2, none⟩ = some (.string oz) := HCe.out 2 (by omega)
        have c3 : wr.cell? ⟨bb, off + i * 6 + 3, none⟩ = some (.int .i64 on) := HCe.out 3 (by omega)
        have c4 : wr.cell? ⟨bb, off + i * 6 + 4, none⟩ = some (.slice pB oB.length cB) := HCe.out 4 (by omega)
        have c5 : wr.cell? ⟨bb, off + i * 6 + 5, none⟩ = some (.slice pk okp.length ck) := HCe.out 5 (by omega)
        have l2 : (0 : Int) ≤ (i : Int) := by omega
        have l3 : (i : Int) < (n : Int) := by omega
        have l4 : (n : Int) ≤ 9223372036854775807 := by omega
        clear HCe
        go_upto_region 14 with (fail)
        have HD1 := hid (HD.out.old ((Old.refl wr).alloc (.cells #[.int .i64 ok, .string oa, .string oz, .int .i64 on, .slice pB oB.length cB, .slice pk okp.length ck] 45)))
        generalize wrap64 (u + (oB.length : Int)) = u2
        generalize oB.length = lB at *
        generalize okp.length = lk at *
        clear c0 c1 c2 c3 c4 c5 HD
        by_cases hA : oa.toList = [107, 101, 112, 116]
        · go_wp2
          go_roundw
          case rel => exact ⟨i + 1, _, p, by omega, by go_num, rfl, HK.out, HD1.out⟩
          case measure => simp [intOf]; omega
        · have hA2 : (oa.toList == [107, 101, 112, 116]) = false := by rw [beq_eq_false_iff_ne]; exact hA
          have HA := hid (show oa ≠ sK from fun e => hA (by rw [e]; exact sK_list))
          by_cases h3 : ok = 3
          · subst h3
            by_cases hZ : oz.toList = [107, 101, 112, 116]
            · go_wp2
              go_roundw
              case rel => exact ⟨i + 1, _, p, by omega, by go_num, rfl, HK.out, HD1.out⟩
              case measure => simp [intOf]; omega
            · have hZ2 : (oz.toList == [107, 101, 112, 116]) = false := by rw [beq_eq_false_iff_ne]; exact hZ
              have HZ := hid (show (3 : Int) = 3 → oz ≠ sK from fun _ e => hZ (by rw [e]; exact sK_list))
              by_cases hU : 20000 < u2
              · go_wp2
                go_roundw
                case rel => exact ⟨i + 1, _, p, by omega, by go_num, rfl, HK.out, HD1.out⟩
                case measure => simp [intOf]; omega
              · have HKs := hid (HK.out.step ⟨3, oa, oz, on, .slice pB lB cB, oB, .slice pk lk ck, okp⟩ HA.out HZ.out)
                clear HA HZ
                go_wp2_with (first | (go_at_call 23; refine (stepL_any w _ db p [] ⟨3, oa, oz, on, _, oB, _, okp⟩ HD1.out HOk.out).mono ?_; rintro e w6 ⟨cc, rfl, d6, -⟩; have D6 := hid d6; have K6 := hid HKs.out; clear d6) | (go_at_call 17; refine (readD w _ db _ _ sK D6.out).mono ?_; rintro e w7 ⟨v7, rfl, o7, u7, -⟩; rw [K6.out.read.1]; rw [K6.out.read.2] at o7; have R7 := hid o7.row; have D7 := hid (D6.out.old u7); clear u7 o7 D6) | (go_at_call 20; refine (sameL _ _ L1 _ R7.out (HR.out.1.old D7.out.base)).mono ?_; rintro e w8 ⟨rfl, u8⟩; have D8 := hid (D7.out.old u8); clear u8 R7 D7))
                go_roundw
                case rel => exact ⟨i + 1, _, _, by omega, by go_num, rfl, K6.out, D8.out⟩
                case measure => simp [intOf]; omega
          · have h32 : (ok == 3) = false := by rw [beq_eq_false_iff_ne]; exact h3
            have HZ := hid (show ok = 3 → oz ≠ sK from fun q => absurd q h3)
            by_cases hU : 20000 < u2
            · go_wp2
              go_roundw
              case rel => exact ⟨i + 1, _, p, by omega, by go_num, rfl, HK.out, HD1.out⟩
              case measure => simp [intOf]; omega
            · have hU2 : True := trivial
              have HKs := hid (HK.out.step ⟨ok, oa, oz, on, .slice pB lB cB, oB, .slice pk lk ck, okp⟩ HA.out HZ.out)
              by_cases k1 : 1 ≤ ok
              · by_cases k6 : ok ≤ 6
                · clear HA HZ
                  go_wp2_with (first | (go_at_call 23; refine (stepL_any w _ db p [] ⟨ok, oa, oz, on, _, oB, _, okp⟩ HD1.out HOk.out).mono ?_; rintro e w6 ⟨cc, rfl, d6, -⟩; have D6 := hid d6; have K6 := hid HKs.out; clear d6) | (go_at_call 17; refine (readD w _ db _ _ sK D6.out).mono ?_; rintro e w7 ⟨v7, rfl, o7, u7, -⟩; rw [K6.out.read.1]; rw [K6.out.read.2] at o7; have R7 := hid o7.row; have D7 := hid (D6.out.old u7); clear u7 o7 D6) | (go_at_call 20; refine (sameL _ _ L1 _ R7.out (HR.out.1.old D7.out.base)).mono ?_; rintro e w8 ⟨rfl, u8⟩; have D8 := hid (D7.out.old u8); clear u8 R7 D7))
                  go_roundw
                  case rel => exact ⟨i + 1, _, _, by omega, by go_num, rfl, K6.out, D8.out⟩
                  case measure => simp [intOf]; omega
                · by_cases k9 : ok = 9
                  · subst k9
                    clear HA HZ
                    go_wp2_with (first | (go_at_call 18; refine (crashD w _ db _ _ _ okp HD1.out (HOk.out.2.2.2.1.old HD1.out.base) HOk.out.2.2.2.2.1 (fun h0 g e => .inl (HOk.out.2.2.2.2.2 h0 g e))).mono ?_; rintro e w6 ⟨rfl, S, -, -, d6, -⟩; have D6 := hid d6; have K6 := hid (HK.out.crash S okp); clear d6) | (go_at_call 17; refine (readD w _ db _ _ sK D6.out).mono ?_; rintro e w7 ⟨v7, rfl, o7, u7, -⟩; rw [K6.out.read.1]; rw [K6.out.read.2] at o7; have R7 := hid o7.row; have D7 := hid (D6.out.old u7); clear u7 o7 D6) | (go_at_call 20; refine (sameL _ _ L1 _ R7.out (HR.out.1.old D7.out.base)).mono ?_; rintro e w8 ⟨rfl, u8⟩; have D8 := hid (D7.out.old u8); clear u8 R7 D7))
                    go_roundw
                    case rel => exact ⟨i + 1, _, _, by omega, by go_num, rfl, K6.out, D8.out⟩
                    case measure => simp [intOf]; omega
                  · have k92 : (ok == 9) = false := by rw [beq_eq_false_iff_ne]; exact k9
                    have D6 := hid HD1.out
                    have K6 := hid HK.out
                    clear HA HZ
                    go_wp2_with (first | (go_at_call 17; refine (readD w _ db _ _ sK D6.out).mono ?_; rintro e w7 ⟨v7, rfl, o7, u7, -⟩; rw [K6.out.read.1]; rw [K6.out.read.2] at o7; have R7 := hid o7.row; have D7 := hid (D6.out.old u7); clear u7 o7 D6) | (go_at_call 20; refine (sameL _ _ L1 _ R7.out (HR.out.1.old D7.out.base)).mono ?_; rintro e w8 ⟨rfl, u8⟩; have D8 := hid (D7.out.old u8); clear u8 R7 D7))
                    go_roundw
                    case rel => exact ⟨i + 1, _, _, by omega, by go_num, rfl, K6.out, D8.out⟩
                    case measure => simp [intOf]; omega
              · have k9 : ¬ ok = 9 := by omega
                have k92 : (ok == 9) = false := by rw [beq_eq_false_iff_ne]; exact k9
                have D6 := hid HD1.out
                have K6 := hid HK.out
                clear HA HZ
                go_wp2_with (first | (go_at_call 17; refine (readD w _ db _ _ sK D6.out).mono ?_; rintro e w7 ⟨v7, rfl, o7, u7, -⟩; rw [K6.out.read.1]; rw [K6.out.read.2] at o7; have R7 := hid o7.row; have D7 := hid (D6.out.old u7); clear u7 o7 D6) | (go_at_call 20; refine (sameL _ _ L1 _ R7.out (HR.out.1.old D7.out.base)).mono ?_; rintro e w8 ⟨rfl, u8⟩; have D8 := hid (D7.out.old u8); clear u8 R7 D7))
                go_roundw
                case rel => exact ⟨i + 1, _, _, by omega, by go_num, rfl, K6.out, D8.out⟩
                case measure => simp [intOf]; omega
      · have l3 : ¬ ((i : Int) < (n : Int)) := by omega
        obtain rfl : i = n := by omega
        go_wp2
        go_ret
        exact ⟨rfl, HD.out.base⟩
end Go.Proofs.Ytggmejddihbhnaa
