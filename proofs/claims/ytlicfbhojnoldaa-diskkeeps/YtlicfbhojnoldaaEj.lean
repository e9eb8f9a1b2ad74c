/- The law DiskKeeps' walk; no condition. -/
import Derived.Test.YtlicfbhojnoldaaEi
namespace Go.Proofs.Ytlicfbhojnoldaa
open Go.RowKit Go.Lib Go.ChangeShapes Go.WideShapes
set_option linter.unusedVariables false
set_option linter.unusedSimpArgs false
set_option maxRecDepth 20000
theorem leN_anti {a b : ByteArray} (h : leN a b) (k : leN b a) : a = b := by
  have : a.data.toList = b.data.toList := List.le_antisymm h k
  cases a; cases b
  simpa using Array.toList_inj.1 this
theorem rise_one {S T K : List ByteArray} (hS : S.Perm K) (hT : T.Perm K) (h1 : S.Pairwise leN) (h2 : T.Pairwise leN) : S = T :=
  List.Perm.eq_of_pairwise (fun a b _ _ => leN_anti) h1 h2 (hS.trans hT.symm)
theorem OwnS.at {base : Nat} {w : World} {v : Value} {L : List ByteArray} (h : OwnS base w v L) : ∃ a c, v = .slice a L.length c ∧ L.length ≤ c ∧ L.length ≤ 9223372036854775807 ∧ ∀ i (hi : i < L.length), ∃ g, a = some ⟨g, 0, none⟩ ∧ w.cell? ⟨g, i, none⟩ = some (.string L[i]) := by
  rcases h.2 with ⟨rfl, e⟩ | ⟨g, cap, cur, rfl, hb, hg, h1, h2, h3, h4⟩
  · exact ⟨none, 0, by rw [e], by omega, by omega, fun i hi => by omega⟩
  · unfold maxLen at h2
    refine ⟨_, cap, rfl, h1, by omega, fun i hi => ⟨g, rfl, ?_⟩⟩
    rw [Go.Joins.cell_of_block hg, ← Array.getElem?_toList]
    have q : (cur.toList.take (L.length * 1))[i]? = cur.toList[i]? := by rw [List.getElem?_take, if_pos (by omega)]
    rw [← q, h4]
    simp [sv, hi]
set_option maxHeartbeats 4000000 in
set_option maxRecDepth 20000 in
theorem keepsLaw (v0 : Value) (n : Nat) (f : Nat → Opd) (nm : ByteArray) (v2 : Value) (B : List Nat) (at_ : Int) (v4 : Value) (M : List Nat) (w : World) (h0 : ODRow w v0 n f) (h2 : Rw w v2 B) (ha : -9223372036854775808 ≤ at_ ∧ at_ ≤ 9223372036854775807) (h4 : Rw w v4 M) : Calls Try.prog 3 #[v0, .string nm, v2, .int .i64 at_, v4] w fun e w' => e = .returned (.bool true) ∧ Old w w' := by
  obtain ⟨hnm, pa, ca, rfl, hnc, hops⟩ := h0
  have HO := hid hops
  have HA := hid ha
  have HB := hid h2
  have HM := hid h4
  have HBl := hid (show ∀ (h0 : B ≠ []) g, v2.ownBlock = some g → g < w.heap.size from fun h0 g e => HB.out.lt (List.length_pos_iff.2 h0) g e)
  have HMl := hid (show ∀ (h0 : M ≠ []) g, v4.ownBlock = some g → g < w.heap.size from fun h0 g e => HM.out.lt (List.length_pos_iff.2 h0) g e)
  clear hops ha h2 h4
  have tok1 : True := trivial
  go_enter Try.func3, Try.ntmps3
  go_upto_region 4 with (first | (go_at_call 5; have _t := tok1; clear tok1 _t; refine (newD w _ (Old.refl _)).mono ?_; rintro e w1 ⟨d1, rfl, dd1, _⟩; have D1 := hid dd1; clear dd1) | (go_at_call 5; refine (newD _ _ (Old.refl _)).mono ?_; rintro e w2 ⟨d2, rfl, dd2, _⟩; have D2 := hid (Two.make D1.out dd2); clear dd2 D1) | (go_at_call 6; refine (alive_any _).mono ?_; rintro e w3 ⟨rfl, u3⟩; have D3 := hid (D2.out.old u3); clear u3 D2))
  go_wp2
  go_loopw [13, 41] (fun us c wr => ∃ (i : Nat) (u : Int) (p : PD), i ≤ n ∧ c = .int .i64 (i : Nat) ∧ us = .int .i64 u ∧ KN p ∧ Two w wr d1 d2 p p) (fun _ c _ => n - (intOf c).toNat)
  case atStart => exact ⟨0, 0, _, Nat.zero_le _, rfl, rfl, KN.zero, D3.out⟩
  case round =>
    obtain ⟨i, u, p, hi, rfl, rfl, hK, hD⟩ := hrel
    have HK := hid hK
    have HD := hid hD
    clear hK hD D3
    by_cases hlt : i < n
    · obtain ⟨bb, off, e, hok, hcell⟩ := HO.out i hlt
      subst e
      have HOk := hid hok
      have HCe := hid (show ∀ j, j < 6 → wr.cell? ⟨bb, off + i * 6 + j, none⟩ = (f i).cs[j]? from fun j hj => by
        have q := hcell j hj
        have hl : j < (f i).cs.length := hj
        rw [List.getElem?_eq_getElem hl] at q ⊢
        exact HD.out.base.keep q)
      clear hok hcell
      generalize f i = o at *
      obtain ⟨ok, oa, oz, on, ovb, oB, ovk, okp⟩ := o
      obtain ⟨pB, cB, eB⟩ := HOk.out.2.2.1.len
      obtain ⟨-, pk, ck, ek, -⟩ := HOk.out.2.2.2.1
      dsimp only at eB ek
      subst eB ek
      have c0 : wr.cell? ⟨bb, off + i * 6, none⟩ = some (.int .i64 ok) := HCe.out 0 (by omega)
      have c1 : wr.cell? ⟨bb, off + i * 6 + 1, none⟩ = some (.string oa) := HCe.out 1 (by omega)
      have c2 : wr.cell? ⟨bb, off + i * 6 + 2, none⟩ = some (.string oz) := HCe.out 2 (by omega)
      have c3 : wr.cell? ⟨bb, off + i * 6 + 3, none⟩ = some (.int .i64 on) := HCe.out 3 (by omega)
      have c4 : wr.cell? ⟨bb, off + i * 6 + 4, none⟩ = some (.slice pB oB.length cB) := HCe.out 4 (by omega)
      have c5 : wr.cell? ⟨bb, off + i * 6 + 5, none⟩ = some (.slice pk okp.length ck) := HCe.out 5 (by omega)
      have l2 : (0 : Int) ≤ (i : Int) := by omega
      have l3 : (i : Int) < (n : Int) := by omega
      have l4 : (n : Int) ≤ 9223372036854775807 := by omega
      clear HCe
      go_upto_region 9 with (fail)
      have HD1 := hid (HD.out.old ((Old.refl wr).alloc (.cells #[.int .i64 ok, .string oa, .string oz, .int .i64 on, .slice pB oB.length cB, .slice pk okp.length ck] 29)))
      have HU1 := hid (show Old wr (wr.alloc (.cells #[.int .i64 ok, .string oa, .string oz, .int .i64 on, .slice pB oB.length cB, .slice pk okp.length ck] 29)) from (Old.refl wr).alloc _)
      have k0 : (wr.alloc (.cells #[.int .i64 ok, .string oa, .string oz, .int .i64 on, .slice pB oB.length cB, .slice pk okp.length ck] 29)).heap[wr.heap.size]? = some (.cells #[.int .i64 ok, .string oa, .string oz, .int .i64 on, .slice pB oB.length cB, .slice pk okp.length ck] 29) := alloc_at wr _
      generalize wrap64 (u + (oB.length : Int)) = u2
      generalize hlB : oB.length = lB at *
      generalize hlk : okp.length = lk at *
      clear hlB hlk c0 c1 c2 c3 c4 c5
      by_cases k1 : 1 ≤ ok
      · by_cases k6 : ok ≤ 6
        · by_cases hU : 20000 < u2
          · clear k0
            go_wp2
            go_roundw
            case rel => exact ⟨i + 1, _, p, by omega, by go_num, rfl, HK.out, HD1.out⟩
            case measure => simp [intOf]; omega
          · have tok2 : True := trivial
            obtain ⟨A1, dA, back1⟩ := HD.out.left
            have HA1 := hid (dA.add HU1.out [wr.heap.size] (by simp))
            have HB1 := hid (show ∀ (W' : World) (p' : PD), Dsk w W' d1 p' (A1 ++ [wr.heap.size]) → Kp (A1 ++ [wr.heap.size]) (wr.alloc (.cells #[.int .i64 ok, .string oa, .string oz, .int .i64 on, .slice pB lB cB, .slice pk lk ck] 29)) W' → Two w W' d1 d2 p' p from fun W' p' h k => back1 W' p' (h.less (fun g hg => List.mem_append_left _ hg)) ((Kp.old HU1.out).trans (k.less (fun g hg => List.mem_append_left _ hg))))
            have HX := hid (show wr.heap.size < (wr.alloc (.cells #[.int .i64 ok, .string oa, .string oz, .int .i64 on, .slice pB lB cB, .slice pk lk ck] 29)).heap.size from by simp)
            clear dA back1 HD HD1 HU1
            have HK0 := hid k0
            clear k0
            generalize wr.alloc (.cells #[.int .i64 ok, .string oa, .string oz, .int .i64 on, .slice pB lB cB, .slice pk lk ck] 29) = w5 at *
            generalize wr.heap.size = X at *
            have b0 : w5.cell? ⟨X, 0, none⟩ = some (.int .i64 ok) := by rw [Go.Joins.cell_of_block HK0.out]; rfl
            have b1 : w5.cell? ⟨X, 1, none⟩ = some (.string oa) := by rw [Go.Joins.cell_of_block HK0.out]; rfl
            have b2 : w5.cell? ⟨X, 2, none⟩ = some (.string oz) := by rw [Go.Joins.cell_of_block HK0.out]; rfl
            have b3 : w5.cell? ⟨X, 3, none⟩ = some (.int .i64 on) := by rw [Go.Joins.cell_of_block HK0.out]; rfl
            have b4 : w5.cell? ⟨X, 4, none⟩ = some (.slice pB lB cB) := by rw [Go.Joins.cell_of_block HK0.out]; rfl
            have b5 : w5.cell? ⟨X, 5, none⟩ = some (.slice pk lk ck) := by rw [Go.Joins.cell_of_block HK0.out]; rfl
            go_upto_region 11 with (go_at_call 7; refine (stepL_any w _ d1 p (A1 ++ [X]) ⟨ok, oa, oz, on, _, oB, _, okp⟩ HA1.out HOk.out).mono ?_; rintro e w6 ⟨cc, rfl, d6, k6⟩; have D6 := hid (HB1.out _ _ d6 k6); have E6 := hid ((k6.2 X (by simp) HX.out).trans HK0.out); clear d6 k6)
            clear b0 b1 b2 b3 b4 b5 HA1 HB1 HK0
            have b0 : w6.cell? ⟨X, 0, none⟩ = some (.int .i64 ok) := by rw [Go.Joins.cell_of_block E6.out]; rfl
            have b1 : w6.cell? ⟨X, 1, none⟩ = some (.string oa) := by rw [Go.Joins.cell_of_block E6.out]; rfl
            have b2 : w6.cell? ⟨X, 2, none⟩ = some (.string oz) := by rw [Go.Joins.cell_of_block E6.out]; rfl
            have b3 : w6.cell? ⟨X, 3, none⟩ = some (.int .i64 on) := by rw [Go.Joins.cell_of_block E6.out]; rfl
            have b4 : w6.cell? ⟨X, 4, none⟩ = some (.slice pB lB cB) := by rw [Go.Joins.cell_of_block E6.out]; rfl
            have b5 : w6.cell? ⟨X, 5, none⟩ = some (.slice pk lk ck) := by rw [Go.Joins.cell_of_block E6.out]; rfl
            obtain ⟨A2, dA2, back2⟩ := D6.out.swap.left
            have HA2 := hid dA2
            have HB2 := hid back2
            have HKs := hid (HK.out.step ⟨ok, oa, oz, on, .slice pB lB cB, oB, .slice pk lk ck, okp⟩)
            clear dA2 back2 HK
            go_wp2_with (go_at_call 7; refine (stepL_any w _ d2 p A2 ⟨ok, oa, oz, on, _, oB, _, okp⟩ HA2.out HOk.out).mono ?_; rintro e w7 ⟨cc2, rfl, d7, k7⟩; have D7 := hid (HB2.out _ _ d7 k7).swap; clear d7 k7)
            go_roundw
            case rel => exact ⟨i + 1, _, _, by omega, by go_num, rfl, HKs.out, D7.out⟩
            case measure => simp [intOf]; omega
        · clear k0
          go_wp2
          go_roundw
          case rel => exact ⟨i + 1, _, p, by omega, by go_num, rfl, HK.out, HD1.out⟩
          case measure => simp [intOf]; omega
      · clear k0
        go_wp2
        go_roundw
        case rel => exact ⟨i + 1, _, p, by omega, by go_num, rfl, HK.out, HD1.out⟩
        case measure => simp [intOf]; omega
    · have l3 : ¬ ((i : Int) < (n : Int)) := by omega
      obtain rfl : i = n := by omega
      obtain ⟨A, dA, back⟩ := HD.out.left
      have DA := hid dA
      have BK := hid back
      have HNd := hid (show (keysP p.fs).Nodup from dA.nod)
      have HLe := hid (show looN p.fs ≤ 1000000 from by have := dA.loo; omega)
      have HCr := hid (show ∀ S : List ByteArray, S.Perm (keysP p.fs) → crashP p S (List.replicate (looN p.fs) true) = ⟨allN p.fs, false, 0⟩ from fun S hS => crash_all p S HNd.out HK.out.2.2 hS)
      clear dA back HD hlt hi
      go_upto_region 14 with (first | (go_at_call 10; refine (looseD w _ d1 p A DA.out).mono ?_; rintro e w1 ⟨rfl, u1⟩; have U1 := hid u1; clear u1; generalize looN p.fs = lo at *) | (go_at_call 9; refine (all_any lo _ HLe.out).mono ?_; rintro e w2 ⟨g, rfl, r2, u2, gl, gh⟩; have R2 := hid r2; have U2 := hid (U1.out.trans u2); have D2 := hid ((DA.out.old U1.out).add u2 [g] (fun x hx => by cases List.mem_singleton.1 hx; exact ⟨gl, gh⟩)); clear r2 u2 gl gh) | (go_at_call 8; refine (crashD w _ d1 p (A ++ [g]) _ (List.replicate lo true) D2.out R2.out (.inr (.inl ⟨_, _, _, _, rfl⟩)) (fun _ g' e => by cases e; right; simp)).mono ?_; rintro e w3 ⟨rfl, S, hS, -, d3, k3⟩; rw [HCr.out S hS] at d3; have T3 := hid (BK.out _ _ (d3.less (fun g hg => List.mem_append_left _ hg)) ((Kp.old U2.out).trans (k3.less (fun g hg => List.mem_append_left _ hg)))); clear d3 k3 hS D2 R2 U1 U2))
      clear DA BK HCr HLe
      have HRd := hid (show ∀ s, readL ⟨allN p.fs, false, 0⟩ s = readL p s from fun s => allN_read p s HK.out.1)
      have HKy := hid (show keysP (⟨allN p.fs, false, 0⟩ : PD).fs = keysP p.fs from allN_keys p.fs)
      have HLo := hid (show looN (⟨allN p.fs, false, 0⟩ : PD).fs = 0 from allN_loo p.fs)
      generalize (⟨allN p.fs, false, 0⟩ : PD) = pc at *
      clear HK HNd
      go_upto_region 15 with (go_at_call 11; refine (namesD w _ d2 p [] T3.out.swap.one).mono ?_; rintro e w4 ⟨vn, S4, rfl, hS4, hP4, oS4, u4⟩; have HS4 := hid (And.intro hS4 hP4); have O4 := hid oS4; have T4 := hid (T3.out.old u4); clear T3 u4 hS4 hP4 oS4)
      obtain ⟨a4, c4, e4, lc4, lm4, -⟩ := O4.out.at
      subst e4
      go_upto_region 17 with (first | (go_at_call 11; refine (namesD w _ d1 pc [] T4.out.one).mono ?_; rintro e w5 ⟨vn5, S5, rfl, hS5, hP5, oS5, u5⟩; obtain rfl := rise_one (HKy.out ▸ hS5) HS4.out.1 hP5 HS4.out.2; obtain ⟨a5, c5, e5⟩ := oS5.len; subst e5; have T5 := hid (T4.out.old u5); have O5 := hid (O4.out.old u5); clear O4 T4 u5 hS5 hP5 oS5) | (go_at_call 10; refine (looseD w _ d1 pc [] T5.out.one).mono ?_; rintro e w6 ⟨rfl, u6⟩; rw [HLo.out]; have T6 := hid (T5.out.old u6); have O6 := hid (O5.out.old u6); clear O5 T5 u6))
      clear HLo
      go_upto_region 18 with (go_at_call 11; refine (namesD w _ d1 pc [] T6.out.one).mono ?_; rintro e w7 ⟨vn7, S7, rfl, hS7, hP7, oS7, u7⟩; obtain rfl := rise_one (HKy.out ▸ hS7) HS4.out.1 hP7 HS4.out.2; have T7 := hid (T6.out.old u7); have O7 := hid (O6.out.old u7); have Q7 := hid oS7; obtain ⟨a7, c7, e7, lc7, lm7, -⟩ := oS7.at; subst e7; clear O6 T6 u7 hS7 hP7 oS7)
      have HS7 := hid HS4.out
      clear HS4
      obtain ⟨L7, hl7⟩ : ∃ L7, L7 = S7.length := ⟨_, rfl⟩
      rw [← hl7] at lc4 lm4 lc7 lm7 O7 Q7 ⊢
      have HL7 := hid hl7.symm
      clear hl7 HKy
      go_wp2
      go_loopw [90] (fun c wr => ∃ (i : Nat), i ≤ L7 ∧ c = .int .i64 (i : Nat) ∧ Two w wr d1 d2 pc p ∧ OwnS w3.heap.size wr (.slice a4 L7 c4) S7 ∧ OwnS w6.heap.size wr (.slice a7 L7 c7) S7) (fun c _ => L7 - (intOf c).toNat)
      case atStart => exact ⟨0, Nat.zero_le _, rfl, T7.out, O7.out, Q7.out⟩
      case round =>
        obtain ⟨j, hj, rfl, hT, hO, hQ⟩ := hrel
        have HT := hid hT
        have HO2 := hid hO
        have HQ := hid hQ
        clear hT hO hQ T7 O7 Q7
        by_cases hlt : j < L7
        · have hl : j < S7.length := by rw [HL7.out]; exact hlt
          obtain ⟨x1, y1, z1, -, -, cc1⟩ := HO2.out.at
          obtain ⟨x2, y2, z2, -, -, cc2⟩ := HQ.out.at
          rw [HL7.out] at z1 z2
          obtain ⟨ex1, -, -⟩ := Value.slice.inj z1
          obtain ⟨ex2, -, -⟩ := Value.slice.inj z2
          clear z1 z2
          subst ex1 ex2
          obtain ⟨g1, eg1, cell1⟩ := cc1 j hl
          obtain ⟨g2, eg2, cell2⟩ := cc2 j hl
          subst eg1 eg2
          clear cc1 cc2
          have l1 : (0 : Int) ≤ (j : Int) := by omega
          have l2 : (j : Int) < (L7 : Int) := by omega
          generalize S7[j] = nm1 at *
          have HRn := hid (HRd.out nm1)
          clear HRd
          go_upto_region 21 with (go_at_call 12; refine (readD w _ d1 pc [] nm1 HT.out.one).mono ?_; rintro e w8 ⟨v8, rfl, o8, u8, -⟩; rw [HRn.out] at o8; have R8 := hid o8.row; have U8 := hid u8; have T8 := hid (HT.out.old u8); have cell1b := u8.keep cell1; clear o8 u8)
          go_wp2_with (first | (go_at_call 12; refine (readD w _ d2 p [] nm1 T8.out.swap.one).mono ?_; rintro e w9 ⟨v9, rfl, o9, u9, -⟩; have R9 := hid o9.row; have U9 := hid (U8.out.trans u9); have T9 := hid (T8.out.old u9); have R8b := hid (R8.out.old u9); have cell1c := u9.keep cell1b; clear o9 u9 R8 T8) | (go_at_call 13; refine (sameL _ _ (readL p nm1) _ R8b.out R9.out).mono ?_; rintro e w10 ⟨rfl, u10⟩; have T10 := hid (T9.out.old u10); have U10 := hid (U9.out.trans u10); clear u10))
          go_roundw
          case rel => exact ⟨j + 1, hlt, by go_num, T10.out, HO2.out.old U10.out, HQ.out.old U10.out⟩
          case measure => simp [intOf]; omega
        · have l2 : ¬ ((j : Int) < (L7 : Int)) := by omega
          have D1 := hid HT.out.one
          clear HT HO2 HQ HRd HS7 lc4 lm4 lc7 lm7 hlt HO
          go_upto_region 26 with (go_at_call 14; refine (createD w _ d1 pc [] nm D1.out).mono ?_; rintro e w12 ⟨rfl, dd2, -⟩; have D2 := hid dd2; clear dd2 D1)
          obtain ⟨p1, hp1⟩ : ∃ p1, createP pc nm = p1 := ⟨_, rfl⟩
          rw [hp1] at D2
          clear hp1
          obtain ⟨k1, hk1⟩ : ∃ k1, writeC p1 nm 0 B = k1 := ⟨_, rfl⟩
          obtain ⟨p2, hp2⟩ : ∃ p2, writeP p1 nm 0 B = p2 := ⟨_, rfl⟩
          obtain ⟨k2, hk2⟩ : ∃ k2, syncC p2 nm = k2 := ⟨_, rfl⟩
          have K1 := hid hk1
          have P2 := hid hp2
          have K2 := hid hk2
          clear hk1 hp2 hk2
          by_cases c1 : k1 = 0
          · by_cases c2 : k2 = 0
            · have E1 := hid (show writeC p1 nm 0 B = 0 from K1.out.trans c1)
              have E2 := hid (show syncC p2 nm = 0 from K2.out.trans c2)
              have HE := hid (keeps_end p2 nm at_ M E2.out)
              clear K1 K2 c1 c2 k1 k2
              go_upto_region 28 with (first | (go_at_call 15; refine (writeD w _ d1 _ [] nm 0 _ B D2.out (HB.out.old D2.out.base) (fun h0 g e => .inl (HBl.out h0 g e)) (by omega)).mono ?_; rintro e w13 ⟨rfl, dd3, -⟩; rw [E1.out]; rw [P2.out] at dd3; have D3 := hid dd3; clear dd3 D2) | (go_at_call 16; refine (syncD w _ d1 _ [] nm D3.out).mono ?_; rintro e w14 ⟨rfl, dd4, -⟩; rw [E2.out]; have D4 := hid dd4; clear dd4 D3))
              clear E1 E2 P2
              obtain ⟨p3, hp3⟩ : ∃ p3, syncP p2 nm = p3 := ⟨_, rfl⟩
              rw [hp3] at D4 HE
              clear hp3
              have HW := hid (show ∀ (W : World), W = W from fun _ => rfl)
              go_upto_region 29 with (go_at_call 12; refine (readD w _ d1 p3 [] nm D4.out).mono ?_; rintro e w15 ⟨v15, rfl, o15, u15, f15⟩; have O15 := hid o15; have D5 := hid (D4.out.add u15 v15.ownBlock.toList (fun g hg => ⟨f15 g (Option.mem_toList.1 hg), o15.lt g (Option.mem_toList.1 hg)⟩)); clear o15 u15 f15 D4)
              obtain ⟨a15, c15, e15⟩ := O15.out.len
              have HBk := hid (show ∀ g, v15.ownBlock = some g → g ∈ [] ++ v15.ownBlock.toList from fun g e => by rw [List.nil_append]; exact Option.mem_toList.2 e)
              generalize hA5 : [] ++ v15.ownBlock.toList = A5 at D5 HBk
              clear hA5
              subst e15
              go_upto_region 31 with (first | (go_at_call 15; refine (writeD w _ d1 p3 A5 nm at_ _ M D5.out (HM.out.old D5.out.base) (fun h0 g e => .inl (HMl.out h0 g e)) HA.out).mono ?_; rintro e w16 ⟨rfl, dd6, kk6⟩; have D6 := hid dd6; have O16 := hid (O15.out.kp kk6 HBk.out); clear dd6 kk6 D5 O15) | (go_at_call 8; refine (crashD w _ d1 _ A5 _ [] D6.out (BRow.none _) (.inl rfl) (fun h => by simp at h)).mono ?_; rintro e w17 ⟨rfl, S8, hS8, -, dd7, kk7⟩; have E7 := hid (HE.out.2 S8 hS8); have D7 := hid dd7; have O17 := hid (O16.out.kp kk7 HBk.out); clear dd7 kk7 D6 O16 hS8))
              go_wp2_with (first | (go_at_call 12; refine (readD w _ d1 _ A5 nm D7.out).mono ?_; rintro e w18 ⟨v18, rfl, o18, u18, -⟩; rw [E7.out.1]; rw [E7.out.2] at o18; have R18 := hid o18.row; have R17 := hid (O17.out.old u18).row; have U18 := hid (D7.out.base.trans u18); clear o18 u18) | (go_at_call 13; refine (sameL _ _ (readL p3 nm) _ R17.out R18.out).mono ?_; rintro e w19 ⟨rfl, u19⟩; have U19 := hid (U18.out.trans u19); clear u19))
              go_ret
              exact ⟨rfl, U19.out⟩
            · have c22 : (k2 == 0) = false := by rw [beq_eq_false_iff_ne]; exact c2
              have E1 := hid (show writeC p1 nm 0 B = 0 from K1.out.trans c1)
              clear K1 c1 k1
              go_wp2_with (first | (go_at_call 15; refine (writeD w _ d1 _ [] nm 0 _ B D2.out (HB.out.old D2.out.base) (fun h0 g e => .inl (HBl.out h0 g e)) (by omega)).mono ?_; rintro e w13 ⟨rfl, dd3, -⟩; rw [E1.out]; rw [P2.out] at dd3; have D3 := hid dd3; clear dd3 D2) | (go_at_call 16; refine (syncD w _ d1 _ [] nm D3.out).mono ?_; rintro e w14 ⟨rfl, dd4, -⟩; rw [K2.out]; have D4 := hid dd4; clear dd4 D3))
              go_ret
              exact ⟨rfl, D4.out.base⟩
          · have c12 : (k1 == 0) = false := by rw [beq_eq_false_iff_ne]; exact c1
            go_wp2_with (go_at_call 15; refine (writeD w _ d1 _ [] nm 0 _ B D2.out (HB.out.old D2.out.base) (fun h0 g e => .inl (HBl.out h0 g e)) (by omega)).mono ?_; rintro e w13 ⟨rfl, dd3, -⟩; rw [K1.out]; have D3 := hid dd3; clear dd3 D2)
            go_ret
            exact ⟨rfl, D3.out.base⟩
end Go.Proofs.Ytlicfbhojnoldaa
