/- serial.Reads at every history and order; conditions: the rows lie in memory. -/
import Derived.Test.YtgeinnaljlajoaaGreatJh
namespace Go.Proofs.YtgeinnaljlajoaaGreat
open Go.RowKit Go.Lib
set_option linter.unusedVariables false
set_option linter.unusedSimpArgs false
set_option maxRecDepth 20000
theorem drop_get (L : List Int) (k : Nat) (h : k < L.length) : L.drop k = L.getD k 0 :: L.drop (k + 1) := by
 rw [List.drop_eq_getElem_cons h]; simp [List.getD_eq_getElem?_getD, h]
theorem mem_getN (L : List Int) (k : Nat) (h : k < L.length) : L.getD k 0 ∈ L := by
 have e : L.getD k 0 = L[k] := by simp [List.getD_eq_getElem?_getD, h]
 rw [e]; exact List.getElem_mem h
attribute [local go_sem] run_bits run_frombits run_store_float eqF
set_option maxHeartbeats 4000000 in
theorem readsAlike_any (v vo : Value) (n : Nat) (d : Nat → Dn) (L : List Int) (key : Nat) (hk : Fl.W key) (hr : rtB d n = true) (hmem : ∀ x ∈ L, 1 ≤ x ∧ x ≤ n) (w : World) (hv : DRow w v n d) (ho : NRow w vo L) :
    Calls Tryz.prog 44 #[v, vo, .float .f64 key] w fun e w' => e = .returned (.bool (raF d key L 0)) ∧ Old w w' := by
 have hn64 := rtB_64 hr
 have HVr := hid (versions_any v n d key hk hn64 w hv)
 have HSn := hid (show ∀ i, i < n → 0 ≤ (d i).s.s3 ∧ (d i).s.s3 < (d i).n ∧ (d i).n = (i : Int) + 1 from fun i hi => by
  unfold rtB at hr
  rw [Bool.and_eq_true] at hr
  exact ⟨(okU_snap hr.2 i hi).1, (okU_snap hr.2 i hi).2, okU_num hr.2 i hi⟩)
 have HMem := hid hmem
 obtain ⟨hm, p, c, rfl, hnc, hcm, hc⟩ := hv
 obtain ⟨hm2, p2, c2, rfl, hc2⟩ := ho
 have HC := hid hc
 have HC2 := hid hc2
 have l0 : (n : Int) ≤ 64 := by omega
 have lL : (L.length : Int) ≤ 1099511627776 := by omega
 have HLen := hid (show ∀ k, k < L.length → 1 ≤ L.getD k 0 ∧ L.getD k 0 ≤ n from fun k hk => hmem _ (mem_getN L k hk))
 have HDr := hid (drop_get L)
 have HDn := hid (show L.drop L.length = [] from List.drop_length)
 have HRa := hid (show raF d key L 0 = raF d key (L.drop 0) 0 from by rw [List.drop_zero])
 generalize raF d key L 0 = ra at *
 generalize hLL : L.length = ll at *
 clear hc hc2 hm hm2 hnc hcm hmem hr hLL
 go_enter Tryz.func44, Tryz.ntmps44
 go_upto_region 2 with (go_at_call 78; refine HVr.out.mono ?_; rintro e w1 ⟨g, W, rfl, hgb, r1, wl, hW, u1⟩; have R1 := hid r1; have HWl := hid wl; have HVv := hid hW; have U1 := hid u1; clear hgb r1 wl hW u1)
 clear HVr
 go_wp2
 go_loopw [8, 17] (fun la i wr => ∃ (k : Nat) (last : Int), k ≤ ll ∧ la = .int .i64 last ∧ i = .int .i64 (k : Nat) ∧ ra = raF d key (L.drop k) last ∧ WRow wr g W 2 ∧ Old w wr) (fun _ i _ => ll - (intOf i).toNat)
 case atStart => exact ⟨0, 0, Nat.zero_le _, rfl, rfl, HRa.out, R1.out, U1.out⟩
 case round =>
  obtain ⟨k, last, hkl, rfl, rfl, hra, hR, hu⟩ := hrel
  have RR := hid hR
  have HX := hid hra
  clear hR hra R1 U1 HRa
  by_cases hlt : k < ll
  ·obtain ⟨go, oo, hao, co⟩ := HC2.out k hlt
   subst hao
   have xo := hu.keep co
   have hx := HLen.out k hlt
   obtain ⟨t, ht⟩ : ∃ t : Nat, L.getD k 0 = (t : Int) + 1 := ⟨(L.getD k 0 - 1).toNat, by omega⟩
   have tn : t < n := by omega
   rw [ht] at xo
   obtain ⟨gd, off, ha, c0, hs⟩ := HC.out t tn
   subst ha
   obtain ⟨x0, x1, x2, x3, x4, x5, x6⟩ := c0.old hu
   obtain ⟨sa, sb, sc⟩ := HSn.out t tn
   obtain ⟨sp, hsp⟩ : ∃ sp : Nat, (d t).s.s3 = (sp : Int) := ⟨(d t).s.s3.toNat, by omega⟩
   have HSp := hid hsp
   have spn : sp ≤ n := by omega
   have HVs := hid (HVv.out sp spn)
   have HRd := hid (fun (W' : World) (u : Old w W') => reads_any (d t).s key hk W' (hs.old u))
   have HWr := hid (fun (W' : World) (u : Old w W') => writes_any (d t).s key hk W' (hs.old u))
   have HSt0 := hid (show ra = if (readB (d t).s key && decide (ver d key sp ≠ last)) = true then false else raF d key (L.drop (k + 1)) (if writeB (d t).s key = true then (t : Int) + 1 else last) from by
    rw [HX.out, HDr.out k hlt, ht]
    show (if (readB (d ((t : Int) + 1 - 1).toNat).s key && decide (ver d key (d ((t : Int) + 1 - 1).toNat).s.s3.toNat ≠ last)) = true then false else raF d key (L.drop (k + 1)) (if writeB (d ((t : Int) + 1 - 1).toNat).s key = true then (t : Int) + 1 else last)) = _
    rw [show ((t : Int) + 1 - 1).toNat = t by omega, hsp, Int.toNat_natCast])
   have l1 : (0 : Int) ≤ (k : Int) := by omega
   have l2 : (k : Int) < (ll : Int) := by omega
   have l3 : (0 : Int) ≤ (t : Int) := by omega
   have l4 : (t : Int) < (n : Int) := by omega
   have l5 : (0 : Int) ≤ (sp : Int) := by omega
   have l6 : (sp : Int) < (n : Int) + 1 := by omega
   have UU := hid hu
   clear co hx ht c0 hs sa sb sc HX hu hsp HSn HC HC2 HLen HVv
   go_upto_region 7 with fail
   generalize hw3 : wr.alloc (.cells #[.int .i64 (d t).s.s1, .int .i64 (d t).s.s2, .int .i64 (d t).s.s3, .slice (d t).s.a1 (d t).s.n1 (d t).s.c1, .slice (d t).s.a2 (d t).s.n2 (d t).s.c2, .slice (d t).s.a3 (d t).s.n3 (d t).s.c3] 25) = w3 at *
   obtain ⟨hT, hV⟩ := sub_new wr (d t).s.s1 (d t).s.s2 (d t).s.s3 _ _ _ w3 hw3 _ rfl
   generalize wr.heap.size = mb at *
   have S3 := hid hT
   have U3 := hid (UU.out.trans hV)
   have R3 := hid (RR.out.old hV)
   clear hw3 hT hV x0 x1 x2 x3 x4 x5 x6 xo UU RR
   obtain ⟨t0, t1, t2, t3, t4, t5⟩ := S3.out
   generalize ver d key sp = vs at *
   cases hrb : readB (d t).s key
   ·rw [hrb] at HRd HSt0
    simp only [Bool.false_and, Bool.false_eq_true, if_false] at HSt0
    have HSt := HSt0
    clear HSt0 hrb HVs HSp
    cases hwb : writeB (d t).s key
    ·rw [hwb] at HWr HSt
     simp only [Bool.false_eq_true, if_false] at HSt
     clear hwb
     go_wp2_with (first | (go_at_call 79; refine (HRd.out _ U3.out).mono ?_; rintro e w4 ⟨rfl, v4⟩; have U4 := hid (U3.out.trans v4); have S4 := hid (SubAt.old v4 S3.out); have R4 := hid (R3.out.old v4); clear t0 t1 t2 t3 t4 t5; obtain ⟨t0, t1, t2, t3, t4, t5⟩ := SubAt.old v4 S3.out; clear v4) | (go_at_call 68; refine (HWr.out _ U4.out).mono ?_; rintro e w5 ⟨rfl, v5⟩; have U5 := hid (U4.out.trans v5); have R5 := hid (R4.out.old v5); clear v5))
     go_roundw
     case rel => exact ⟨k + 1, last, hlt, rfl, by go_num, HSt.out, R5.out, U5.out⟩
     case measure => simp [intOf]; omega
    ·rw [hwb] at HWr HSt
     simp only [if_true] at HSt
     clear hwb
     go_wp2_with (first | (go_at_call 79; refine (HRd.out _ U3.out).mono ?_; rintro e w4 ⟨rfl, v4⟩; have U4 := hid (U3.out.trans v4); have S4 := hid (SubAt.old v4 S3.out); have R4 := hid (R3.out.old v4); clear t0 t1 t2 t3 t4 t5; obtain ⟨t0, t1, t2, t3, t4, t5⟩ := SubAt.old v4 S3.out; clear v4) | (go_at_call 68; refine (HWr.out _ U4.out).mono ?_; rintro e w5 ⟨rfl, v5⟩; have U5 := hid (U4.out.trans v5); have R5 := hid (R4.out.old v5); clear v5))
     go_roundw
     case rel => exact ⟨k + 1, ((t : Int) + 1), hlt, rfl, by go_num, HSt.out, R5.out, U5.out⟩
     case measure => simp [intOf]; omega
   ·rw [hrb] at HRd HSt0
    rw [HSp.out] at t2
    by_cases hvl : vs = last
    ·have e0 : (vs == last) = true := by rw [beq_iff_eq]; exact hvl
     have e1 : (vs != last) = false := by rw [bne_eq_false_iff_eq]; exact hvl
     simp only [hvl, ne_eq, not_true_eq_false, decide_false, Bool.and_false, Bool.false_eq_true, if_false] at HSt0
     have HSt := HSt0
     have HS3 := hid (show SubAt mb (d t).s.s1 (d t).s.s2 (sp : Int) (.slice (d t).s.a1 (d t).s.n1 (d t).s.c1) (.slice (d t).s.a2 (d t).s.n2 (d t).s.c2) (.slice (d t).s.a3 (d t).s.n3 (d t).s.c3) w3 from by rw [← HSp.out]; exact S3.out)
     rw [HSp.out] at HRd HWr
     clear HSt0 hrb S3 hvl
     have S3 := HS3
     clear HS3
     cases hwb : writeB (d t).s key
     ·rw [hwb] at HWr HSt
      simp only [Bool.false_eq_true, if_false] at HSt
      clear hwb
      go_wp2_with (first | (go_at_call 79; refine (HRd.out _ U3.out).mono ?_; rintro e w4 ⟨rfl, v4⟩; have U4 := hid (U3.out.trans v4); have S4 := hid (SubAt.old v4 S3.out); have R4 := hid (R3.out.old v4); clear t0 t1 t2 t3 t4 t5; obtain ⟨t0, t1, t2, t3, t4, t5⟩ := SubAt.old v4 S3.out; obtain ⟨z0, _⟩ := (R3.out.old v4).cell sp (by have := HWl.out; omega); rw [HVs.out] at z0; clear v4) | (go_at_call 68; refine (HWr.out _ U4.out).mono ?_; rintro e w5 ⟨rfl, v5⟩; have U5 := hid (U4.out.trans v5); have R5 := hid (R4.out.old v5); clear v5))
      go_roundw
      case rel => exact ⟨k + 1, last, hlt, rfl, by go_num, HSt.out, R5.out, U5.out⟩
      case measure => simp [intOf]; omega
     ·rw [hwb] at HWr HSt
      simp only [if_true] at HSt
      clear hwb
      go_wp2_with (first | (go_at_call 79; refine (HRd.out _ U3.out).mono ?_; rintro e w4 ⟨rfl, v4⟩; have U4 := hid (U3.out.trans v4); have S4 := hid (SubAt.old v4 S3.out); have R4 := hid (R3.out.old v4); clear t0 t1 t2 t3 t4 t5; obtain ⟨t0, t1, t2, t3, t4, t5⟩ := SubAt.old v4 S3.out; obtain ⟨z0, _⟩ := (R3.out.old v4).cell sp (by have := HWl.out; omega); rw [HVs.out] at z0; clear v4) | (go_at_call 68; refine (HWr.out _ U4.out).mono ?_; rintro e w5 ⟨rfl, v5⟩; have U5 := hid (U4.out.trans v5); have R5 := hid (R4.out.old v5); clear v5))
      go_roundw
      case rel => exact ⟨k + 1, ((t : Int) + 1), hlt, rfl, by go_num, HSt.out, R5.out, U5.out⟩
      case measure => simp [intOf]; omega
    ·have e0 : (vs == last) = false := by rw [beq_eq_false_iff_ne]; exact hvl
     have e1 : (vs != last) = true := by rw [bne_iff_ne]; exact hvl
     have HF := hid (show ra = false from by rw [HSt0.out]; simp [hvl])
     have HS3 := hid (show SubAt mb (d t).s.s1 (d t).s.s2 (sp : Int) (.slice (d t).s.a1 (d t).s.n1 (d t).s.c1) (.slice (d t).s.a2 (d t).s.n2 (d t).s.c2) (.slice (d t).s.a3 (d t).s.n3 (d t).s.c3) w3 from by rw [← HSp.out]; exact S3.out)
     rw [HSp.out] at HRd
     clear HSt0 hrb S3 hvl
     have S3 := HS3
     clear HS3
     go_wp2_with (first | (go_at_call 79; refine (HRd.out _ U3.out).mono ?_; rintro e w4 ⟨rfl, v4⟩; have U4 := hid (U3.out.trans v4); have S4 := hid (SubAt.old v4 S3.out); have R4 := hid (R3.out.old v4); clear t0 t1 t2 t3 t4 t5; obtain ⟨t0, t1, t2, t3, t4, t5⟩ := SubAt.old v4 S3.out; obtain ⟨z0, _⟩ := (R3.out.old v4).cell sp (by have := HWl.out; omega); rw [HVs.out] at z0; clear v4))
     go_ret
     exact ⟨ret_b (by rw [HF.out]), U4.out⟩
  ·obtain rfl : k = ll := by omega
   have HF := hid (show ra = true from by rw [HX.out, HDn.out]; rfl)
   go_wp2
   go_ret
   exact ⟨ret_b (by rw [HF.out]), hu⟩
end Go.Proofs.YtgeinnaljlajoaaGreat
