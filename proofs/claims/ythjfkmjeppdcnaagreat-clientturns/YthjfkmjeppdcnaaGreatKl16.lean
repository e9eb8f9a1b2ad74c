/- The law ClientTurns, walked; conditions: its row lies in memory. -/
import Derived.Test.YthjfkmjeppdcnaaGreatClV
namespace Go.Proofs.YthjfkmjeppdcnaaGreat
open Go.RowKit Go.Lib
set_option linter.unusedVariables false
set_option linter.unusedSimpArgs false
set_option maxRecDepth 20000
attribute [local go_sem] run_bits run_frombits run_store_float eqF
def TuI (w : World) (cb : Nat) (L : List Int) (c : Sb) (i : Nat) (rv : Value) (W : World) : Prop := ∃ FB, KSx w cb FB (tuC L (i % L.length) c) W ∧ Ci.OwnI w.heap.size W rv (ringL L i) ∧ ∀ g, rv.ownBlock = some g → g ∉ FB
theorem OwnI.empty' {w0 w : World} (u : Old w0 w) : Ci.OwnI w0.heap.size (w.alloc (.cells #[] 3)) (.slice (some ⟨w.heap.size, 0, none⟩) 0 0) [] := World.ownsRow_made w #[] 0 u.size (by unfold maxLen; omega) rfl
def inB (f : Nat → Int) (lead : Int) (j : Nat) : Bool := (f j == lead) && (decide (1 ≤ f j) && decide (f j ≤ 7))
theorem in_has {f : Nat → Int} {lead : Int} {n : Nat} (h : Ci.anyK (inB f lead) n = true) : Ci.hasK f lead n = true ∧ 1 ≤ lead ∧ lead ≤ 7 := by
 obtain ⟨j, hj, e⟩ := (Ci.anyK_iff _ n).1 h
 unfold inB at e
 simp only [Bool.and_eq_true, beq_iff_eq, decide_eq_true_eq] at e
 refine ⟨(Ci.anyK_iff _ n).2 ⟨j, hj, by simp [e.1]⟩, ?_, ?_⟩ <;> omega
set_option maxHeartbeats 16000000 in
theorem turnsLaw (v : Value) (n : Nat) (f : Nat → Int) (nn lead : Int) (w : World) (hm : Ci.NRowL w v n f) :
    Calls Tryz.prog 3 #[v, .int .i64 nn, .int .i64 lead] w fun e w' => e = .returned (.bool true) ∧ Old w w' := by
 obtain ⟨N, hN, hand0⟩ := and_mask nn 31 (by omega)
 have hand : bits .and .i64 nn 31 = (N : Int) := hand0
 clear hand0
 have HAl := hid (fun (W : World) => alive_any W)
 have HNw := hid (KSx.new 1 v n f w w (Old.refl w) hm)
 obtain ⟨hmn, p, pc, rfl, hm1, hm2, hmc⟩ := hm
 have HX := hid hmc
 clear hmc
 go_enter Tryz.func3, Tryz.ntmps3
 go_upto_region 2 with (go_at_call 6; refine HNw.out.mono ?_; rintro e w1 ⟨cb, FB, rfl, k, u⟩; have K1 := hid k; clear k u)
 go_upto_region 4 with (go_at_call 7; refine (HAl.out w1).mono ?_; rintro e w2 ⟨rfl, u⟩; have K2 := hid (K1.out.old u); clear u)
 clear K1 HAl HNw
 go_upto_region 6 with (go_at_call 8; refine ((K2.out.old ((Old.refl w2).alloc _)).add (oneR w2.heap.size 4607182418800017408) (oneR_ok w2 _ (by unfold Fl.W; omega))).mono ?_; rintro e w3 (⟨_, rfl, p1, p2, p3, q1, q2, q3, FB3, k, m⟩ | ⟨z, _⟩); have K3 := hid k; clear k m; rw [show (newC 1 f n).la + 1 = 1 from rfl]; rotate_left; exact absurd (exR_zero f n w2.heap.size) z)
 have HK3 := hid (show ∃ c FB, KSx w cb FB (tuC (msL f n) 0 c) w3 from ⟨_, _, K3.out⟩)
 clear K2 K3
 obtain ⟨c, FB4, k4⟩ := HK3.out
 have HI4 := hid (show TuI w cb (msL f n) c 0 (.slice (some ⟨w3.heap.size, 0, none⟩) 0 0) (w3.alloc (.cells #[] 3)) from ⟨FB4, by rw [Nat.zero_mod]; exact k4.old ((Old.refl w3).alloc _), OwnI.empty' k4.2.2.1, fun g e q => by cases e; exact Nat.lt_irrefl _ (k4.lt _ q).2⟩)
 have hL1 := k4.1.m1
 have HLu := hid k4.1.mu
 have HLr := hid k4.1.mr
 have hck := hid (k4.1.ck (1, c) (by simp [tuC]))
 rw [show (tuC (msL f n) 0 c).ms = msL f n from rfl] at hL1 HLu HLr
 have HMs := hid (fun (h : Ci.hasK f lead n = true) (h1 : 1 ≤ lead) (h2 : lead ≤ 7) => msL_mem f n lead h h1 h2)
 clear k4 HK3
 generalize msL f n = L at *
 go_upto_region 9 with fail
 generalize w3.alloc (.cells #[] 3) = w4 at *
 generalize w3.heap.size = rb0 at *
 have HL1 := hid hL1
 clear hL1
 go_wp2
 go_loopw [10, 11] (fun rv iv wx => ∃ i : Nat, i ≤ N ∧ iv = .int .i64 (i : Nat) ∧ Hid (TuI w cb L c i rv wx)) (fun _ i _ => N - (intOf i).toNat)
 case atStart => exact ⟨0, Nat.zero_le _, rfl, HI4⟩
 case round =>
  clear HI4
  obtain ⟨i, hi, rfl, HI⟩ := hrel
  obtain ⟨FB, k0, o0, n0⟩ := HI.out
  obtain ⟨ra, rc, hrv⟩ := o0.len
  rw [ringL_len] at hrv
  subst hrv
  have K0 := hid k0
  have O0 := hid o0
  have N0 := hid n0
  clear HI k0 o0 n0
  by_cases hlt : i < N
  ·have d1 : decide ((i : Int) < (N : Int)) = true := by simp; omega
   obtain ⟨y, hy⟩ : ∃ y, ringF L i = y := ⟨_, rfl⟩
   have HY := hid hy
   have hyr : 1 ≤ y ∧ y ≤ 7 := by
    have := HLr.out _ (tgt_mem K0.out.1)
    rw [tuC_tgt, hy] at this
    exact this
   have d2 : decide (y < 1) = false := by simp; omega
   have d3 : decide (y > 7) = false := by simp; omega
   have d3b : decide (7 < y) = false := by simp; omega
   obtain ⟨nb, hnb⟩ : ∃ nb, c.enc.length = nb := ⟨_, rfl⟩
   have hpos : 0 < nb := by rw [← hnb]; exact c.enc_pos hck.out
   have d4 : ((nb : Int) == 0) = false := by simp; omega
   have HNx := hid (fun e W' (q : NxPost (tuC L (i % L.length) c) wr e W') => show ∃ va vc, e = .returned (.tuple #[.int .i64 y, .slice va nb vc, .bool true]) ∧ Old wr W' from by
    obtain ⟨v6, rfl, o6, u6⟩ := q
    obtain ⟨va, vc, rfl⟩ := OwnL.slice' o6
    exact ⟨va, vc, by rw [tuC_tgt, hy, hnb], u6⟩)
   clear hy hnb
   go_upto_region 15 with (go_at_call 9; refine (K0.out.st.next).mono ?_; intro e w5 q; obtain ⟨va, vc, rfl, u5⟩ := HNx.out e w5 q; have U5 := hid u5; clear q u5)
   clear d2 d3 d3b d4 HNx
   have hi31 : i ≤ 31 := by omega
   go_wp2
   go_loopw [15] (fun kv wx => ∃ k : Nat, k ≤ i ∧ kv = .int .i64 (k : Nat) ∧ Old w5 wx) (fun k _ => i - (intOf k).toNat)
   case atStart => exact ⟨0, Nat.zero_le _, rfl, Old.refl _⟩
   case round =>
    obtain ⟨k, hk, rfl, hup⟩ := hrel
    have UR := hid hup
    clear hup
    by_cases hkl : k < i
    ·have d5 : decide ((k : Int) < (i : Int)) = true := by simp; omega
     obtain ⟨g, cap, hs, hc⟩ := OwnI.at O0.out k (by rw [ringL_len]; exact hkl)
     rw [ringL_len] at hs
     have e1 : ra = some ⟨g, 0, none⟩ ∧ rc = cap := by
      simp only [Value.slice.injEq] at hs
      exact ⟨hs.1, hs.2.2⟩
     obtain ⟨rfl, rfl⟩ := e1
     clear hs
     have hcx := (U5.out.trans UR.out).keep hc
     have hx : (ringL L i)[k]'(by rw [ringL_len]; exact hkl) = ringF L k := by simp [ringL]
     rw [hx] at hcx
     clear hc hx
     obtain ⟨x, hx⟩ : ∃ x, ringF L k = x := ⟨_, rfl⟩
     rw [hx] at hcx
     have HXk := hid hx
     have l1 : (0 : Int) ≤ (k : Int) := by omega
     have l2 : (k : Int) < (i : Int) := by omega
     clear hx
     by_cases hxy : x = y
     ·have HRow := hid ((O0.out.up (U5.out.trans UR.out)).rowL (n := i) (f := fun j => (ringL L i).getD j 0) (by rw [ringL_len]; omega) (ringL_len L i) (fun j hj => rfl))
      have HTurn := hid (fun (r : Int) (hr : RoundIs (fun j => (ringL L i).getD j 0) i r) => ring_turn (by have := HL1.out.1; omega) HLu.out (fun j hj => ringL_get L i j hj) hkl (by show (ringL L i).getD k 0 = _; rw [ringL_get L i k hkl, HXk.out, hxy, HY.out]) hr)
      subst hxy
      have t1 : (x == x) = true := by simp
      have w1 : IntKind.i64.wrap ((i : Int) - (k : Int)) = (i : Int) - (k : Int) := IntWalk.i64_in _ (by omega)
      clear HXk HY
      go_wp2_with (go_at_call 10; refine (round_any _ i _ wr HRow.out).mono ?_; rintro e w7 ⟨r, rfl, hr, u7⟩; have UR7 := hid (UR.out.trans u7); have hz := HTurn.out r hr; obtain ⟨hd, -, -⟩ := ring_div hr (by omega); obtain ⟨M, hM⟩ : ∃ M, max r 1 = M := ⟨_, rfl⟩; rw [hM] at hz hd; have hd2 : (M == 0) = false := beq_eq_false_iff_ne.2 hd; clear hr u7)
      go_roundw
      case rel => exact ⟨k + 1, by omega, by go_num, UR7.out⟩
      case measure => simp [intOf]; omega
     ·have t1 : (x == y) = false := by simp [hxy]
      clear hxy HXk HY
      go_wp2
      go_roundw
      case rel => exact ⟨k + 1, by omega, by go_num, UR.out⟩
      case measure => simp [intOf]; omega
    ·have hki : k = i := by omega
     subst hki
     have K5 := hid (K0.out.old (U5.out.trans UR.out))
     have O5 := hid (O0.out.up (U5.out.trans UR.out))
     have HMod := hid (show (k % L.length + 1) % L.length = (k + 1) % L.length from Nat.mod_add_mod ..)
     clear hkl K0 O0 U5 UR
     go_upto_region 20 with fail
     have K6 := hid (K5.out.old ((Old.refl wr).alloc (.cells #[.int .i64 y] 3)))
     have O6 := hid (O5.out.up ((Old.refl wr).alloc (.cells #[.int .i64 y] 3)))
     have hc := Ci.cell_oneI wr y _ rfl
     clear K5 O5
     go_upto_region 21 with (at_builtin; refine Ci.wp_appI rfl _ _ rfl w.heap.size (.slice ra k rc) (ringL L k) wr.heap.size 1 y rfl rfl O6.out hc (by rw [ringL_len]; omega) K6.out.2.2.1.size ?_; intro v' w8 h1 h2 h3; have O8 := hid h1; have K8 := hid (K6.out.chg (Chg.grownB h2) (fun g q z => N0.out g (by simpa [Option.mem_toList] using z) q) (Old.below K6.out.2.2.1 (Below.grown (Below.refl _ _) h2 K6.out.2.2.1.size (fun g e => (World.ownsRow.lt O6.out g e).1)))); have N8 := hid (show ∀ g, v'.ownBlock = some g → g ∉ FB from fun g e q => by rcases h3 with z | z; exact N0.out g (z ▸ e) q; rw [z] at e; cases e; exact Nat.lt_irrefl _ (K6.out.lt _ q).2); clear h1 h2 h3)
     clear K6 O6 N0 hc
     go_wp2_with (go_at_call 11; refine (K8.out.heard 1 0 0 50 0 (by unfold N64; omega)).mono ?_; rintro e w9 ⟨k9, FB9, rfl, -, kk, mm⟩; rw [tuC_down, HMod.out] at kk; have K9 := hid kk; have M9 := hid mm; clear kk mm)
     go_roundw
     case rel => exact ⟨k + 1, by omega, by go_num, hid ⟨FB9, K9.out, by rw [ringL_succ, HY.out]; exact O8.out.chg M9.out.c (fun g e q => N8.out g e q), fun g e q => (M9.out.r g q).elim (N8.out g e) (fun z => by have := (World.ownsRow.lt O8.out g e).2; omega)⟩⟩
     case measure => simp [intOf]; omega
  ·have hiN : i = N := by omega
   subst hiN
   clear hlt O0 N0
   have HLd0 := hid (fun (k : Nat) (h : LdAt (tuC L (i % L.length) c) lead k) (hin : lead ∈ L) => show k < L.length ∧ L.getD k 0 = lead from by
    rcases h with h | ⟨_, h⟩
    ·exact h
    ·exfalso
     obtain ⟨j, hj, e⟩ := List.getElem_of_mem hin
     refine h j hj ?_
     show L.getD j 0 = lead
     rw [List.getD_eq_getElem?_getD, List.getElem?_eq_getElem hj, Option.getD_some, e])
   go_upto_region 23 with (go_at_call 11; refine (K0.out.heard 1 0 0 180 lead (by unfold N64; omega)).mono ?_; rintro e w9 ⟨k9, FB9, rfl, ld, kk, -⟩; have HLd := hid (HLd0.out k9 ld); rw [tuC_lead] at kk; have K9 := hid kk; clear kk ld)
   clear K0 HLd0
   have HTg := hid (fun (hin : lead ∈ L) => show tgt (tuC L (if k9 < L.length then k9 else (i % L.length + 1) % L.length) c) = lead from by
    obtain ⟨a, b⟩ := HLd.out hin
    rw [if_pos a]
    exact b)
   have KS := hid K9.out.st
   clear HLd K9
   have HRs := hid (show (tuC L (if k9 < L.length then k9 else (i % L.length + 1) % L.length) c).rs = [] from rfl)
   generalize tuC L (if k9 < L.length then k9 else (i % L.length + 1) % L.length) c = s9 at *
   go_wp2
   go_loopw [16, 104] (fun bv iv wx => ∃ k : Nat, k ≤ n ∧ iv = .int .i64 (k : Nat) ∧ bv = .bool (Ci.anyK (inB f lead) k) ∧ Old w9 wx) (fun _ k _ => n - (intOf k).toNat)
   case atStart => exact ⟨0, Nat.zero_le _, rfl, rfl, Old.refl _⟩
   case round =>
    obtain ⟨k, hk, rfl, rfl, hup⟩ := hrel
    have UR := hid hup
    clear hup
    by_cases hkl : k < n
    ·obtain ⟨g, off, rfl, hc⟩ := HX.out k hkl
     have hcx := (KS.out.2.2.1.trans UR.out).keep hc
     have l1 : (0 : Int) ≤ (k : Int) := by omega
     have l2 : (k : Int) < (n : Int) := by omega
     have HS := hid (show Ci.anyK (inB f lead) (k + 1) = (Ci.anyK (inB f lead) k || ((f k == lead) && (decide (1 ≤ f k) && decide (f k ≤ 7)))) from rfl)
     generalize f k = x at *
     generalize Ci.anyK (inB f lead) k = b0 at *
     have hge : decide (x ≥ 1) = decide (1 ≤ x) := rfl
     generalize hb1 : (x == lead) = b1 at *
     generalize hb2 : decide (1 ≤ x) = b2 at *
     generalize hb3 : decide (x ≤ 7) = b3 at *
     clear hc
     cases b0 <;> cases b1 <;> cases b2 <;> cases b3 <;> (go_wp2; go_roundw; (case rel => exact ⟨k + 1, by omega, by go_num, (by rw [HS.out]; rfl), UR.out⟩); (case measure => (simp [intOf]; omega)))
    ·have hkn : k = n := by omega
     subst hkn
     have HIn := hid (fun h => in_has (f := f) (lead := lead) (n := k) h)
     generalize Ci.anyK (inB f lead) k = b0 at *
     have K9 := hid (KS.out.old UR.out)
     clear hkl KS UR
     cases b0
     ·go_wp2_with (go_at_call 13; refine K9.out.results.mono ?_; rintro e wa ⟨va, rfl, oa, ua⟩; obtain ⟨pa, ca, rfl⟩ := OwnR.len oa; rw [HRs.out]; have K10 := hid (K9.out.old ua); clear oa ua)
      go_ret
      exact ⟨rfl, K10.out.2.2.1⟩
     ·obtain ⟨i1, i2, i3⟩ := HIn.out rfl
      have HT := hid (HTg.out (HMs.out i1 i2 i3))
      have t1 : (lead == lead) = true := by simp
      clear HTg HMs HIn i1 i2 i3
      go_wp2_with (first | (go_at_call 12; refine K9.out.target.mono ?_; rintro e wb ⟨rfl, ub⟩; have K9b := hid (K9.out.old ub); rw [HT.out]; clear ub) | (go_at_call 13; refine K9b.out.results.mono ?_; rintro e wa ⟨va, rfl, oa, ua⟩; obtain ⟨pa, ca, rfl⟩ := OwnR.len oa; rw [HRs.out]; have K10 := hid (K9b.out.old ua); clear oa ua))
      go_ret
      exact ⟨rfl, K10.out.2.2.1⟩
end Go.Proofs.YthjfkmjeppdcnaaGreat
