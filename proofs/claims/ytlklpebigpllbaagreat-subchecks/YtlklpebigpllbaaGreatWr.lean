/- sub.ordered and sub.Check at every submission; conditions: the lengths fit. -/
import Derived.Test.YtlklpebigpllbaaGreatWq
import Derived.Sort.AtCall
namespace Go.Proofs.YtlklpebigpllbaaGreat
open Go.RowKit Go.Lib
set_option linter.unusedVariables false
set_option linter.unusedSimpArgs false
set_option maxRecDepth 20000
/-- A row of keys is as its form has it. -/
def ordF (x : Nat → Nat) (n : Nat) : Bool := decide (n = (Fl.sortL x n).length) && Fl.sameU x (atN (Fl.sortL x n)) n
def ordS (f : Nat → Sp) (n : Nat) : Bool := decide (n = (Fl.dfold (Fl.cdl f n)).length) && Fl.spU f (atS ((Fl.dfold (Fl.cdl f n)).map Fl.spo)) n
def chkO (m c k z o : Bool) : Int := if m = true then 43 else if c = true then 3 else if k = true then 40 else if z = true then 41 else if o = true then 0 else 42
/-- What Check answers. -/
def chkV (s1 s2 s3 : Int) (n1 n2 n3 : Nat) (x1 x3 : Nat → Nat) (f2 : Nat → Sp) : Int := chkO (misB s1 s2 s3) (crowdB n1 n2 n3) (Fl.anyG (fun i => Fl.nan (x1 i)) n1 || Fl.anyG (fun i => Fl.nan (x3 i)) n3) (Fl.anyG (fun i => Fl.csE (f2 i).a (f2 i).b (f2 i).p (f2 i).q) n2) (ordF x1 n1 && ordS f2 n2 && ordF x3 n3)
theorem csE_nan {a b : Nat} {p q : Bool} (h : Fl.csE a b p q = false) : Fl.nan a = false ∧ Fl.nan b = false := by
  have q := Fl.csE_false a b p q h
  exact ⟨q.2.2.1, q.2.2.2.1⟩
theorem anyG_each {g : Nat → Bool} : ∀ {n : Nat}, Fl.anyG g n = false → ∀ i, i < n → g i = false
  | n + 1, h, i, hi => by
    have h' : (Fl.anyG g n || g n) = false := h
    rw [Bool.or_eq_false_iff] at h'
    by_cases e : i = n
    · subst e; exact h'.2
    · exact anyG_each h'.1 i (by omega)
theorem sub_new (w : World) (s1 s2 s3 : Int) (v1 v2 v3 : Value) (w1 : World) (e : w.alloc (.cells #[.int .i64 s1, .int .i64 s2, .int .i64 s3, v1, v2, v3] 25) = w1) (m : Nat) (hm : w.heap.size = m) : SubAt m s1 s2 s3 v1 v2 v3 w1 ∧ Old w w1 := by
  subst e hm
  exact ⟨by simp [SubAt], (Old.refl w).alloc _⟩
theorem SRow.ws {w : World} {v : Value} {n : Nat} {f : Nat → Sp} (h : SRow w v n f) : ∀ i, i < n → Fl.W (f i).a ∧ Fl.W (f i).b := fun i hi => by
  obtain ⟨_, a, c, e, hc⟩ := h
  obtain ⟨b, off, _, q1, q2, _⟩ := hc i hi
  exact ⟨q1, q2⟩
theorem FRow.ws {w : World} {v : Value} {n : Nat} {x : Nat → Nat} (h : FRow w v n x) : ∀ i, i < n → Fl.W (x i) := fun i hi => by
  obtain ⟨_, a, c, e, hc⟩ := h
  obtain ⟨b, off, _, q1, _⟩ := hc i hi
  exact q1
attribute [local go_sem] run_bits run_frombits run_store_float eqF
set_option maxHeartbeats 4000000 in
set_option maxRecDepth 20000 in
theorem ordered_any (s1 s2 s3 : Int) (a1 a2 a3 : Option Addr) (n1 n2 n3 c1 c2 c3 : Nat) (x1 x3 : Nat → Nat) (f2 : Nat → Sp) (b1 : n1 ≤ 17592186044000) (b2 : n2 ≤ 5864062014805) (b3 : n3 ≤ 17592186044000) (w : World) (h1 : FRow w (.slice a1 n1 c1) n1 x1) (h2 : SRow w (.slice a2 n2 c2) n2 f2) (h3 : FRow w (.slice a3 n3 c3) n3 x3) (hn : ∀ i, i < n2 → Fl.nan (f2 i).a = false ∧ Fl.nan (f2 i).b = false) :
    Calls Tryz.prog 12 #[.agg #[.int .i64 s1, .int .i64 s2, .int .i64 s3, .slice a1 n1 c1, .slice a2 n2 c2, .slice a3 n3 c3]] w fun e w' => e = .returned (.bool (ordF x1 n1 && ordS f2 n2 && ordF x3 n3)) ∧ Old w w' := by
  have hk2 := Fl.dfold_ok _ (Fl.cdl f2 n2) rfl (Fl.cdl_RV f2 n2 h2.ws)
  have hl2 : (Fl.dfold (Fl.cdl f2 n2)).length ≤ n2 := by have := hk2.2.2; have := Fl.cdl_len f2 n2; omega
  have hl1 := Fl.sortL_len x1 n1
  have hl3 := Fl.sortL_len x3 n3
  have HT1 := hid (fun (W : World) v (h : FOwn w.heap.size W v (Fl.sortL x1 n1)) => h.row (sortL_W x1 n1 h1.ws) (by omega))
  have HT3 := hid (fun (W : World) v (h : FOwn w.heap.size W v (Fl.sortL x3 n3)) => h.row (sortL_W x3 n3 h3.ws) (by omega))
  have HT2 := hid (show ∀ (W : World) v, OwnS w.heap.size W v ((Fl.dfold (Fl.cdl f2 n2)).map Fl.spo) → SRow W v (Fl.dfold (Fl.cdl f2 n2)).length (atS ((Fl.dfold (Fl.cdl f2 n2)).map Fl.spo)) from fun W v h => by
    have q := h.row (fun s hs => by obtain ⟨r, hr, rfl⟩ := List.mem_map.1 hs; exact Fl.spo_W (hk2.1.2 r hr)) (by rw [List.length_map]; omega)
    rw [List.length_map] at q
    exact q)
  have HF := hid (fun (W : World) (u : Old w W) => form_any s1 s2 s3 a1 a2 a3 n1 n2 n3 c1 c2 c3 x1 x3 f2 b1 b2 b3 W (h1.old u) (h2.old u) (h3.old u))
  have R1 := hid h1
  have R2 := hid h2
  have R3 := hid h3
  have HNn := hid hn
  have HO1 := hid (show ordF x1 n1 = (decide (n1 = (Fl.sortL x1 n1).length) && Fl.sameU x1 (atN (Fl.sortL x1 n1)) n1) from rfl)
  have HO3 := hid (show ordF x3 n3 = (decide (n3 = (Fl.sortL x3 n3).length) && Fl.sameU x3 (atN (Fl.sortL x3 n3)) n3) from rfl)
  have HO2 := hid (show ordS f2 n2 = (decide (n2 = (Fl.dfold (Fl.cdl f2 n2)).length) && Fl.spU f2 (atS ((Fl.dfold (Fl.cdl f2 n2)).map Fl.spo)) n2) from rfl)
  clear h1 h2 h3 hn hk2 hl1 hl2 hl3
  generalize ordF x1 n1 = o1 at *
  generalize ordF x3 n3 = o3 at *
  generalize ordS f2 n2 = o2 at *
  generalize Fl.sortL x1 n1 = L1 at *
  generalize Fl.sortL x3 n3 = L3 at *
  generalize Fl.dfold (Fl.cdl f2 n2) = D at *
  go_enter Tryz.func12, Tryz.ntmps12
  go_upto_region 1 with fail
  generalize hw1 : w.alloc (.cells #[.int .i64 s1, .int .i64 s2, .int .i64 s3, .slice a1 n1 c1, .slice a2 n2 c2, .slice a3 n3 c3] 25) = w1 at *
  generalize hsb : w.heap.size = sb at *
  obtain ⟨hS, hV⟩ := sub_new w s1 s2 s3 _ _ _ w1 hw1 sb hsb
  have HV := hid hV
  have HS := hid hS
  have HSZ := hid (show sb ≤ w1.heap.size by have := hV.size; omega)
  obtain ⟨t0, t1, t2, t3, t4, t5⟩ := hS
  clear hw1 hV hsb
  go_upto_region 2 with (first | (go_at_call 27; refine (HF.out _ HV.out).mono ?_; rintro e w5 ⟨p1, p2, p3, q1, q2, q3, rfl, g1, g2, g3, u5⟩; have U5 := hid u5; have G1 := hid (g1.mono' HSZ.out); have G2 := hid (g2.mono' HSZ.out); have G3 := hid (g3.mono' HSZ.out); clear g1 g2 g3 u5))
  generalize hw2 : w5.alloc (.cells #[.int .i64 s1, .int .i64 s2, .int .i64 s3, .slice p1 L1.length q1, .slice p2 D.length q2, .slice p3 L3.length q3] 25) = w2 at *
  generalize hfb : w5.heap.size = fb at *
  obtain ⟨hS2, hV2⟩ := sub_new w5 s1 s2 s3 _ _ _ w2 hw2 fb hfb
  have HV2 := hid ((HV.out.trans U5.out).trans hV2)
  have F1 := hid (HT1.out _ _ (G1.out.old hV2))
  have F2 := hid (HT2.out _ _ (G2.out.old hV2))
  have F3 := hid (HT3.out _ _ (G3.out.old hV2))
  obtain ⟨y0, y1, y2, y3, y4, y5⟩ := SubAt.old (U5.out.trans hV2) HS.out
  obtain ⟨z0, z1, z2, z3, z4, z5⟩ := hS2
  have HB := hid (show SubAt sb s1 s2 s3 (.slice a1 n1 c1) (.slice a2 n2 c2) (.slice a3 n3 c3) w2 ∧ SubAt fb s1 s2 s3 (.slice p1 L1.length q1) (.slice p2 D.length q2) (.slice p3 L3.length q3) w2 from ⟨⟨y0, y1, y2, y3, y4, y5⟩, z0, z1, z2, z3, z4, z5⟩)
  clear hw2 hfb hV2 t0 t1 t2 t3 t4 t5 G1 G2 G3 HF HT1 HT2 HT3 HS
  have E1 := hid (fun (W : World) (u : Old w2 W) => equalF_any _ _ n1 L1.length x1 (atN L1) W (R1.out.old (HV2.out.trans u)) (F1.out.old u))
  have E3 := hid (fun (W : World) (u : Old w2 W) => equalF_any _ _ n3 L3.length x3 (atN L3) W (R3.out.old (HV2.out.trans u)) (F3.out.old u))
  have E2 := hid (fun (W : World) (u : Old w2 W) => equalS_any _ _ n2 D.length f2 (atS (D.map Fl.spo)) W (R2.out.old (HV2.out.trans u)) (F2.out.old u) HNn.out)
  rw [← HO1.out] at E1
  rw [← HO2.out] at E2
  rw [← HO3.out] at E3
  clear HO1 HO2 HO3 R1 R2 R3 F1 F2 F3 HNn
  cases o1
  · go_wp2_with (first | (go_at_call_of 28 (Value.slice a1 n1 c1); refine (E1.out _ (Old.refl _)).mono ?_; rintro e x5 ⟨rfl, u6⟩; have U6 := hid u6; clear u6))
    go_ret
    exact ⟨rfl, HV2.out.trans U6.out⟩
  · cases o2
    · go_wp2_with (first | (go_at_call_of 28 (Value.slice a1 n1 c1); refine (E1.out _ (Old.refl _)).mono ?_; rintro e x5 ⟨rfl, u6⟩; have U6 := hid u6; clear u6; obtain ⟨⟨_, _, _, _, y4', y5'⟩, _, _, _, _, z4', z5'⟩ := And.intro (SubAt.old U6.out HB.out.1) (SubAt.old U6.out HB.out.2)) | (go_at_call 30; refine (E2.out _ U6.out).mono ?_; rintro e x6 ⟨rfl, u7⟩; have U7 := hid (U6.out.trans u7); clear u7))
      go_ret
      exact ⟨rfl, HV2.out.trans U7.out⟩
    · go_wp2_with (first | (go_at_call_of 28 (Value.slice a1 n1 c1); refine (E1.out _ (Old.refl _)).mono ?_; rintro e x5 ⟨rfl, u6⟩; have U6 := hid u6; clear u6; obtain ⟨⟨_, _, _, _, y4', y5'⟩, _, _, _, _, z4', z5'⟩ := And.intro (SubAt.old U6.out HB.out.1) (SubAt.old U6.out HB.out.2)) | (go_at_call 30; refine (E2.out _ U6.out).mono ?_; rintro e x6 ⟨rfl, u7⟩; have U7 := hid (U6.out.trans u7); clear u7; obtain ⟨⟨_, _, _, _, _, y5''⟩, _, _, _, _, _, z5''⟩ := And.intro (SubAt.old U7.out HB.out.1) (SubAt.old U7.out HB.out.2)) | (go_at_call_of 28 (Value.slice a3 n3 c3); refine (E3.out _ U7.out).mono ?_; rintro e x7 ⟨rfl, u8⟩; have U8 := hid (U7.out.trans u8); clear u8))
      go_ret
      exact ⟨ret_b (by simp), HV2.out.trans U8.out⟩
set_option maxHeartbeats 4000000 in
set_option maxRecDepth 20000 in
theorem check_any (s1 s2 s3 : Int) (a1 a2 a3 : Option Addr) (n1 n2 n3 c1 c2 c3 : Nat) (x1 x3 : Nat → Nat) (f2 : Nat → Sp) (b1 : n1 ≤ 17592186044000) (b2 : n2 ≤ 5864062014805) (b3 : n3 ≤ 17592186044000) (w : World) (h1 : FRow w (.slice a1 n1 c1) n1 x1) (h2 : SRow w (.slice a2 n2 c2) n2 f2) (h3 : FRow w (.slice a3 n3 c3) n3 x3) :
    Calls Tryz.prog 4 #[.agg #[.int .i64 s1, .int .i64 s2, .int .i64 s3, .slice a1 n1 c1, .slice a2 n2 c2, .slice a3 n3 c3]] w fun e w' => e = .returned (.int .i64 (chkV s1 s2 s3 n1 n2 n3 x1 x3 f2)) ∧ Old w w' := by
  have HO := hid (fun (hz : Fl.anyG (fun i => Fl.csE (f2 i).a (f2 i).b (f2 i).p (f2 i).q) n2 = false) (W : World) (u : Old w W) => ordered_any s1 s2 s3 a1 a2 a3 n1 n2 n3 c1 c2 c3 x1 x3 f2 b1 b2 b3 W (h1.old u) (h2.old u) (h3.old u) (fun i hi => csE_nan (anyG_each hz i hi)))
  have HM := hid (fun (W : World) (u : Old w W) => misnamed_any s1 s2 s3 (.slice a1 n1 c1) (.slice a2 n2 c2) (.slice a3 n3 c3) W)
  have HC := hid (fun (W : World) (u : Old w W) => crowded_any s1 s2 s3 a1 a2 a3 n1 n2 n3 c1 c2 c3 W)
  have HK := hid (fun (W : World) (u : Old w W) => keyless_any s1 s2 s3 (.slice a1 n1 c1) (.slice a2 n2 c2) (.slice a3 n3 c3) n1 n3 x1 x3 W (h1.old u) (h3.old u))
  have HZ := hid (fun (W : World) (u : Old w W) => empties_any (.slice a2 n2 c2) n2 f2 W (h2.old u))
  unfold chkV
  generalize misB s1 s2 s3 = m at *
  generalize crowdB n1 n2 n3 = c at *
  generalize (Fl.anyG (fun i => Fl.nan (x1 i)) n1 || Fl.anyG (fun i => Fl.nan (x3 i)) n3) = k at *
  generalize Fl.anyG (fun i => Fl.csE (f2 i).a (f2 i).b (f2 i).p (f2 i).q) n2 = z at *
  generalize (ordF x1 n1 && ordS f2 n2 && ordF x3 n3) = o at *
  clear h1 h2 h3
  go_enter Tryz.func4, Tryz.ntmps4
  go_upto_region 1 with fail
  generalize hw1 : w.alloc (.cells #[.int .i64 s1, .int .i64 s2, .int .i64 s3, .slice a1 n1 c1, .slice a2 n2 c2, .slice a3 n3 c3] 25) = w1 at *
  generalize hsb : w.heap.size = sb at *
  obtain ⟨hS, hV⟩ := sub_new w s1 s2 s3 _ _ _ w1 hw1 sb hsb
  have HV := hid hV
  have HS := hid hS
  obtain ⟨t0, t1, t2, t3, t4, t5⟩ := hS
  clear hw1 hV hsb
  cases m
  · go_upto_region 3 with (first | (go_at_call 7; refine (HM.out _ HV.out).mono ?_; rintro e w2 ⟨rfl, u2⟩; have U2 := hid (HV.out.trans u2); have B2 := hid (SubAt.old u2 HS.out); clear u2))
    clear t0 t1 t2 t3 t4 t5 HS HM
    obtain ⟨t0, t1, t2, t3, t4, t5⟩ := B2.out
    cases c
    · go_upto_region 5 with (first | (go_at_call 8; refine (HC.out _ U2.out).mono ?_; rintro e w3 ⟨rfl, u3⟩; have U3 := hid (U2.out.trans u3); have B3 := hid (SubAt.old u3 B2.out); clear u3))
      clear t0 t1 t2 t3 t4 t5 B2 HC
      obtain ⟨t0, t1, t2, t3, t4, t5⟩ := B3.out
      cases k
      · go_upto_region 7 with (first | (go_at_call 9; refine (HK.out _ U3.out).mono ?_; rintro e w4 ⟨rfl, u4⟩; have U4 := hid (U3.out.trans u4); have B4 := hid (SubAt.old u4 B3.out); clear u4))
        clear t0 t1 t2 t3 t4 t5 B3 HK
        obtain ⟨t0, t1, t2, t3, t4, t5⟩ := B4.out
        cases z
        · have HO2 := hid (HO.out rfl)
          clear HO
          go_upto_region 9 with (first | (go_at_call 10; refine (HZ.out _ U4.out).mono ?_; rintro e w5 ⟨rfl, u5⟩; have U5 := hid (U4.out.trans u5); have B5 := hid (SubAt.old u5 B4.out); clear u5))
          clear t0 t1 t2 t3 t4 t5 B4 HZ
          obtain ⟨t0, t1, t2, t3, t4, t5⟩ := B5.out
          cases o
          · go_wp2_with (first | (go_at_call 12; refine (HO2.out _ U5.out).mono ?_; rintro e w6 ⟨rfl, u6⟩; have U6 := hid (U5.out.trans u6); clear u6))
            go_ret
            exact ⟨rfl, U6.out⟩
          · go_wp2_with (first | (go_at_call 12; refine (HO2.out _ U5.out).mono ?_; rintro e w6 ⟨rfl, u6⟩; have U6 := hid (U5.out.trans u6); clear u6))
            go_ret
            exact ⟨rfl, U6.out⟩
        · clear HO
          go_wp2_with (first | (go_at_call 10; refine (HZ.out _ U4.out).mono ?_; rintro e w5 ⟨rfl, u5⟩; have U5 := hid (U4.out.trans u5); clear u5))
          go_ret
          exact ⟨rfl, U5.out⟩
      · clear HO
        go_wp2_with (first | (go_at_call 9; refine (HK.out _ U3.out).mono ?_; rintro e w4 ⟨rfl, u4⟩; have U4 := hid (U3.out.trans u4); clear u4))
        go_ret
        exact ⟨rfl, U4.out⟩
    · clear HO
      go_wp2_with (first | (go_at_call 8; refine (HC.out _ U2.out).mono ?_; rintro e w3 ⟨rfl, u3⟩; have U3 := hid (U2.out.trans u3); clear u3))
      go_ret
      exact ⟨rfl, U3.out⟩
  · clear HO
    go_wp2_with (first | (go_at_call 7; refine (HM.out _ HV.out).mono ?_; rintro e w2 ⟨rfl, u2⟩; have U2 := hid (HV.out.trans u2); clear u2))
    go_ret
    exact ⟨rfl, U2.out⟩
end Go.Proofs.YtlklpebigpllbaaGreat
