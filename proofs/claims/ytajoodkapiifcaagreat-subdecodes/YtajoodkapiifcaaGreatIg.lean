/- The document's take at all bytes; conditions: the bytes lie in memory. -/
import Derived.Test.YtajoodkapiifcaaGreatIa
import Derived.Test.YtajoodkapiifcaaGreatScE
namespace Go.Proofs.YtajoodkapiifcaaGreat
open Go.RowKit Go.Lib
set_option linter.unusedVariables false
set_option linter.unusedSimpArgs false
set_option maxRecDepth 20000
theorem cut_row {w : World} {b off cap k : Nat} {L : List Nat} (h : Pk.ByRow w (.slice (some ⟨b, off, none⟩) L.length cap) L.length (Pk.gd L)) (hk : k ≤ L.length) (o : Nat) (ho : o = if cap = k then off else off + k) : Pk.ByRow w (.slice (some ⟨b, o, none⟩) (L.length - k) (cap - k)) (L.drop k).length (Pk.gd (L.drop k)) := by
 rw [gd_drop, List.length_drop]
 rcases h with ⟨h0, _⟩ | ⟨hn, hm, b', off', cap', hv, hc, hcp⟩
 ·exact .inl ⟨by omega, _, _, by rw [show L.length - k = 0 by omega], fun h => by cases h⟩
 ·cases hv
  by_cases hz : L.length - k = 0
  ·exact .inl ⟨hz, _, _, by rw [hz], fun h => by cases h⟩
  ·rw [if_neg (by omega)] at ho
   subst ho
   refine .inr ⟨by omega, by omega, b, off + k, cap - k, rfl, fun i hi => ?_, by omega, by omega⟩
   have q := hc (k + i) (by omega)
   rw [← Nat.add_assoc] at q
   exact q
theorem tkK_cut {D B : List Nat} {x : Nat} (h : tkK D = some (x, B)) : 8 ≤ D.length ∧ Pk.lkK (Pk.gd D) D.length = 8 ∧ Pk.lkV (Pk.gd D) D.length = x ∧ B = D.drop 8 := by
 unfold tkK at h
 split at h
 ·cases h
 ·rename_i hk
  have e : Pk.lkK (Pk.gd D) D.length = 8 ∧ 8 ≤ D.length := by
   unfold Pk.lkK at hk ⊢
   by_cases q : 8 ≤ D.length ∧ Fl.isCode (Pk.lkC (Pk.gd D) 8) = true
   ·rw [if_pos q]; exact ⟨rfl, q.1⟩
   ·rw [if_neg q] at hk; exact absurd rfl hk
  cases h
  exact ⟨e.2, e.1, rfl, by rw [e.1]⟩
theorem tkC_cut {most n : Nat} {L B : List Nat} (h : tkC most L = some (n, B)) : Pk.lnK (Pk.gd L) L.length ≠ 0 ∧ Pk.lnK (Pk.gd L) L.length ≤ L.length ∧ Pk.lnV (Pk.gd L) L.length = (n : Int) ∧ n ≤ most ∧ B = L.drop (Pk.lnK (Pk.gd L) L.length) := by
 unfold tkC tkN at h
 by_cases q : Pk.lnK (Pk.gd L) L.length = 0
 ·rw [if_pos q] at h; cases h
 ·rw [if_neg q] at h
  simp only at h
  split at h
  ·rename_i k
   cases h
   exact ⟨q, Pk.ln_le _ _ 11 0, by omega, by omega, rfl⟩
  ·cases h
theorem tkC_no {most : Nat} {L : List Nat} (h : tkC most L = none) : Pk.lnK (Pk.gd L) L.length = 0 ∨ Pk.lnK (Pk.gd L) L.length ≠ 0 ∧ (Pk.lnV (Pk.gd L) L.length < 0 ∨ 0 ≤ Pk.lnV (Pk.gd L) L.length ∧ (most : Int) < Pk.lnV (Pk.gd L) L.length) := by
 unfold tkC tkN at h
 by_cases q : Pk.lnK (Pk.gd L) L.length = 0
 ·exact .inl q
 ·rw [if_neg q] at h
  simp only at h
  split at h
  ·cases h
  ·rename_i k
   right; refine ⟨q, ?_⟩; omega
theorem tkKs_succ (n : Nat) (L : List Nat) : tkKs (n + 1) L = match tkK L with | none => none | some (x, B) => match tkKs n B with | none => none | some (xs, C) => some (x :: xs, C) := rfl
def TakePost (base : Nat) (o : Option (List Nat × List Nat)) (w : World) (e : Ending) (w' : World) : Prop := Old w w' ∧ ((o = none ∧ e = .returned (.tuple #[.slice none 0 0, .slice none 0 0, .bool false])) ∨ ∃ xs B u v, o = some (xs, B) ∧ e = .returned (.tuple #[u, v, .bool true]) ∧ OwnF base w' u xs ∧ Pk.ByRow w' v B.length (Pk.gd B))
attribute [local go_sem] run_bits run_frombits run_store_float eqF
set_option maxHeartbeats 1000000 in
theorem take1_no (v : Value) (L : List Nat) (most : Nat) (hmo : most ≤ 16) (w : World) (hB : Pk.ByRow w v L.length (Pk.gd L)) (hn : tkC most L = none) :
    Calls Tryz.prog 27 #[v, .int .i64 (most : Int), .int .i64 1] w fun e w' => TakePost w.heap.size none w e w' := by
 have HG := hid (Pk.refGetNum_any v _ _ w hB)
 have hcase := tkC_no hn
 have hm1 : (most : Int) ≤ 16 := by omega
 clear hB hn
 generalize Pk.lnK (Pk.gd L) L.length = K at *
 generalize Pk.lnV (Pk.gd L) L.length = V at *
 have HP : Hid (∀ W, W = w → TakePost w.heap.size none w (.returned (.tuple #[.slice none 0 0, .slice none 0 0, .bool false])) W) := fun W e => by subst e; exact ⟨Old.refl _, .inl ⟨rfl, rfl⟩⟩
 rcases hcase with h0 | ⟨h0, h1 | ⟨h1, h2⟩⟩
 ·subst h0
  go_enter Tryz.func27, Tryz.ntmps27
  go_wp2_with (first | (go_at_call 26; refine HG.out.mono ?_; rintro e w1 ⟨rfl, hw⟩; have hw2 := hw.symm; subst hw2))
  refine bodyPost_ret (v := .tuple #[.slice none 0 0, .slice none 0 0, .bool false]) (by simp [results, Tryz.results27, go_sem]) rfl (HP.out _ rfl)
 ·have tk : ((K : Int) == 0) = false := by rw [beq_eq_false_iff_ne]; omega
  go_enter Tryz.func27, Tryz.ntmps27
  go_wp2_with (first | (go_at_call 26; refine HG.out.mono ?_; rintro e w1 ⟨rfl, hw⟩; have hw2 := hw.symm; subst hw2))
  refine bodyPost_ret (v := .tuple #[.slice none 0 0, .slice none 0 0, .bool false]) (by simp [results, Tryz.results27, go_sem]) rfl (HP.out _ rfl)
 ·have tk : ((K : Int) == 0) = false := by rw [beq_eq_false_iff_ne]; omega
  go_enter Tryz.func27, Tryz.ntmps27
  go_wp2_with (first | (go_at_call 26; refine HG.out.mono ?_; rintro e w1 ⟨rfl, hw⟩; have hw2 := hw.symm; subst hw2))
  refine bodyPost_ret (v := .tuple #[.slice none 0 0, .slice none 0 0, .bool false]) (by simp [results, Tryz.results27, go_sem]) rfl (HP.out _ rfl)
set_option maxHeartbeats 2000000 in
theorem take1_some (v : Value) (L : List Nat) (hL : LB L) (most n : Nat) (B : List Nat) (hmo : most ≤ 16) (w : World) (hB : Pk.ByRow w v L.length (Pk.gd L)) (hn : tkC most L = some (n, B)) :
    Calls Tryz.prog 27 #[v, .int .i64 (most : Int), .int .i64 1] w fun e w' => TakePost w.heap.size (tkKs (n) B) w e w' := by
 have HG := hid (Pk.refGetNum_any v _ _ w hB)
 obtain ⟨hk0, hkl, hV, hnm, hBd⟩ := tkC_cut hn
 rw [hV] at HG
 obtain ⟨b, off, cap, rfl, hcc, hnc, hmx⟩ := hB.cells (by omega)
 unfold maxLen at hmx
 obtain ⟨o, hif, hro⟩ : ∃ o, (if cap = Pk.lnK (Pk.gd L) L.length then (some ⟨b, off, none⟩ : Option Addr) else some ⟨b, off + Pk.lnK (Pk.gd L) L.length, none⟩) = some ⟨b, o, none⟩ ∧ Pk.ByRow w (.slice (some ⟨b, o, none⟩) (L.length - Pk.lnK (Pk.gd L) L.length) (cap - Pk.lnK (Pk.gd L) L.length)) B.length (Pk.gd B) := by
  refine ⟨if cap = Pk.lnK (Pk.gd L) L.length then off else off + Pk.lnK (Pk.gd L) L.length, by split <;> rfl, ?_⟩
  rw [hBd]
  exact cut_row hB hkl _ rfl
 have HBr := hid hro
 clear hro
 have tk : ((Pk.lnK (Pk.gd L) L.length : Int) == 0) = false := by rw [beq_eq_false_iff_ne]; omega
 have HLB := hid (tkC_some hL hn).2.2
 clear hB hn hcc hV hBd hL
 generalize Pk.lnK (Pk.gd L) L.length = K at *
 generalize L.length = N at *
 have t1 : decide ((n : Int) < 0) = false := by rw [decide_eq_false_iff_not]; omega
 have t2 : decide (most < n) = false := by rw [decide_eq_false_iff_not]; omega
 have t3 : decide ((most : Int) < (n : Int)) = false := by rw [decide_eq_false_iff_not]; omega
 have l1 : (0 : Int) ≤ (n : Int) := by omega
 have l2 : (n : Int) ≤ (most : Int) := by omega
 have l3 : (most : Int) ≤ 16 := by omega
 have l4 : (0 : Int) ≤ (K : Int) := by omega
 have l5 : (K : Int) ≤ (N : Int) := by omega
 have l6 : (K : Int) ≤ (cap : Int) := by omega
 have HP : Hid (∀ xs B' u vv W, OwnF w.heap.size W u xs → Pk.ByRow W vv B'.length (Pk.gd B') → Old w W → tkKs (n) B = some (xs, B') → TakePost w.heap.size (tkKs (n) B) w (.returned (.tuple #[u, vv, .bool true])) W) := fun xs B' u vv W h1 h2 h3 h4 => ⟨h3, .inr ⟨xs, B', u, vv, h4, rfl, h1, h2⟩⟩
 have HPn : Hid (∀ W, Old w W → tkKs (n) B = none → TakePost w.heap.size (tkKs (n) B) w (.returned (.tuple #[.slice none 0 0, .slice none 0 0, .bool false])) W) := fun W h3 h4 => ⟨h3, .inl ⟨h4, rfl⟩⟩
 go_enter Tryz.func27, Tryz.ntmps27
 go_upto_region 4 with (first | (go_at_call 26; refine HG.out.mono ?_; rintro e w1 ⟨rfl, hw⟩; have hw2 := hw.symm; subst hw2))
 go_wp2
 go_loopw [0, 11, 12] (fun vb vo i wr => ∃ (j : Nat) (D xs : List Nat) (ub uo : Value), ub = vb ∧ uo = vo ∧ j ≤ n ∧ i = .int .i64 (j : Nat) ∧ OwnF w.heap.size wr uo xs ∧ Pk.ByRow w ub D.length (Pk.gd D) ∧ xs.length = j ∧ tkKs (n) B = (tkKs (n - j) D).map (fun p => (xs ++ p.1, p.2)) ∧ Old w wr) (fun _ _ i _ => n - (intOf i).toNat)
 case atStart => exact ⟨0, B, [], _, _, rfl, rfl, Nat.zero_le _, rfl, OwnF.empty (Nat.le_refl _) rfl, HBr.out, rfl, by rw [Nat.sub_zero]; cases tkKs (n) B <;> rfl, (Old.refl w).alloc _⟩
 case round =>
  obtain ⟨j, D, xs, ub, uo, rfl, rfl, hj, rfl, hO, hR, hl, hE, hU⟩ := hrel
  have HO := hid hO
  have HU := hid hU
  have HE := hid hE
  clear hO hE HBr
  by_cases hlt : j < n
  ·have lj : (j : Int) < (n : Int) := by omega
   have lj0 : (0 : Int) ≤ (j : Int) := by omega
   cases e : tkK D with
   | none =>
    have HK := hid (Pk.one_key ub _ _ wr (hR.up hU))
    have hz : Pk.lkK (Pk.gd D) D.length = 0 := by
     unfold tkK at e
     split at e
     ·assumption
     ·cases e
    unfold Pk.OneK at HK
    rw [hz] at HK
    have HNo := hid (show tkKs (n) B = none from by
     rw [HE.out, show n - j = (n - j - 1) + 1 by omega, tkKs_succ, e]; rfl)
    clear hz e HE hR hU
    go_upto_region 10 with (first | (go_at_call 50; refine HK.out.mono ?_; rintro e w3 ⟨X, rfl, _, u3⟩; have U3 := hid (HU.out.trans u3); clear u3))
    have U4 := hid (U3.out.alloc (.cells #[.int .i64 2, .int .i64 0, .float .f64 X, .slice none 0 0, .bool false] 84))
    generalize w3.alloc (.cells #[.int .i64 2, .int .i64 0, .float .f64 X, .slice none 0 0, .bool false] 84) = w4 at *
    go_wp2
    refine bodyPost_ret (v := .tuple #[.slice none 0 0, .slice none 0 0, .bool false]) (by simp [results, Tryz.results27, go_sem]) rfl (HPn.out _ U4.out HNo.out)
   | some p =>
    obtain ⟨x, D'⟩ := p
    obtain ⟨h8, hK8, hVx, hD'⟩ := tkK_cut e
    obtain ⟨b1, off1, cap1, rfl, hcc1, hnc1, hmx1⟩ := hR.cells (by omega)
    unfold maxLen at hmx1
    have HK := hid (Pk.one_key _ _ _ wr (hR.up hU))
    unfold Pk.OneK at HK
    rw [hK8, hVx] at HK
    obtain ⟨o1, hif1, hro1⟩ : ∃ o1, (if cap1 = 8 then (some ⟨b1, off1, none⟩ : Option Addr) else some ⟨b1, off1 + 8, none⟩) = some ⟨b1, o1, none⟩ ∧ Pk.ByRow w (.slice (some ⟨b1, o1, none⟩) (D.length - 8) (cap1 - 8)) D'.length (Pk.gd D') := by
     refine ⟨if cap1 = 8 then off1 else off1 + 8, by split <;> rfl, ?_⟩
     rw [hD']
     exact cut_row hR h8 _ rfl
    have HR2 := hid hro1
    have HNx := hid (show tkKs (n) B = (tkKs (n - (j + 1)) D').map (fun p => ((xs ++ [x]) ++ p.1, p.2)) from by
     rw [HE.out, show n - j = (n - (j + 1)) + 1 by omega, tkKs_succ, e]
     simp only
     cases tkKs (n - (j + 1)) D' with
     | none => rfl
     | some q => simp)
    have m1 : (8 : Int) ≤ (D.length : Int) := by omega
    have m2 : (8 : Int) ≤ (cap1 : Int) := by omega
    have m3 : 8 ≤ cap1 := by omega
    have HL := hid (show xs.length + 1 ≤ 17592186044416 by omega)
    have HLx := hid hl
    clear hro1 e HE hR hU hD' hVx hK8 hcc1 hl
    generalize D.length = ND at *
    go_upto_region 10 with (first | (go_at_call 50; refine HK.out.mono ?_; rintro e w3 ⟨X, rfl, hX, u3⟩; have U3 := hid u3; have hX2 : X = x := hX (by omega); subst hX2; clear u3 hX))
    generalize hw4 : w3.alloc (.cells #[.int .i64 2, .int .i64 0, .float .f64 X, .slice none 0 0, .bool false] 84) = w4 at *
    generalize hbx : w3.heap.size = bx at *
    have c2 : w4.cell? ⟨bx, 2, none⟩ = some (.float .f64 X) := by rw [← hw4, ← hbx]; simp
    have V4 := hid (show Old wr w4 from by rw [← hw4]; exact U3.out.alloc _)
    have O4 := hid (HO.out.up V4.out)
    have U4 := hid (HU.out.trans V4.out)
    clear hw4 hbx U3 V4 HO HU HK
    go_wp2_with (first | (at_builtin; refine wp_appF rfl (.tmp 49) (.tmp 52) rfl w.heap.size _ xs _ 1 X rfl rfl (OwnF.up O4.out ((Old.refl _).alloc _)) (cell_one _ _ _ (by simp)) (by have := HL.out; omega) (by have := U4.out.size; simp; omega) ?_; intro v8 w8 o8 u8; have O8 := hid o8; have V8 := hid (below_up' U4.out ((Old.refl _).alloc _) u8); clear o8 u8))
    go_roundw
    case rel => exact ⟨j + 1, D', xs ++ [X], _, _, rfl, rfl, hlt, by go_num, O8.out, HR2.out, by rw [List.length_append, HLx.out]; rfl, HNx.out, V8.out⟩
    case measure => simp [intOf]; omega
  ·have hjn : n = j := by omega
   have hE2 := HE.out
   rw [show n - j = 0 by omega] at hE2
   have HNo := hid (show tkKs (n) B = some (xs, D) from by rw [hE2]; simp [tkKs])
   have lj : ¬ ((j : Int) < (n : Int)) := by omega
   have HR := hid (hR.up hU)
   clear hE2 hR hU HE hjn
   go_wp2
   refine bodyPost_ret (v := .tuple #[uo, ub, .bool true]) (by simp [results, Tryz.results27, go_sem]) rfl (HP.out _ _ _ _ _ HO.out HR.out HU.out HNo.out)
theorem take1_any (v : Value) (L : List Nat) (hL : LB L) (most : Nat) (hmo : most ≤ 16) (w : World) (hB : Pk.ByRow w v L.length (Pk.gd L)) :
    Calls Tryz.prog 27 #[v, .int .i64 (most : Int), .int .i64 1] w fun e w' => TakePost w.heap.size (tkR most 1 L) w e w' := by
 unfold tkR
 cases e : tkC most L with
 | none => exact take1_no v L most hmo w hB e
 | some p =>
  obtain ⟨n, B⟩ := p
  simp only [Nat.mul_one]
  exact take1_some v L hL most n B hmo w hB e
set_option maxHeartbeats 1000000 in
theorem take2_no (v : Value) (L : List Nat) (most : Nat) (hmo : most ≤ 16) (w : World) (hB : Pk.ByRow w v L.length (Pk.gd L)) (hn : tkC most L = none) :
    Calls Tryz.prog 27 #[v, .int .i64 (most : Int), .int .i64 2] w fun e w' => TakePost w.heap.size none w e w' := by
 have HG := hid (Pk.refGetNum_any v _ _ w hB)
 have hcase := tkC_no hn
 have hm1 : (most : Int) ≤ 16 := by omega
 clear hB hn
 generalize Pk.lnK (Pk.gd L) L.length = K at *
 generalize Pk.lnV (Pk.gd L) L.length = V at *
 have HP : Hid (∀ W, W = w → TakePost w.heap.size none w (.returned (.tuple #[.slice none 0 0, .slice none 0 0, .bool false])) W) := fun W e => by subst e; exact ⟨Old.refl _, .inl ⟨rfl, rfl⟩⟩
 rcases hcase with h0 | ⟨h0, h1 | ⟨h1, h2⟩⟩
 ·subst h0
  go_enter Tryz.func27, Tryz.ntmps27
  go_wp2_with (first | (go_at_call 26; refine HG.out.mono ?_; rintro e w1 ⟨rfl, hw⟩; have hw2 := hw.symm; subst hw2))
  refine bodyPost_ret (v := .tuple #[.slice none 0 0, .slice none 0 0, .bool false]) (by simp [results, Tryz.results27, go_sem]) rfl (HP.out _ rfl)
 ·have tk : ((K : Int) == 0) = false := by rw [beq_eq_false_iff_ne]; omega
  go_enter Tryz.func27, Tryz.ntmps27
  go_wp2_with (first | (go_at_call 26; refine HG.out.mono ?_; rintro e w1 ⟨rfl, hw⟩; have hw2 := hw.symm; subst hw2))
  refine bodyPost_ret (v := .tuple #[.slice none 0 0, .slice none 0 0, .bool false]) (by simp [results, Tryz.results27, go_sem]) rfl (HP.out _ rfl)
 ·have tk : ((K : Int) == 0) = false := by rw [beq_eq_false_iff_ne]; omega
  go_enter Tryz.func27, Tryz.ntmps27
  go_wp2_with (first | (go_at_call 26; refine HG.out.mono ?_; rintro e w1 ⟨rfl, hw⟩; have hw2 := hw.symm; subst hw2))
  refine bodyPost_ret (v := .tuple #[.slice none 0 0, .slice none 0 0, .bool false]) (by simp [results, Tryz.results27, go_sem]) rfl (HP.out _ rfl)
set_option maxHeartbeats 2000000 in
theorem take2_some (v : Value) (L : List Nat) (hL : LB L) (most n : Nat) (B : List Nat) (hmo : most ≤ 16) (w : World) (hB : Pk.ByRow w v L.length (Pk.gd L)) (hn : tkC most L = some (n, B)) :
    Calls Tryz.prog 27 #[v, .int .i64 (most : Int), .int .i64 2] w fun e w' => TakePost w.heap.size (tkKs (n * 2) B) w e w' := by
 have HG := hid (Pk.refGetNum_any v _ _ w hB)
 obtain ⟨hk0, hkl, hV, hnm, hBd⟩ := tkC_cut hn
 rw [hV] at HG
 obtain ⟨b, off, cap, rfl, hcc, hnc, hmx⟩ := hB.cells (by omega)
 unfold maxLen at hmx
 obtain ⟨o, hif, hro⟩ : ∃ o, (if cap = Pk.lnK (Pk.gd L) L.length then (some ⟨b, off, none⟩ : Option Addr) else some ⟨b, off + Pk.lnK (Pk.gd L) L.length, none⟩) = some ⟨b, o, none⟩ ∧ Pk.ByRow w (.slice (some ⟨b, o, none⟩) (L.length - Pk.lnK (Pk.gd L) L.length) (cap - Pk.lnK (Pk.gd L) L.length)) B.length (Pk.gd B) := by
  refine ⟨if cap = Pk.lnK (Pk.gd L) L.length then off else off + Pk.lnK (Pk.gd L) L.length, by split <;> rfl, ?_⟩
  rw [hBd]
  exact cut_row hB hkl _ rfl
 have HBr := hid hro
 clear hro
 have tk : ((Pk.lnK (Pk.gd L) L.length : Int) == 0) = false := by rw [beq_eq_false_iff_ne]; omega
 have HLB := hid (tkC_some hL hn).2.2
 clear hB hn hcc hV hBd hL
 generalize Pk.lnK (Pk.gd L) L.length = K at *
 generalize L.length = N at *
 have t1 : decide ((n : Int) < 0) = false := by rw [decide_eq_false_iff_not]; omega
 have t2 : decide (most < n) = false := by rw [decide_eq_false_iff_not]; omega
 have t3 : decide ((most : Int) < (n : Int)) = false := by rw [decide_eq_false_iff_not]; omega
 have l1 : (0 : Int) ≤ (n : Int) := by omega
 have l2 : (n : Int) ≤ (most : Int) := by omega
 have l3 : (most : Int) ≤ 16 := by omega
 have l4 : (0 : Int) ≤ (K : Int) := by omega
 have l5 : (K : Int) ≤ (N : Int) := by omega
 have l6 : (K : Int) ≤ (cap : Int) := by omega
 have HP : Hid (∀ xs B' u vv W, OwnF w.heap.size W u xs → Pk.ByRow W vv B'.length (Pk.gd B') → Old w W → tkKs (n * 2) B = some (xs, B') → TakePost w.heap.size (tkKs (n * 2) B) w (.returned (.tuple #[u, vv, .bool true])) W) := fun xs B' u vv W h1 h2 h3 h4 => ⟨h3, .inr ⟨xs, B', u, vv, h4, rfl, h1, h2⟩⟩
 have HPn : Hid (∀ W, Old w W → tkKs (n * 2) B = none → TakePost w.heap.size (tkKs (n * 2) B) w (.returned (.tuple #[.slice none 0 0, .slice none 0 0, .bool false])) W) := fun W h3 h4 => ⟨h3, .inl ⟨h4, rfl⟩⟩
 go_enter Tryz.func27, Tryz.ntmps27
 go_upto_region 4 with (first | (go_at_call 26; refine HG.out.mono ?_; rintro e w1 ⟨rfl, hw⟩; have hw2 := hw.symm; subst hw2))
 go_wp2
 go_loopw [0, 11, 12] (fun vb vo i wr => ∃ (j : Nat) (D xs : List Nat) (ub uo : Value), ub = vb ∧ uo = vo ∧ j ≤ n * 2 ∧ i = .int .i64 (j : Nat) ∧ OwnF w.heap.size wr uo xs ∧ Pk.ByRow w ub D.length (Pk.gd D) ∧ xs.length = j ∧ tkKs (n * 2) B = (tkKs (n * 2 - j) D).map (fun p => (xs ++ p.1, p.2)) ∧ Old w wr) (fun _ _ i _ => n * 2 - (intOf i).toNat)
 case atStart => exact ⟨0, B, [], _, _, rfl, rfl, Nat.zero_le _, rfl, OwnF.empty (Nat.le_refl _) rfl, HBr.out, rfl, by rw [Nat.sub_zero]; cases tkKs (n * 2) B <;> rfl, (Old.refl w).alloc _⟩
 case round =>
  obtain ⟨j, D, xs, ub, uo, rfl, rfl, hj, rfl, hO, hR, hl, hE, hU⟩ := hrel
  have HO := hid hO
  have HU := hid hU
  have HE := hid hE
  clear hO hE HBr
  by_cases hlt : j < n * 2
  ·have lj : (j : Int) < (n : Int) * 2 := by omega
   have lj0 : (0 : Int) ≤ (j : Int) := by omega
   cases e : tkK D with
   | none =>
    have HK := hid (Pk.one_key ub _ _ wr (hR.up hU))
    have hz : Pk.lkK (Pk.gd D) D.length = 0 := by
     unfold tkK at e
     split at e
     ·assumption
     ·cases e
    unfold Pk.OneK at HK
    rw [hz] at HK
    have HNo := hid (show tkKs (n * 2) B = none from by
     rw [HE.out, show n * 2 - j = (n * 2 - j - 1) + 1 by omega, tkKs_succ, e]; rfl)
    clear hz e HE hR hU
    go_upto_region 10 with (first | (go_at_call 50; refine HK.out.mono ?_; rintro e w3 ⟨X, rfl, _, u3⟩; have U3 := hid (HU.out.trans u3); clear u3))
    have U4 := hid (U3.out.alloc (.cells #[.int .i64 2, .int .i64 0, .float .f64 X, .slice none 0 0, .bool false] 84))
    generalize w3.alloc (.cells #[.int .i64 2, .int .i64 0, .float .f64 X, .slice none 0 0, .bool false] 84) = w4 at *
    go_wp2
    refine bodyPost_ret (v := .tuple #[.slice none 0 0, .slice none 0 0, .bool false]) (by simp [results, Tryz.results27, go_sem]) rfl (HPn.out _ U4.out HNo.out)
   | some p =>
    obtain ⟨x, D'⟩ := p
    obtain ⟨h8, hK8, hVx, hD'⟩ := tkK_cut e
    obtain ⟨b1, off1, cap1, rfl, hcc1, hnc1, hmx1⟩ := hR.cells (by omega)
    unfold maxLen at hmx1
    have HK := hid (Pk.one_key _ _ _ wr (hR.up hU))
    unfold Pk.OneK at HK
    rw [hK8, hVx] at HK
    obtain ⟨o1, hif1, hro1⟩ : ∃ o1, (if cap1 = 8 then (some ⟨b1, off1, none⟩ : Option Addr) else some ⟨b1, off1 + 8, none⟩) = some ⟨b1, o1, none⟩ ∧ Pk.ByRow w (.slice (some ⟨b1, o1, none⟩) (D.length - 8) (cap1 - 8)) D'.length (Pk.gd D') := by
     refine ⟨if cap1 = 8 then off1 else off1 + 8, by split <;> rfl, ?_⟩
     rw [hD']
     exact cut_row hR h8 _ rfl
    have HR2 := hid hro1
    have HNx := hid (show tkKs (n * 2) B = (tkKs (n * 2 - (j + 1)) D').map (fun p => ((xs ++ [x]) ++ p.1, p.2)) from by
     rw [HE.out, show n * 2 - j = (n * 2 - (j + 1)) + 1 by omega, tkKs_succ, e]
     simp only
     cases tkKs (n * 2 - (j + 1)) D' with
     | none => rfl
     | some q => simp)
    have m1 : (8 : Int) ≤ (D.length : Int) := by omega
    have m2 : (8 : Int) ≤ (cap1 : Int) := by omega
    have m3 : 8 ≤ cap1 := by omega
    have HL := hid (show xs.length + 1 ≤ 17592186044416 by omega)
    have HLx := hid hl
    clear hro1 e HE hR hU hD' hVx hK8 hcc1 hl
    generalize D.length = ND at *
    go_upto_region 10 with (first | (go_at_call 50; refine HK.out.mono ?_; rintro e w3 ⟨X, rfl, hX, u3⟩; have U3 := hid u3; have hX2 : X = x := hX (by omega); subst hX2; clear u3 hX))
    generalize hw4 : w3.alloc (.cells #[.int .i64 2, .int .i64 0, .float .f64 X, .slice none 0 0, .bool false] 84) = w4 at *
    generalize hbx : w3.heap.size = bx at *
    have c2 : w4.cell? ⟨bx, 2, none⟩ = some (.float .f64 X) := by rw [← hw4, ← hbx]; simp
    have V4 := hid (show Old wr w4 from by rw [← hw4]; exact U3.out.alloc _)
    have O4 := hid (HO.out.up V4.out)
    have U4 := hid (HU.out.trans V4.out)
    clear hw4 hbx U3 V4 HO HU HK
    go_wp2_with (first | (at_builtin; refine wp_appF rfl (.tmp 49) (.tmp 52) rfl w.heap.size _ xs _ 1 X rfl rfl (OwnF.up O4.out ((Old.refl _).alloc _)) (cell_one _ _ _ (by simp)) (by have := HL.out; omega) (by have := U4.out.size; simp; omega) ?_; intro v8 w8 o8 u8; have O8 := hid o8; have V8 := hid (below_up' U4.out ((Old.refl _).alloc _) u8); clear o8 u8))
    go_roundw
    case rel => exact ⟨j + 1, D', xs ++ [X], _, _, rfl, rfl, hlt, by go_num, O8.out, HR2.out, by rw [List.length_append, HLx.out]; rfl, HNx.out, V8.out⟩
    case measure => simp [intOf]; omega
  ·have hjn : n * 2 = j := by omega
   have hE2 := HE.out
   rw [show n * 2 - j = 0 by omega] at hE2
   have HNo := hid (show tkKs (n * 2) B = some (xs, D) from by rw [hE2]; simp [tkKs])
   have lj : ¬ ((j : Int) < (n : Int) * 2) := by omega
   have HR := hid (hR.up hU)
   clear hE2 hR hU HE hjn
   go_wp2
   refine bodyPost_ret (v := .tuple #[uo, ub, .bool true]) (by simp [results, Tryz.results27, go_sem]) rfl (HP.out _ _ _ _ _ HO.out HR.out HU.out HNo.out)
theorem take2_any (v : Value) (L : List Nat) (hL : LB L) (most : Nat) (hmo : most ≤ 16) (w : World) (hB : Pk.ByRow w v L.length (Pk.gd L)) :
    Calls Tryz.prog 27 #[v, .int .i64 (most : Int), .int .i64 2] w fun e w' => TakePost w.heap.size (tkR most 2 L) w e w' := by
 unfold tkR
 cases e : tkC most L with
 | none => exact take2_no v L most hmo w hB e
 | some p =>
  obtain ⟨n, B⟩ := p
  simp only [Nat.mul_one]
  exact take2_some v L hL most n B hmo w hB e
end Go.Proofs.YtajoodkapiifcaaGreat
