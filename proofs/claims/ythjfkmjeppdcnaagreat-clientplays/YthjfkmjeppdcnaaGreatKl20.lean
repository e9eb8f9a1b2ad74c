/- The document's New of layer 21 at every row of members; conditions: the row lies in memory. -/
import Derived.Test.YthjfkmjeppdcnaaGreatClV
namespace Go.Proofs.YthjfkmjeppdcnaaGreat
open Go.RowKit Go.Lib
set_option linter.unusedVariables false
set_option linter.unusedSimpArgs false
set_option maxRecDepth 20000
attribute [local go_sem] run_bits run_frombits run_store_float eqF
theorem hasK_yes {f : Nat → Int} {x : Int} {n i : Nat} (hi : i < n) (e : f i = x) : Ci.hasK f x n = true := (Ci.anyK_iff _ n).2 ⟨i, hi, by simp [e]⟩
theorem hasK_no {f : Nat → Int} {x : Int} {n : Nat} (h : ∀ i, i < n → f i ≠ x) : Ci.hasK f x n = false := by
 rw [← Bool.not_eq_true]
 intro q
 obtain ⟨i, hi, e⟩ := (Ci.anyK_iff _ n).1 q
 simp at e
 exact h i hi e.symm
set_option maxHeartbeats 1000000 in
theorem rHas_any (v : Value) (n : Nat) (f : Nat → Int) (x : Int) (w : World) (hv : Ci.NRowL w v n f) :
    Calls Tryz.prog 28 #[v, .int .i64 x] w fun e w' => e = .returned (.bool (Ci.hasK f x n)) ∧ Old w w' := by
 obtain ⟨hm, p, c, rfl, _, _, hc⟩ := hv
 have HC := hid hc
 have hmm : (n : Int) ≤ 17592186044000 := by omega
 have HY := hid (fun (i : Nat) (hi : i < n) (e : f i = x) => hasK_yes hi e)
 have HNo := hid (fun (h : ∀ i, i < n → f i ≠ x) => hasK_no h)
 generalize Ci.hasK f x n = r at *
 clear hc hm
 go_enter Tryz.func28, Tryz.ntmps28
 go_wp2
 go_loopw [5] (fun i wr => ∃ k : Nat, k ≤ n ∧ i = .int .i64 (k : Nat) ∧ (∀ i, i < k → f i ≠ x) ∧ Old w wr) (fun i _ => n - (intOf i).toNat)
 case atStart => exact ⟨0, Nat.zero_le _, rfl, fun i hi => by omega, Old.refl _⟩
 case round =>
  obtain ⟨k, hk, rfl, h0, hu⟩ := hrel
  have H0 := hid h0
  clear h0
  by_cases hlt : k < n
  ·obtain ⟨g, off, e1, c0⟩ := HC.out k hlt
   subst e1
   have x0 := hu.keep c0
   have l1 : (0 : Int) ≤ (k : Int) := by omega
   have l2 : (k : Int) < (n : Int) := by omega
   clear c0 HC
   by_cases q : f k = x
   ·have HR := hid (HY.out k hlt q)
    have t : (f k == x) = true := by rw [beq_iff_eq]; exact q
    generalize f k = y at *
    clear q HY HNo H0
    go_wp2
    go_ret
    exact ⟨ret_b (by rw [HR.out]), hu⟩
   ·have HS := hid (show ∀ i, i < k + 1 → f i ≠ x from fun i hi => by
      by_cases e : i = k
      ·rw [e]; exact q
      ·exact H0.out i (by omega))
    have t : (f k == x) = false := by rw [beq_eq_false_iff_ne]; exact q
    generalize f k = y at *
    clear q HY HNo H0
    go_wp2
    go_roundw
    case rel => exact ⟨k + 1, hlt, by go_num, HS.out, hu⟩
    case measure => simp [intOf]; omega
  ·obtain rfl : n = k := by omega
   have HR := hid (HNo.out H0.out)
   clear HC HY HNo H0
   go_wp2
   go_ret
   exact ⟨ret_b (by rw [HR.out]), hu⟩
theorem OwnI.emptyG {w : World} : Ci.OwnI w.heap.size (w.alloc (.cells #[] 3)) (.slice (some ⟨w.heap.size, 0, none⟩) 0 0) [] := World.ownsRow_made w #[] 0 (Nat.le_refl _) (by unfold maxLen; omega) rfl
theorem OwnI.mono' {base b' : Nat} {w : World} {v : Value} {L : List Int} (h : Ci.OwnI base w v L) (hb : b' ≤ base) : Ci.OwnI b' w v L := h.mono hb
abbrev RC6 (b : Nat) (v0 v1 v2 v3 v4 v5 : Value) (w : World) : Prop := w.heap[b]? = some (.cells #[v0, v1, v2, v3, v4, v5] 56 (0, 0))
set_option maxHeartbeats 4000000 in
theorem rNew_any (ss : Int) (v : Value) (n : Nat) (f : Nat → Int) (w : World) (h : Ci.NRowL w v n f) :
    Calls Tryz.prog 15 #[.int .i64 ss, v] w fun e w' => ∃ v', e = .returned (.agg #[.int .i64 ss, .int .i64 0, v', .int .i64 ((msL f n).getD 0 0), .slice none 0 0, .slice none 0 0]) ∧ Ci.OwnI w.heap.size w' v' (msL f n) ∧ Old w w' := by
 have HHs := hid (fun (x : Int) (W : World) (u : Old w W) => rHas_any v n f x W (h.old u))
 obtain ⟨_, p, c, rfl, _⟩ := h
 go_enter Tryz.func15, Tryz.ntmps15
 go_upto_region 2 with fail
 have B1 := hid (alloc_at w (.cells #[.int .i64 0, .int .i64 0, .slice none 0 0, .int .i64 0, .slice none 0 0, .slice none 0 0] 56))
 have U1 := hid ((Old.refl w).alloc (.cells #[.int .i64 0, .int .i64 0, .slice none 0 0, .int .i64 0, .slice none 0 0, .slice none 0 0] 56))
 have HRb0 := hid (show w.heap.size < (w.alloc (.cells #[.int .i64 0, .int .i64 0, .slice none 0 0, .int .i64 0, .slice none 0 0, .slice none 0 0] 56)).heap.size from heap_lt B1.out)
 have HE0 := hid (show Ci.OwnI (w.alloc (.cells #[.int .i64 0, .int .i64 0, .slice none 0 0, .int .i64 0, .slice none 0 0, .slice none 0 0] 56)).heap.size ((w.alloc (.cells #[.int .i64 0, .int .i64 0, .slice none 0 0, .int .i64 0, .slice none 0 0, .slice none 0 0] 56)).alloc (.cells #[] 3)) (.slice (some ⟨w.heap.size + 1, 0, none⟩) 0 0) [] ∧ Old (w.alloc (.cells #[.int .i64 0, .int .i64 0, .slice none 0 0, .int .i64 0, .slice none 0 0, .slice none 0 0] 56)) ((w.alloc (.cells #[.int .i64 0, .int .i64 0, .slice none 0 0, .int .i64 0, .slice none 0 0, .slice none 0 0] 56)).alloc (.cells #[] 3)) from ⟨by have := OwnI.emptyG (w := w.alloc (.cells #[.int .i64 0, .int .i64 0, .slice none 0 0, .int .i64 0, .slice none 0 0, .slice none 0 0] 56)); simpa using this, (Old.refl _).alloc _⟩)
 generalize w.alloc (.cells #[.int .i64 0, .int .i64 0, .slice none 0 0, .int .i64 0, .slice none 0 0, .slice none 0 0] 56) = w1 at *
 obtain ⟨rb, hrb⟩ : ∃ rb, w.heap.size = rb := ⟨_, rfl⟩
 rw [hrb] at B1 HRb0 HE0 ⊢
 have HRb := hid (show Old w w1 ∧ w.heap.size ≤ rb ∧ rb < w1.heap.size from ⟨U1.out, by omega, HRb0.out⟩)
 clear hrb HRb0 U1
 have HE := hid (show Ci.OwnI w1.heap.size (w1.alloc (.cells #[] 3)) (.slice (some ⟨rb + 1, 0, none⟩) 0 0) [] ∧ Old w1 (w1.alloc (.cells #[] 3)) from HE0.out)
 clear HE0
 generalize w1.alloc (.cells #[] 3) = w2 at *
 go_wp2
 go_loopw [5, 6] (fun vv i wx => ∃ k : Nat, k ≤ 7 ∧ i = .int .i64 ((k : Nat) + 1) ∧ Hid (Ci.OwnI w1.heap.size wx vv (amL f n k) ∧ Old w1 wx)) (fun _ i _ => 9 - (intOf i).toNat)
 case atStart => exact ⟨0, Nat.zero_le _, rfl, HE⟩
 case round =>
  clear HE
  obtain ⟨k, hk, rfl, HI⟩ := hrel
  obtain ⟨va, vc, hvv⟩ := HI.out.1.len
  obtain ⟨ln, hln⟩ : ∃ ln, (amL f n k).length = ln := ⟨_, rfl⟩
  rw [hln] at hvv
  subst hvv
  have HLn := hid hln
  have HI2 := hid (HRb.out.1.trans HI.out.2)
  clear hln
  have hkk : k < 7 ∨ k = 7 := by omega
  rcases hkk with hlt | rfl
  ·have d1 : decide ((k : Int) + 1 ≤ 7) = true := by simp; omega
   have w1' : IntKind.i64.wrap ((k : Int) + 1 + 1) = (k : Int) + 1 + 1 := IntWalk.i64_in _ (by omega)
   cases hh : Ci.hasK f ((k : Int) + 1) n
   ·have HC := hid (fun (W : World) (u : Old w W) => by have q := HHs.out ((k : Int) + 1) W u; rw [hh] at q; exact q)
    have HS := hid (show amL f n (k + 1) = amL f n k from by show amL f n k ++ (if Ci.hasK f ((k : Int) + 1) n = true then [(k : Int) + 1] else []) = _; rw [hh]; simp)
    clear hh HHs
    go_wp2_with (go_at_call 28; refine (HC.out _ HI2.out).mono ?_; rintro e w3 ⟨rfl, u⟩; have U3 := hid u; clear u)
    go_roundw
    case rel => exact ⟨k + 1, hlt, by go_num, hid ⟨by rw [HS.out]; exact HI.out.1.up U3.out, HI.out.2.trans U3.out⟩⟩
    case measure => simp [intOf]; omega
   ·have HC := hid (fun (W : World) (u : Old w W) => by have q := HHs.out ((k : Int) + 1) W u; rw [hh] at q; exact q)
    have HS := hid (show amL f n (k + 1) = amL f n k ++ [(k : Int) + 1] from by show amL f n k ++ (if Ci.hasK f ((k : Int) + 1) n = true then [(k : Int) + 1] else []) = _; rw [hh, if_pos rfl])
    clear hh HHs
    go_upto_region 6 with (go_at_call 28; refine (HC.out _ HI2.out).mono ?_; rintro e w3 ⟨rfl, u⟩; have U3 := hid u; clear u)
    have U4 := hid (HI.out.2.trans (U3.out.trans ((Old.refl w3).alloc (.cells #[.int .i64 ((k : Int) + 1)] 3))))
    have O4 := hid (HI.out.1.up (U3.out.trans ((Old.refl w3).alloc (.cells #[.int .i64 ((k : Int) + 1)] 3))))
    have hc := Ci.cell_oneI w3 ((k : Int) + 1) _ rfl
    have O4' := hid (show Ci.OwnI w1.heap.size _ (.slice va ln vc) (amL f n k) from O4.out)
    go_wp2_with (at_builtin; refine Ci.wp_appI rfl _ _ rfl w1.heap.size (.slice va ln vc) (amL f n k) w3.heap.size 1 ((k : Int) + 1) rfl rfl O4'.out hc (by have := amL_len f n k; omega) U4.out.size ?_; intro v' w5 h1 h2 h3; have O5 := hid h1; have U5 := hid (Old.below U4.out (Below.grown (Below.refl _ _) h2 U4.out.size (fun g e => (World.ownsRow.lt O4'.out g e).1))); clear h1 h2 h3)
    go_roundw
    case rel => exact ⟨k + 1, hlt, by go_num, hid ⟨by rw [HS.out]; exact O5.out, U5.out⟩⟩
    case measure => simp [intOf]; omega
  ·clear HHs
   by_cases hz : ln = 0
   ·subst hz
    have hnil := List.eq_nil_of_length_eq_zero HLn.out
    have HMs := hid (show msL f n = [1] from by unfold msL; rw [if_pos hnil])
    have O4' := hid (show Ci.OwnI w1.heap.size (wr.alloc (.cells #[.int .i64 1] 3)) (.slice va 0 vc) [] from by have := HI.out.1; rw [hnil] at this; exact this.up ((Old.refl wr).alloc _))
    have U4 := hid (HI.out.2.trans ((Old.refl wr).alloc (.cells #[.int .i64 1] 3)))
    have hc := Ci.cell_oneI wr 1 _ rfl
    clear hnil
    go_upto_region 9 with (at_builtin; refine Ci.wp_appI rfl _ _ rfl w1.heap.size (.slice va 0 vc) [] wr.heap.size 1 1 rfl rfl O4'.out hc (by simp) U4.out.size ?_; intro v' wf h1 h2 h3; rw [List.nil_append] at h1; have UF := hid (Old.below U4.out (Below.grown (Below.refl _ _) h2 U4.out.size (fun g e => (World.ownsRow.lt O4'.out g e).1))); obtain ⟨ga, vc2, rfl, hcy0⟩ := OwnI.at h1 0 (by simp); have OF := hid h1; have HCy := hid hcy0; clear h1 h2 h3 hcy0)
    have OF1 := hid (show Ci.OwnI w1.heap.size wf (.slice (some ⟨ga, 0, none⟩) 1 vc2) [1] from OF.out)
    obtain ⟨y, hy⟩ : ∃ y, [(1 : Int)][0] = y := ⟨_, rfl⟩
    rw [hy] at HCy
    have HLp := hid (show 0 < 1 from by decide)
    have HMy := hid (show [(1 : Int)].getD 0 0 = y from hy)
    clear OF hy U4 O4' HI HI2 HLn hc
    have hcy : wf.cell? ⟨ga, 0, none⟩ = some (.int .i64 y) := HCy.out
    have hlp : (0 : Int) < ((1 : Nat) : Int) := by have := HLp.out; omega
    have hlp2 : 0 < 1 := HLp.out
    obtain ⟨⟨g0, g1, g2, g3, g4, g5⟩, gf⟩ := box6 (UF.out.block B1.out)
    have f0 := gf 0
    have f1 := gf 1
    have f2 := gf 2
    have f3 := gf 3
    have f4 := gf 4
    have f5 := gf 5
    have B9 := hid (show ((((((wf.setCell ⟨rb, 0, none⟩ (.int .i64 ss)).setCell ⟨rb, 1, none⟩ (.int .i64 0)).setCell ⟨rb, 2, none⟩ (.slice (some ⟨ga, 0, none⟩) 1 vc2)).setCell ⟨rb, 3, none⟩ (.int .i64 y)).setCell ⟨rb, 4, none⟩ (.slice none 0 0)).setCell ⟨rb, 5, none⟩ (.slice none 0 0)).heap[rb]? = some (.cells #[.int .i64 ss, .int .i64 0, .slice (some ⟨ga, 0, none⟩) 1 vc2, .int .i64 y, .slice none 0 0, .slice none 0 0] 56 (0, 0)) from (Go.Joins.block_setCell (Go.Joins.block_setCell (Go.Joins.block_setCell (Go.Joins.block_setCell (Go.Joins.block_setCell (Go.Joins.block_setCell (UF.out.block B1.out) (.int .i64 ss) (i := 0)) (.int .i64 0) (i := 1)) (.slice (some ⟨ga, 0, none⟩) 1 vc2) (i := 2)) (.int .i64 y) (i := 3)) (.slice none 0 0) (i := 4)) (.slice none 0 0) (i := 5)))
    have C9 := hid (show Chg [rb] wf ((((((wf.setCell ⟨rb, 0, none⟩ (.int .i64 ss)).setCell ⟨rb, 1, none⟩ (.int .i64 0)).setCell ⟨rb, 2, none⟩ (.slice (some ⟨ga, 0, none⟩) 1 vc2)).setCell ⟨rb, 3, none⟩ (.int .i64 y)).setCell ⟨rb, 4, none⟩ (.slice none 0 0)).setCell ⟨rb, 5, none⟩ (.slice none 0 0)) from ((((((Chg.set wf ⟨rb, 0, none⟩ _ (by simp)).trans (Chg.set _ ⟨rb, 1, none⟩ _ (by simp))).trans (Chg.set _ ⟨rb, 2, none⟩ _ (by simp))).trans (Chg.set _ ⟨rb, 3, none⟩ _ (by simp))).trans (Chg.set _ ⟨rb, 4, none⟩ _ (by simp))).trans (Chg.set _ ⟨rb, 5, none⟩ _ (by simp))))
    have O9 := hid (OF1.out.chg C9.out (fun g e => by simp; intro z; have := (World.ownsRow.lt (show wf.ownsRow w1.heap.size 3 1 _ _ (Ci.ils _) from OF1.out) g e).1; have := HRb.out.2.2; omega))
    have U9 := hid (show Old w ((((((wf.setCell ⟨rb, 0, none⟩ (.int .i64 ss)).setCell ⟨rb, 1, none⟩ (.int .i64 0)).setCell ⟨rb, 2, none⟩ (.slice (some ⟨ga, 0, none⟩) 1 vc2)).setCell ⟨rb, 3, none⟩ (.int .i64 y)).setCell ⟨rb, 4, none⟩ (.slice none 0 0)).setCell ⟨rb, 5, none⟩ (.slice none 0 0)) from (HRb.out.1.trans UF.out).below (C9.out.below w.heap.size (fun k q => by simp at q; have := HRb.out.2.1; omega) (HRb.out.1.trans UF.out).size))
    go_wp2
    clear g0 g1 g2 g3 g4 g5 gf f0 f1 f2 f3 f4 f5
    generalize ((((((wf.setCell ⟨rb, 0, none⟩ (.int .i64 ss)).setCell ⟨rb, 1, none⟩ (.int .i64 0)).setCell ⟨rb, 2, none⟩ (.slice (some ⟨ga, 0, none⟩) 1 vc2)).setCell ⟨rb, 3, none⟩ (.int .i64 y)).setCell ⟨rb, 4, none⟩ (.slice none 0 0)).setCell ⟨rb, 5, none⟩ (.slice none 0 0)) = w9 at *
    obtain ⟨⟨g0, g1, g2, g3, g4, g5⟩, -⟩ := box6 B9.out
    refine bodyPost_ret (v := .agg #[.int .i64 ss, .int .i64 0, .slice (some ⟨ga, 0, none⟩) 1 vc2, .int .i64 y, .slice none 0 0, .slice none 0 0]) (by simp [results, Tryz.results15, go_sem, g0, g1, g2, g3, g4, g5]) rfl ⟨.slice (some ⟨ga, 0, none⟩) 1 vc2, by rw [HMs.out, HMy.out], by rw [HMs.out]; exact O9.out.mono (by have := HRb.out.2; omega), U9.out⟩
   ·have d2 : ((ln : Int) == 0) = false := by simp; exact hz
    have HMs := hid (show msL f n = amL f n 7 from by unfold msL; rw [if_neg (fun e => hz (by rw [← HLn.out, e]; rfl))])
    obtain ⟨ga, cap, e0, hcy0⟩ := OwnI.at HI.out.1 0 (by rw [HLn.out]; omega)
    simp only [Value.slice.injEq] at e0
    obtain ⟨rfl, -, rfl⟩ := e0
    obtain ⟨y, hy⟩ : ∃ y, (amL f n 7)[0]'(by rw [HLn.out]; omega) = y := ⟨_, rfl⟩
    rw [hy] at hcy0
    have HCy := hid hcy0
    have HLp := hid (show 0 < ln from by omega)
    have HMy := hid (show (amL f n 7).getD 0 0 = y from by rw [← hy, List.getD_eq_getElem?_getD, List.getElem?_eq_getElem, Option.getD_some])
    have OF := hid HI.out.1
    have UF := hid HI.out.2
    clear hz hy hcy0 HI HI2 HLn
    go_upto_region 9 with fail
    obtain ⟨wf, hwf⟩ : ∃ z, z = wr := ⟨_, rfl⟩
    subst hwf
    clear d2
    have hcy : wf.cell? ⟨ga, 0, none⟩ = some (.int .i64 y) := HCy.out
    have hlp : (0 : Int) < (ln : Int) := by have := HLp.out; omega
    have hlp2 : 0 < ln := HLp.out
    obtain ⟨⟨g0, g1, g2, g3, g4, g5⟩, gf⟩ := box6 (UF.out.block B1.out)
    have f0 := gf 0
    have f1 := gf 1
    have f2 := gf 2
    have f3 := gf 3
    have f4 := gf 4
    have f5 := gf 5
    have B9 := hid (show ((((((wf.setCell ⟨rb, 0, none⟩ (.int .i64 ss)).setCell ⟨rb, 1, none⟩ (.int .i64 0)).setCell ⟨rb, 2, none⟩ (.slice (some ⟨ga, 0, none⟩) ln vc)).setCell ⟨rb, 3, none⟩ (.int .i64 y)).setCell ⟨rb, 4, none⟩ (.slice none 0 0)).setCell ⟨rb, 5, none⟩ (.slice none 0 0)).heap[rb]? = some (.cells #[.int .i64 ss, .int .i64 0, .slice (some ⟨ga, 0, none⟩) ln vc, .int .i64 y, .slice none 0 0, .slice none 0 0] 56 (0, 0)) from (Go.Joins.block_setCell (Go.Joins.block_setCell (Go.Joins.block_setCell (Go.Joins.block_setCell (Go.Joins.block_setCell (Go.Joins.block_setCell (UF.out.block B1.out) (.int .i64 ss) (i := 0)) (.int .i64 0) (i := 1)) (.slice (some ⟨ga, 0, none⟩) ln vc) (i := 2)) (.int .i64 y) (i := 3)) (.slice none 0 0) (i := 4)) (.slice none 0 0) (i := 5)))
    have C9 := hid (show Chg [rb] wf ((((((wf.setCell ⟨rb, 0, none⟩ (.int .i64 ss)).setCell ⟨rb, 1, none⟩ (.int .i64 0)).setCell ⟨rb, 2, none⟩ (.slice (some ⟨ga, 0, none⟩) ln vc)).setCell ⟨rb, 3, none⟩ (.int .i64 y)).setCell ⟨rb, 4, none⟩ (.slice none 0 0)).setCell ⟨rb, 5, none⟩ (.slice none 0 0)) from ((((((Chg.set wf ⟨rb, 0, none⟩ _ (by simp)).trans (Chg.set _ ⟨rb, 1, none⟩ _ (by simp))).trans (Chg.set _ ⟨rb, 2, none⟩ _ (by simp))).trans (Chg.set _ ⟨rb, 3, none⟩ _ (by simp))).trans (Chg.set _ ⟨rb, 4, none⟩ _ (by simp))).trans (Chg.set _ ⟨rb, 5, none⟩ _ (by simp))))
    have O9 := hid (OF.out.chg C9.out (fun g e => by simp; intro z; have := (World.ownsRow.lt (show wf.ownsRow w1.heap.size 3 1 _ _ (Ci.ils _) from OF.out) g e).1; have := HRb.out.2.2; omega))
    have U9 := hid (show Old w ((((((wf.setCell ⟨rb, 0, none⟩ (.int .i64 ss)).setCell ⟨rb, 1, none⟩ (.int .i64 0)).setCell ⟨rb, 2, none⟩ (.slice (some ⟨ga, 0, none⟩) ln vc)).setCell ⟨rb, 3, none⟩ (.int .i64 y)).setCell ⟨rb, 4, none⟩ (.slice none 0 0)).setCell ⟨rb, 5, none⟩ (.slice none 0 0)) from (HRb.out.1.trans UF.out).below (C9.out.below w.heap.size (fun k q => by simp at q; have := HRb.out.2.1; omega) (HRb.out.1.trans UF.out).size))
    go_wp2
    clear g0 g1 g2 g3 g4 g5 gf f0 f1 f2 f3 f4 f5
    generalize ((((((wf.setCell ⟨rb, 0, none⟩ (.int .i64 ss)).setCell ⟨rb, 1, none⟩ (.int .i64 0)).setCell ⟨rb, 2, none⟩ (.slice (some ⟨ga, 0, none⟩) ln vc)).setCell ⟨rb, 3, none⟩ (.int .i64 y)).setCell ⟨rb, 4, none⟩ (.slice none 0 0)).setCell ⟨rb, 5, none⟩ (.slice none 0 0)) = w9 at *
    obtain ⟨⟨g0, g1, g2, g3, g4, g5⟩, -⟩ := box6 B9.out
    refine bodyPost_ret (v := .agg #[.int .i64 ss, .int .i64 0, .slice (some ⟨ga, 0, none⟩) ln vc, .int .i64 y, .slice none 0 0, .slice none 0 0]) (by simp [results, Tryz.results15, go_sem, g0, g1, g2, g3, g4, g5]) rfl ⟨.slice (some ⟨ga, 0, none⟩) ln vc, by rw [HMs.out, HMy.out], by rw [HMs.out]; exact O9.out.mono (by have := HRb.out.2; omega), U9.out⟩
end Go.Proofs.YthjfkmjeppdcnaaGreat
