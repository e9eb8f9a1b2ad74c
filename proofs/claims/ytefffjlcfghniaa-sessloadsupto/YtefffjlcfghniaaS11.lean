/- The document's Put, of layer 13; conditions: the items lie in memory, and are a table's. -/
import Derived.Test.YtefffjlcfghniaaS10
namespace Go.Proofs.Ytefffjlcfghniaa
open Go.RowKit Go.Lib
set_option linter.unusedVariables false
set_option linter.unusedSimpArgs false
set_option maxRecDepth 20000
/-- Put's variables: the table, the item, the answer. -/
structure PtB (tb ib rb : Nat) (vt : Value) (o : Opv) (w : World) : Prop where
  t : w.cell? ⟨tb, 0, none⟩ = some vt
  tf : w.frozen? ⟨tb, 0, none⟩ = false
  i0 : w.cell? ⟨ib, 0, none⟩ = some (.int .i64 o.s)
  i1 : w.cell? ⟨ib, 1, none⟩ = some (.int .i64 o.x.n)
  i2 : w.cell? ⟨ib, 2, none⟩ = some (.int .i64 o.x.c)
  i3 : w.cell? ⟨ib, 3, none⟩ = some (.int .i64 o.x.m)
  r : w.cell? ⟨rb, 0, none⟩ = some (.slice none 0 0)
  rf : w.frozen? ⟨rb, 0, none⟩ = false
theorem PtB.old {tb ib rb : Nat} {vt : Value} {o : Opv} {w w' : World} (u : Old w w') (h : PtB tb ib rb vt o w) : PtB tb ib rb vt o w' := ⟨u.keep h.t, u.keepF h.t h.tf, u.keep h.i0, u.keep h.i1, u.keep h.i2, u.keep h.i3, u.keep h.r, u.keepF h.r h.rf⟩
theorem PtB.set {tb ib rb : Nat} {vt v : Value} {o : Opv} {w : World} (h : PtB tb ib rb vt o w) (n1 : tb ≠ ib) (n2 : tb ≠ rb) : PtB tb ib rb v o (w.setCell ⟨tb, 0, none⟩ v) :=
  ⟨World.cell?_setCell_same _ _ _ h.t, by rw [World.frozen?_setCell]; exact h.tf, oth4 h.i0 (.inl n1), oth4 h.i1 (.inl n1), oth4 h.i2 (.inl n1), oth4 h.i3 (.inl n1), oth4 h.r (.inl n2), by rw [World.frozen?_setCell]; exact h.rf⟩
abbrev K5 (tb ib b k : Nat) (vt : Value) (op o : Opv) : World → Prop := fun wz => (wz.cell? ⟨tb, 0, none⟩ = some vt ∧ True) ∧ wz.cell? ⟨ib, 0, none⟩ = some (.int .i64 op.s) ∧ wz.cell? ⟨b, k * 4, none⟩ = some (.int .i64 o.s) ∧ wz.cell? ⟨b, k * 4 + 1, none⟩ = some (.int .i64 o.x.n) ∧ wz.cell? ⟨b, k * 4 + 2, none⟩ = some (.int .i64 o.x.c) ∧ wz.cell? ⟨b, k * 4 + 3, none⟩ = some (.int .i64 o.x.m)
theorem K5.old {tb ib b k : Nat} {vt : Value} {op o : Opv} {w w' : World} (u : Old w w') (h : K5 tb ib b k vt op o w) : K5 tb ib b k vt op o w' := ⟨⟨u.keep h.1.1, trivial⟩, u.keep h.2.1, u.keep h.2.2.1, u.keep h.2.2.2.1, u.keep h.2.2.2.2.1, u.keep h.2.2.2.2.2⟩
theorem take_opA (T : List Opv) (k : Nat) (h : k < T.length) : T.take (k + 1) = T.take k ++ [opA T k] := by
  have e : opA T k = T[k] := by unfold opA; rw [List.getD_eq_getElem?_getD, List.getElem?_eq_getElem h]; rfl
  rw [List.take_succ_eq_append_getElem h, e]
theorem OwnO.chg {base : Nat} {S : List Nat} {w w' : World} {v : Value} {L : List Opv} (h : OwnO base w v L) (u : Chg S w w') (hn : ∀ g, v.ownBlock = some g → g ∉ S) : OwnO base w' v L := by
  refine ⟨h.1, ?_⟩
  rcases h.2 with e | ⟨g, cap, cur, rfl, hb', hg, r⟩
  · exact .inl e
  · exact .inr ⟨g, cap, cur, rfl, hb', u.heapAt hg (hn g rfl), r⟩
theorem ptb_new (w : World) (vt : Value) (op : Opv) (w1 : World) (e : (((w.alloc (.cells #[vt] 42)).alloc (.cells #[.int .i64 op.s, .int .i64 op.x.n, .int .i64 op.x.c, .int .i64 op.x.m] 44)).alloc (.cells #[.slice none 0 0] 42)) = w1) : PtB w.heap.size (w.heap.size + 1) (w.heap.size + 2) vt op w1 ∧ Old w w1 ∧ w1.heap.size = w.heap.size + 3 := by
  have cA : (w.alloc (.cells #[vt] 42)).cell? ⟨w.heap.size, 0, none⟩ = some vt := by simp
  have fA : (w.alloc (.cells #[vt] 42)).frozen? ⟨w.heap.size, 0, none⟩ = false := by simp
  have zA : (w.alloc (.cells #[vt] 42)).heap.size = w.heap.size + 1 := by simp
  have uA : Old w (w.alloc (.cells #[vt] 42)) := (Old.refl w).alloc _
  generalize w.alloc (.cells #[vt] 42) = wA at *
  have cB : OpB wA.heap.size op (wA.alloc (.cells #[.int .i64 op.s, .int .i64 op.x.n, .int .i64 op.x.c, .int .i64 op.x.m] 44)) := ⟨by simp, by simp, by simp, by simp⟩
  have zB : (wA.alloc (.cells #[.int .i64 op.s, .int .i64 op.x.n, .int .i64 op.x.c, .int .i64 op.x.m] 44)).heap.size = w.heap.size + 2 := by simp; omega
  have uB : Old wA (wA.alloc (.cells #[.int .i64 op.s, .int .i64 op.x.n, .int .i64 op.x.c, .int .i64 op.x.m] 44)) := (Old.refl wA).alloc _
  generalize wA.alloc (.cells #[.int .i64 op.s, .int .i64 op.x.n, .int .i64 op.x.c, .int .i64 op.x.m] 44) = wB at *
  have cC : (wB.alloc (.cells #[.slice none 0 0] 42)).cell? ⟨wB.heap.size, 0, none⟩ = some (.slice none 0 0) := by simp
  have fC : (wB.alloc (.cells #[.slice none 0 0] 42)).frozen? ⟨wB.heap.size, 0, none⟩ = false := by simp
  have zC : (wB.alloc (.cells #[.slice none 0 0] 42)).heap.size = w.heap.size + 3 := by simp; omega
  have uC : Old wB (wB.alloc (.cells #[.slice none 0 0] 42)) := (Old.refl wB).alloc _
  rw [e] at cC fC zC uC
  rw [zA] at cB
  rw [zB] at cC fC
  exact ⟨⟨uC.keep (uB.keep cA), uC.keepF (uB.keep cA) (uB.keepF cA fA), uC.keep cB.1, uC.keep cB.2.1, uC.keep cB.2.2.1, uC.keep cB.2.2.2, cC, fC⟩, (uA.trans uB).trans uC, zC⟩
set_option maxHeartbeats 8000000 in
set_option maxRecDepth 20000 in
theorem rPut_any (v : Value) (T : List Opv) (ks : List Int) (L : Int → List It) (op : Opv) (w : World) (hv : RRow w v T) (hrel : Rel T ks L) (hok : TOk ks L) (hnd : ks.Nodup) (hnil : ∀ k, k ∉ ks → L k = []) :
    Calls Try.prog 14 #[.agg #[v], .agg #[.int .i64 op.s, .int .i64 op.x.n, .int .i64 op.x.c, .int .i64 op.x.m]] w fun e w' => ∃ p2 c2 T2, e = .returned (.tuple #[.agg #[.slice p2 T2.length c2], .int .i64 (putC ks L op.s op.x)]) ∧ RRow w' (.slice p2 T2.length c2) T2 ∧ Rel T2 (pk ks L op.s op.x) (pl ks L op.s op.x) ∧ Old w w' ∧ ((Value.slice p2 T2.length c2) = v ∨ ∀ b, (Value.slice p2 T2.length c2).ownBlock = some b → w.heap.size ≤ b) := by
  have HLo := hid (fun (W : World) (u : Old w W) => rLook_any v T ks L op.s op.x.n W (hv.old u) hrel hok hnd hnil)
  have hlen := hrel.len hok
  have HRel := hid hrel
  have HOk := hid hok
  have HRow := hid hv
  obtain ⟨hm, p, c, rfl, hc⟩ := hv
  have HC := hid hc
  clear hc hrel hok hnd hnil
  go_enter Try.func14, Try.ntmps14
  go_upto_region 1 with fail
  generalize hw1 : (((w.alloc (.cells #[.slice p T.length c] 42)).alloc (.cells #[.int .i64 op.s, .int .i64 op.x.n, .int .i64 op.x.c, .int .i64 op.x.m] 44)).alloc (.cells #[.slice none 0 0] 42)) = w1
  obtain ⟨hp1, ho1, hs1⟩ := ptb_new w (.slice p T.length c) op w1 hw1
  have O1 := hid ho1
  have P1 := hid hp1
  have HZ := hid (show (w.heap.size ≤ w.heap.size ∧ w.heap.size ≤ w.heap.size + 2 ∧ w.heap.size ≠ w.heap.size + 1 ∧ w.heap.size ≠ w.heap.size + 2) ∧ w.heap.size + 2 < w1.heap.size from by omega)
  clear hp1 ho1 hs1
  clear hw1
  obtain ⟨rb, hrb⟩ : ∃ rb, w.heap.size + 2 = rb := ⟨_, rfl⟩
  obtain ⟨ib, hib⟩ : ∃ ib, w.heap.size + 1 = ib := ⟨_, rfl⟩
  obtain ⟨tb, htb⟩ : ∃ tb, w.heap.size = tb := ⟨_, rfl⟩
  rw [hrb, hib] at P1 HZ
  rw [hrb, hib]
  rw [htb] at P1 ⊢
  have HZb := hid (show w.heap.size ≤ tb ∧ w.heap.size ≤ rb ∧ tb ≠ ib ∧ tb ≠ rb ∧ tb < w1.heap.size ∧ rb < w1.heap.size from by have := HZ.out; omega)
  clear hrb hib htb HZ
  obtain ⟨t0, tf0, i0, i1, i2, i3, r0, rf0⟩ := P1.out
  generalize hlc : lookC ks L op.s op.x.n = lc at *
  have HPc := hid (show putC ks L op.s op.x = if lc = 0 then (if (outB op.x.c 0 999 || outB op.x.m 0 1099511627776) = true then 1 else 0) else lc from by unfold putC; rw [hlc])
  clear hlc
  go_upto_region 2 with (go_at_call 13; refine (HLo.out _ O1.out).mono ?_; rintro e w2 ⟨a2, b2, rfl, u2⟩; have U2 := hid u2; clear u2)
  generalize hw3 : w2.alloc (.cells #[.int .i64 a2, .int .i64 b2, .int .i64 (lookV L op.s op.x.n).1, .int .i64 (lookV L op.s op.x.n).2] 44) = w3
  have U3 := hid (show Old w1 w3 from by rw [← hw3]; exact U2.out.alloc _)
  clear hw3 HLo U2 t0 tf0 i0 i1 i2 i3 r0 rf0
  have P3 := hid (PtB.old U3.out P1.out)
  by_cases hl0 : lc = 0
  · subst hl0
    by_cases a1 : op.x.c < 0
    · skip
      have HP2 := hid (show putC ks L op.s op.x = 1 from by rw [HPc.out, if_pos rfl, if_pos (by unfold outB; simp; omega)])
      have HR2 := hid (show Rel T (pk ks L op.s op.x) (pl ks L op.s op.x) from by unfold pk pl; rw [HP2.out, if_neg (by decide), if_neg (by decide)]; exact HRel.out)
      obtain ⟨t0, tf0, i0, i1, i2, i3, r0, rf0⟩ := P3.out
      have z0 := hid (World.cell?_setCell_same w3 ⟨rb, 0, none⟩ (.slice p T.length c) r0)
      have HOf := hid ((O1.out.trans U3.out).setCell (p := ⟨rb, 0, none⟩) HZb.out.2.1 (.slice p T.length c))
      have HRw := hid (HRow.out.old HOf.out)
      clear HPc HRel
      go_wp2
      have y0 := z0.out
      exact bodyPost_ret (v := .tuple #[.agg #[.slice p T.length c], .int .i64 1]) (by simp [results, Try.results14, go_sem, y0]) rfl ⟨p, c, T, by rw [HP2.out], HRw.out, HR2.out, HOf.out, .inl (by first | rfl | exact ⟨rfl, rfl, rfl⟩)⟩
    · by_cases a2 : op.x.c > 999
      · skip
        have HP2 := hid (show putC ks L op.s op.x = 1 from by rw [HPc.out, if_pos rfl, if_pos (by unfold outB; simp; omega)])
        have HR2 := hid (show Rel T (pk ks L op.s op.x) (pl ks L op.s op.x) from by unfold pk pl; rw [HP2.out, if_neg (by decide), if_neg (by decide)]; exact HRel.out)
        obtain ⟨t0, tf0, i0, i1, i2, i3, r0, rf0⟩ := P3.out
        have z0 := hid (World.cell?_setCell_same w3 ⟨rb, 0, none⟩ (.slice p T.length c) r0)
        have HOf := hid ((O1.out.trans U3.out).setCell (p := ⟨rb, 0, none⟩) HZb.out.2.1 (.slice p T.length c))
        have HRw := hid (HRow.out.old HOf.out)
        clear HPc HRel
        go_wp2
        have y0 := z0.out
        exact bodyPost_ret (v := .tuple #[.agg #[.slice p T.length c], .int .i64 1]) (by simp [results, Try.results14, go_sem, y0]) rfl ⟨p, c, T, by rw [HP2.out], HRw.out, HR2.out, HOf.out, .inl (by first | rfl | exact ⟨rfl, rfl, rfl⟩)⟩
      · by_cases a3 : op.x.m < 0
        · skip
          have HP2 := hid (show putC ks L op.s op.x = 1 from by rw [HPc.out, if_pos rfl, if_pos (by unfold outB; simp; omega)])
          have HR2 := hid (show Rel T (pk ks L op.s op.x) (pl ks L op.s op.x) from by unfold pk pl; rw [HP2.out, if_neg (by decide), if_neg (by decide)]; exact HRel.out)
          obtain ⟨t0, tf0, i0, i1, i2, i3, r0, rf0⟩ := P3.out
          have z0 := hid (World.cell?_setCell_same w3 ⟨rb, 0, none⟩ (.slice p T.length c) r0)
          have HOf := hid ((O1.out.trans U3.out).setCell (p := ⟨rb, 0, none⟩) HZb.out.2.1 (.slice p T.length c))
          have HRw := hid (HRow.out.old HOf.out)
          clear HPc HRel
          go_wp2
          have y0 := z0.out
          exact bodyPost_ret (v := .tuple #[.agg #[.slice p T.length c], .int .i64 1]) (by simp [results, Try.results14, go_sem, y0]) rfl ⟨p, c, T, by rw [HP2.out], HRw.out, HR2.out, HOf.out, .inl (by first | rfl | exact ⟨rfl, rfl, rfl⟩)⟩
        · by_cases a4 : op.x.m > 1099511627776
          · skip
            have HP2 := hid (show putC ks L op.s op.x = 1 from by rw [HPc.out, if_pos rfl, if_pos (by unfold outB; simp; omega)])
            have HR2 := hid (show Rel T (pk ks L op.s op.x) (pl ks L op.s op.x) from by unfold pk pl; rw [HP2.out, if_neg (by decide), if_neg (by decide)]; exact HRel.out)
            obtain ⟨t0, tf0, i0, i1, i2, i3, r0, rf0⟩ := P3.out
            have z0 := hid (World.cell?_setCell_same w3 ⟨rb, 0, none⟩ (.slice p T.length c) r0)
            have HOf := hid ((O1.out.trans U3.out).setCell (p := ⟨rb, 0, none⟩) HZb.out.2.1 (.slice p T.length c))
            have HRw := hid (HRow.out.old HOf.out)
            clear HPc HRel
            go_wp2
            have y0 := z0.out
            exact bodyPost_ret (v := .tuple #[.agg #[.slice p T.length c], .int .i64 1]) (by simp [results, Try.results14, go_sem, y0]) rfl ⟨p, c, T, by rw [HP2.out], HRw.out, HR2.out, HOf.out, .inl (by first | rfl | exact ⟨rfl, rfl, rfl⟩)⟩
          · have HP0 := hid (show putC ks L op.s op.x = 0 from by rw [HPc.out, if_pos rfl, if_neg (by unfold outB; simp; omega)])
            have HHi := hid (HRel.out.hiPut HOk.out HP0.out)
            have HR2 := hid (show Rel (fltT op.s (hiL (insS op.x (L op.s))) (T ++ [op])) (pk ks L op.s op.x) (pl ks L op.s op.x) from by unfold pk pl; rw [HP0.out, if_pos rfl, if_pos rfl]; exact HRel.out.put HOk.out HP0.out)
            have hHi : 1 ≤ hiL (insS op.x (L op.s)) ∧ hiL (insS op.x (L op.s)) ≤ 1099511627776 := by
              obtain ⟨q0, _⟩ := putC_zero HP0.out
              obtain ⟨_, _, q1, _⟩ := lookC_zero q0
              exact hi_ins q1 (HOk.out.seq op.s)
            generalize hiL (insS op.x (L op.s)) = H at *
            have HTk := hid (fun k hk => take_opA T k hk)
            have HTn := hid (List.take_length (l := T))
            obtain ⟨t0, tf0, i0, i1, i2, i3, r0, rf0⟩ := P3.out
            go_upto_region 7 with fail
            have E0 := hid (OwnO.made w3)
            have UE := hid (show Old w3 (w3.alloc (.cells #[] 44)) from (Old.refl w3).alloc _)
            generalize w3.alloc (.cells #[] 44) = w4 at *
            clear t0 tf0 i0 i1 i2 i3 r0 rf0 HPc a1 a2 a3 a4
            obtain ⟨n, hn⟩ : ∃ n, T.length = n := ⟨_, rfl⟩
            rw [hn] at P3 HC HTk HTn hm hlen ⊢
            have HNn := hid hn
            clear hn
            have ln : (n : Int) ≤ 128 := by omega
            go_upto_region 8 with fail
            go_loopw [8, 9] (fun o i wr => ∃ k : Nat, k ≤ n ∧ i = .int .i64 (k : Nat) ∧ OwnO w3.heap.size wr o (T.take k) ∧ Old w3 wr) (fun _ i _ => n - (intOf i).toNat)
            case atStart => exact ⟨0, Nat.zero_le _, rfl, E0.out, UE.out⟩
            case round =>
              obtain ⟨k, hk, rfl, ho, hu⟩ := hrel
              obtain ⟨pb, cb, e⟩ := ho.len
              obtain ⟨l1, hl1⟩ : ∃ l1, (T.take k).length = l1 := ⟨_, rfl⟩
              rw [hl1] at e
              subst e
              have HLl := hid (show l1 ≤ 128 from by rw [← hl1, List.length_take]; omega)
              have HL1 := hid hl1
              have HO := hid ho
              have V := hid hu
              have PV := hid (PtB.old hu P3.out)
              clear ho hu hl1 E0 UE
              obtain ⟨t0, tf0, i0, i1, i2, i3, r0, rf0⟩ := PV.out
              by_cases hlt : k < n
              · obtain ⟨b, ea, hI⟩ := HC.out k hlt
                subst ea
                obtain ⟨z0, z1, z2, z3⟩ := hI.old ((O1.out.trans U3.out).trans V.out)
                have m1 : (0 : Int) ≤ (k : Int) := by omega
                have m2 : (k : Int) < (n : Int) := by omega
                have HT1 := hid (HTk.out k hlt)
                clear hI HC HTk
                generalize opA T k = o at *
                go_wp2_with (at_builtin; refine wp_appO rfl (.tmp 53) (.tmp 59) rfl w3.heap.size _ (T.take k) o _ 1 rfl rfl (HO.out.up ((Old.refl _).alloc _)) (cell_oneO _ _ _ (by first | rfl | simp)) (by rw [HL1.out]; have := HLl.out; omega) (by have := V.out.size; simp; omega) ?_; intro v9 w9 o9 g9 n9; have O9 := hid o9; have V9 := hid (show Old w3 w9 from Below.grown (V.out.alloc _) g9 (V.out.alloc _).size (fun k e => (World.ownsRow.lt HO.out k e).1)); clear o9 g9 n9)
                obtain ⟨p9, c9, e9⟩ := O9.out.len
                subst e9
                go_roundw
                case rel => exact ⟨k + 1, hlt, by go_num, by rw [HT1.out]; exact O9.out, V9.out⟩
                case measure => simp [intOf]; omega
              · obtain rfl : k = n := by omega
                rw [HTn.out] at HO HL1
                have hlk : l1 = k := by have h1 := HL1.out; have h2 := HNn.out; omega
                rw [hlk] at HL1 HO ⊢
                clear hlk
                go_upto_region 12 with (at_builtin; refine wp_appO rfl (.tmp 61) (.tmp 63) rfl w3.heap.size _ T op _ 1 rfl rfl (HO.out.up ((Old.refl _).alloc _)) (cell_oneO _ _ _ (by first | rfl | simp)) (by rw [HL1.out]; have := HLl.out; omega) (by have := V.out.size; simp; omega) ?_; intro v6 w6 o6 g6 n6; obtain ⟨p6, c6, e6⟩ := o6.len; rw [List.length_append, List.length_singleton, HL1.out] at e6; subst e6; have O6 := hid o6; have V6 := hid (show Old w3 w6 from Below.grown (V.out.alloc _) g6 (V.out.alloc _).size (fun k e => (World.ownsRow.lt HO.out k e).1)); obtain ⟨t6, tf6, i60, i61, i62, i63, r6, rf6⟩ := PtB.old V6.out P3.out; clear o6 g6 n6)
                have hz6 := V6.out.size
                have hbt : ∀ g, (Value.slice p6 (k + 1) c6).ownBlock = some g → g ∉ [tb] := fun g e => by have h1 := (World.ownsRow.lt O6.out g e).1; have h2 := HZb.out; have h3 := U3.out.size; simp; omega
                have O7 := hid (O6.out.chg (Chg.set w6 ⟨tb, 0, none⟩ (.slice p6 (k + 1) c6) (S := [tb]) (by simp)) hbt)
                have P7 := hid ((PtB.old V6.out P3.out).set (v := .slice p6 (k + 1) c6) HZb.out.2.2.1 HZb.out.2.2.2.1)
                have U7 := hid (show Old w (w6.setCell ⟨tb, 0, none⟩ (.slice p6 (k + 1) c6)) from ((O1.out.trans U3.out).trans V6.out).setCell HZb.out.1 _)
                have HZ7 := hid (show tb < (w6.setCell ⟨tb, 0, none⟩ (.slice p6 (k + 1) c6)).heap.size ∧ rb < (w6.setCell ⟨tb, 0, none⟩ (.slice p6 (k + 1) c6)).heap.size from by have h2 := HZb.out; have h3 := U3.out.size; simp; omega)
                generalize w6.setCell ⟨tb, 0, none⟩ (.slice p6 (k + 1) c6) = w6s at *
                clear hbt hz6 t6 tf6 i60 i61 i62 i63 r6 rf6 t0 tf0 i0 i1 i2 i3 r0 rf0 O6 V6 PV HO V HTk HTn HC P3
                have HR7 := hid (O7.out.rrow (by rw [List.length_append, List.length_singleton, HL1.out]; omega))
                have HHg := hid (rHighest_any _ (T ++ [op]) op.s w6s HR7.out)
                rw [HHi.out] at HHg
                obtain ⟨t0, tf0, i0, i1, i2, i3, r0, rf0⟩ := P7.out
                go_upto_region 13 with (go_at_call 18; refine HHg.out.mono ?_; rintro e w7 ⟨rfl, u7⟩; have U78 := hid u7; clear u7)
                have P8 := hid (PtB.old U78.out P7.out)
                clear t0 tf0 i0 i1 i2 i3 r0 rf0 HHg
                go_upto_region 14 with fail
                have E0 := hid (OwnO.made w7)
                have UE := hid (show Old w7 (w7.alloc (.cells #[] 44)) from (Old.refl w7).alloc _)
                generalize w7.alloc (.cells #[] 44) = w8 at *
                have HR8 := hid (HR7.out.old U78.out)
                have lw : IntKind.i64.wrap (H - 8) = H - 8 := IntWalk.i64_in _ (by omega)
                have HFs := hid (fun j hj => fltT_step op.s H (T ++ [op]) j hj)
                have HFn := hid (List.take_length (l := T ++ [op]))
                have HTl := hid (show (T ++ [op]).length = k + 1 from by rw [List.length_append, List.length_singleton, HL1.out])
                have HFl2 := hid (fun j => show (fltT op.s H ((T ++ [op]).take j)).length ≤ 200 from by
                  have h1 := List.length_filter_le (stays op.s H) ((T ++ [op]).take j)
                  have h2 : ((T ++ [op]).take j).length ≤ (T ++ [op]).length := by rw [List.length_take]; omega
                  have h3 := HTl.out
                  unfold fltT
                  omega)
                obtain ⟨_, p8, c8, e8, hc8⟩ := HR8.out
                rw [HTl.out] at e8 hc8 HFs HFn
                cases e8
                have HC8 := hid hc8
                clear hc8
                generalize hTT : T ++ [op] = T' at *
                clear hTT HR7 HR8 O7
                obtain ⟨n2, hn2⟩ : ∃ n2, k + 1 = n2 := ⟨_, rfl⟩
                rw [hn2] at P8 HC8 HFs HFn HTl ⊢
                have hn2l : (n2 : Int) ≤ 200 := by omega
                go_upto_region 15 with fail
                go_loopw [11, 12] (fun o i wr => ∃ k : Nat, k ≤ n2 ∧ i = .int .i64 (k : Nat) ∧ OwnO w7.heap.size wr o (fltT op.s H (T'.take k)) ∧ Old w7 wr) (fun _ i _ => n2 - (intOf i).toNat)
                case atStart => exact ⟨0, Nat.zero_le _, rfl, E0.out, UE.out⟩
                case round =>
                  clear hn2 ln hk
                  obtain ⟨k, hk, rfl, ho, hu⟩ := hrel
                  obtain ⟨pb2, cb2, e⟩ := ho.len
                  obtain ⟨l2, hl2⟩ : ∃ l2, (fltT op.s H (T'.take k)).length = l2 := ⟨_, rfl⟩
                  rw [hl2] at e
                  subst e
                  have HO2 := hid ho
                  have HV2 := hid hu
                  have PV := hid (PtB.old hu P8.out)
                  have HFl := hid (HFl2.out k)
                  clear ho hu hl2 E0 UE
                  obtain ⟨t0, tf0, i0, i1, i2, i3, r0, rf0⟩ := PV.out
                  by_cases hlt : k < n2
                  · obtain ⟨b, ea, hI⟩ := HC8.out k hlt
                    subst ea
                    obtain ⟨z0, z1, z2, z3⟩ := hI.old HV2.out
                    have m1 : (0 : Int) ≤ (k : Int) := by omega
                    have m2 : (k : Int) < (n2 : Int) := by omega
                    have HSs := hid (HFs.out k hlt)
                    clear hI HC8 HFs
                    generalize opA T' k = o at *
                    have HK5 := hid (show K5 tb ib b k (.slice (some ⟨b, 0, none⟩) n2 c6) op o wr from ⟨⟨t0, trivial⟩, i0, z0, z1, z2, z3⟩)
                    generalize hFT : fltT op.s H (T'.take k) = FT at *
                    clear hFT
                    by_cases q1 : o.s = op.s
                    · have r1 : (o.s == op.s) = true := by rw [beq_iff_eq]; exact q1
                      have r1' : (o.s != op.s) = false := by rw [q1]; simp
                      by_cases q2 : o.x.n > H - 8
                      · have HSt := hid (show fltT op.s H (T'.take (k + 1)) = FT ++ [o] from by rw [HSs.out, if_pos (by unfold stays; rw [r1', Bool.false_or]; exact decide_eq_true q2)])
                        clear q1 r1 HSs
                        go_upto_region 17 with fail
                        clear t0 tf0 i0 i1 i2 i3 r0 rf0 z0 z1 z2 z3
                        refine wp_region_noPanic ?_
                        refine wp_region_held_drew (S := K5 tb ib b k (.slice (some ⟨b, 0, none⟩) n2 c6) op o) (by kernel_rfl) ?_ (fun hHeld => ?_)
                        · exact K5.old ((Old.refl wr).drew) HK5.out
                        (try simp only [Act.put]); (try simp only [List.setIfInBounds_toArray]); (try simp only [List.set_cons_succ]); (try simp only [List.set_cons_zero])
                        clear hHeld
                        refine wpAnyH_take (i := 0) (oi := { dst := some 78, op := Op.fieldAddr 42 (Operand.tmp 2) 0, type := 0, pos := "ref.go:117", after := #[], guard := none }) (v := ?vk12) rfl (by kernel_rfl) (by kernel_rfl) (by kernel_rfl) (fun _ _ _ h => h) (Or.inl ⟨by rfl, ?hk12⟩) (K5.old ((Old.refl wr).drew) HK5.out) ?rk12
                        case hk12 => (intro wz hSw; (try dsimp only at hSw); go_simp; try with_reducible rfl)
                        (try simp only [Act.put]); (try simp only [List.setIfInBounds_toArray]); (try simp only [List.set_cons_succ]); (try simp only [List.set_cons_zero])
                        refine wpAnyH_take (i := 1) (oi := { dst := some 79, op := Op.load 40 (Operand.tmp 78), type := 40, pos := "ref.go:117", after := #[{ on := 0, ground := Ground.data }], guard := none }) (v := ?vk13) rfl (by kernel_rfl) (by kernel_rfl) (by kernel_rfl) (fun _ _ _ h => h) (Or.inl ⟨by rfl, ?hk13⟩) (K5.old ((Old.refl wr).drew) HK5.out) ?rk13
                        case hk13 => (intro wz hSw; (try dsimp only at hSw); go_simp; try with_reducible rfl)
                        (try simp only [Act.put]); (try simp only [List.setIfInBounds_toArray]); (try simp only [List.set_cons_succ]); (try simp only [List.set_cons_zero])
                        refine wpAnyH_take (i := 2) (oi := { dst := some 80, op := Op.move (Operand.tmp 12), type := 3, pos := "ref.go:117", after := #[], guard := none }) (v := ?vk14) rfl (by kernel_rfl) (by kernel_rfl) (by kernel_rfl) (fun _ _ _ h => h) (Or.inl ⟨by rfl, ?hk14⟩) (K5.old ((Old.refl wr).drew) HK5.out) ?rk14
                        case hk14 => (intro wz hSw; (try dsimp only at hSw); go_simp; try with_reducible rfl)
                        (try simp only [Act.put]); (try simp only [List.setIfInBounds_toArray]); (try simp only [List.set_cons_succ]); (try simp only [List.set_cons_zero])
                        refine wpAnyH_take (i := 3) (oi := { dst := some 81, op := Op.indexAddr 40 (Operand.tmp 79) (Operand.tmp 80), type := 0, pos := "ref.go:117", after := #[{ on := 1, ground := Ground.data }, { on := 2, ground := Ground.data }], guard := none }) (v := ?vk15) rfl (by kernel_rfl) (by kernel_rfl) (by kernel_rfl) (fun _ _ _ h => h) (Or.inl ⟨by rfl, ?hk15⟩) (K5.old ((Old.refl wr).drew) HK5.out) ?rk15
                        case hk15 => (intro wz hSw; (try dsimp only at hSw); go_simp; try with_reducible rfl)
                        (try simp only [Act.put]); (try simp only [List.setIfInBounds_toArray]); (try simp only [List.set_cons_succ]); (try simp only [List.set_cons_zero])
                        refine wpAnyH_take (i := 4) (oi := { dst := some 82, op := Op.fieldAddr 44 (Operand.tmp 81) 0, type := 0, pos := "ref.go:117", after := #[{ on := 3, ground := Ground.data }], guard := none }) (v := ?vk16) rfl (by kernel_rfl) (by kernel_rfl) (by kernel_rfl) (fun _ _ _ h => h) (Or.inl ⟨by rfl, ?hk16⟩) (K5.old ((Old.refl wr).drew) HK5.out) ?rk16
                        case hk16 => (intro wz hSw; (try dsimp only at hSw); go_simp; try with_reducible rfl)
                        (try simp only [Act.put]); (try simp only [List.setIfInBounds_toArray]); (try simp only [List.set_cons_succ]); (try simp only [List.set_cons_zero])
                        refine wpAnyH_take (i := 5) (oi := { dst := some 83, op := Op.load 2 (Operand.tmp 82), type := 2, pos := "ref.go:117", after := #[{ on := 4, ground := Ground.data }], guard := none }) (v := ?vk17) rfl (by kernel_rfl) (by kernel_rfl) (by kernel_rfl) (fun _ _ _ h => h) (Or.inl ⟨by rfl, ?hk17⟩) (K5.old ((Old.refl wr).drew) HK5.out) ?rk17
                        case hk17 => (intro wz hSw; (try dsimp only at hSw); go_simp; try with_reducible rfl)
                        (try simp only [Act.put]); (try simp only [List.setIfInBounds_toArray]); (try simp only [List.set_cons_succ]); (try simp only [List.set_cons_zero])
                        refine wpAnyH_take (i := 6) (oi := { dst := some 84, op := Op.fieldAddr 44 (Operand.tmp 3) 0, type := 0, pos := "ref.go:117", after := #[], guard := none }) (v := ?vk18) rfl (by kernel_rfl) (by kernel_rfl) (by kernel_rfl) (fun _ _ _ h => h) (Or.inl ⟨by rfl, ?hk18⟩) (K5.old ((Old.refl wr).drew) HK5.out) ?rk18
                        case hk18 => (intro wz hSw; (try dsimp only at hSw); go_simp; try with_reducible rfl)
                        (try simp only [Act.put]); (try simp only [List.setIfInBounds_toArray]); (try simp only [List.set_cons_succ]); (try simp only [List.set_cons_zero])
                        refine wpAnyH_take (i := 7) (oi := { dst := some 85, op := Op.load 2 (Operand.tmp 84), type := 2, pos := "ref.go:117", after := #[{ on := 6, ground := Ground.data }], guard := none }) (v := ?vk19) rfl (by kernel_rfl) (by kernel_rfl) (by kernel_rfl) (fun _ _ _ h => h) (Or.inl ⟨by rfl, ?hk19⟩) (K5.old ((Old.refl wr).drew) HK5.out) ?rk19
                        case hk19 => (intro wz hSw; (try dsimp only at hSw); go_simp; try with_reducible rfl)
                        (try simp only [Act.put]); (try simp only [List.setIfInBounds_toArray]); (try simp only [List.set_cons_succ]); (try simp only [List.set_cons_zero])
                        refine wpAnyH_take (i := 8) (oi := { dst := some 86, op := Op.binOp BinOp.neq 2 (Operand.tmp 83) (Operand.tmp 85) 2, type := 4, pos := "ref.go:117", after := #[{ on := 5, ground := Ground.data }, { on := 7, ground := Ground.data }], guard := none }) (v := ?vk20) rfl (by kernel_rfl) (by kernel_rfl) (by kernel_rfl) (fun _ _ _ h => h) (Or.inl ⟨by rfl, ?hk20⟩) (K5.old ((Old.refl wr).drew) HK5.out) ?rk20
                        case hk20 => (intro wz hSw; (try dsimp only at hSw); go_simp; try with_reducible rfl)
                        (try simp only [Act.put]); (try simp only [List.setIfInBounds_toArray]); (try simp only [List.set_cons_succ]); (try simp only [List.set_cons_zero])
                        refine wpAnyH_take (i := 9) (oi := { dst := some 87, op := Op.move (Operand.tmp 86), type := 4, pos := "ref.go:117", after := #[{ on := 8, ground := Ground.data }], guard := none }) (v := ?vk21) rfl (by kernel_rfl) (by kernel_rfl) (by kernel_rfl) (fun _ _ _ h => h) (Or.inl ⟨by rfl, ?hk21⟩) (K5.old ((Old.refl wr).drew) HK5.out) ?rk21
                        case hk21 => (intro wz hSw; (try dsimp only at hSw); go_simp; try with_reducible rfl)
                        (try simp only [Act.put]); (try simp only [List.setIfInBounds_toArray]); (try simp only [List.set_cons_succ]); (try simp only [List.set_cons_zero])
                        refine wpAnyH_take (i := 10) (oi := { dst := some 88, op := Op.fieldAddr 42 (Operand.tmp 2) 0, type := 0, pos := "ref.go:117", after := #[{ on := 9, ground := Ground.guard }], guard := some (9, false) }) (v := ?vk22) rfl (by kernel_rfl) (by kernel_rfl) (by kernel_rfl) (fun _ _ _ h => h) (Or.inl ⟨by rfl, ?hk22⟩) (K5.old ((Old.refl wr).drew) HK5.out) ?rk22
                        case hk22 => (intro wz hSw; (try dsimp only at hSw); go_simp; try with_reducible rfl)
                        (try simp only [Act.put]); (try simp only [List.setIfInBounds_toArray]); (try simp only [List.set_cons_succ]); (try simp only [List.set_cons_zero])
                        refine wpAnyH_take (i := 11) (oi := { dst := some 89, op := Op.load 40 (Operand.tmp 88), type := 40, pos := "ref.go:117", after := #[{ on := 10, ground := Ground.data }, { on := 9, ground := Ground.guard }], guard := some (9, false) }) (v := ?vk23) rfl (by kernel_rfl) (by kernel_rfl) (by kernel_rfl) (fun _ _ _ h => h) (Or.inl ⟨by rfl, ?hk23⟩) (K5.old ((Old.refl wr).drew) HK5.out) ?rk23
                        case hk23 => (intro wz hSw; (try dsimp only at hSw); go_simp; try with_reducible rfl)
                        (try simp only [Act.put]); (try simp only [List.setIfInBounds_toArray]); (try simp only [List.set_cons_succ]); (try simp only [List.set_cons_zero])
                        refine wpAnyH_take (i := 12) (oi := { dst := some 90, op := Op.move (Operand.tmp 12), type := 3, pos := "ref.go:117", after := #[{ on := 9, ground := Ground.guard }], guard := some (9, false) }) (v := ?vk24) rfl (by kernel_rfl) (by kernel_rfl) (by kernel_rfl) (fun _ _ _ h => h) (Or.inl ⟨by rfl, ?hk24⟩) (K5.old ((Old.refl wr).drew) HK5.out) ?rk24
                        case hk24 => (intro wz hSw; (try dsimp only at hSw); go_simp; try with_reducible rfl)
                        (try simp only [Act.put]); (try simp only [List.setIfInBounds_toArray]); (try simp only [List.set_cons_succ]); (try simp only [List.set_cons_zero])
                        refine wpAnyH_take (i := 13) (oi := { dst := some 91, op := Op.indexAddr 40 (Operand.tmp 89) (Operand.tmp 90), type := 0, pos := "ref.go:117", after := #[{ on := 11, ground := Ground.data }, { on := 12, ground := Ground.data }, { on := 9, ground := Ground.guard }], guard := some (9, false) }) (v := ?vk25) rfl (by kernel_rfl) (by kernel_rfl) (by kernel_rfl) (fun _ _ _ h => h) (Or.inl ⟨by rfl, ?hk25⟩) (K5.old ((Old.refl wr).drew) HK5.out) ?rk25
                        case hk25 => (intro wz hSw; (try dsimp only at hSw); go_simp; try with_reducible rfl)
                        (try simp only [Act.put]); (try simp only [List.setIfInBounds_toArray]); (try simp only [List.set_cons_succ]); (try simp only [List.set_cons_zero])
                        refine wpAnyH_take (i := 14) (oi := { dst := some 92, op := Op.fieldAddr 44 (Operand.tmp 91) 1, type := 0, pos := "ref.go:117", after := #[{ on := 13, ground := Ground.data }, { on := 9, ground := Ground.guard }], guard := some (9, false) }) (v := ?vk26) rfl (by kernel_rfl) (by kernel_rfl) (by kernel_rfl) (fun _ _ _ h => h) (Or.inl ⟨by rfl, ?hk26⟩) (K5.old ((Old.refl wr).drew) HK5.out) ?rk26
                        case hk26 => (intro wz hSw; (try dsimp only at hSw); go_simp; try with_reducible rfl)
                        (try simp only [Act.put]); (try simp only [List.setIfInBounds_toArray]); (try simp only [List.set_cons_succ]); (try simp only [List.set_cons_zero])
                        refine wpAnyH_take (i := 15) (oi := { dst := some 93, op := Op.load 2 (Operand.tmp 92), type := 2, pos := "ref.go:117", after := #[{ on := 14, ground := Ground.data }, { on := 9, ground := Ground.guard }], guard := some (9, false) }) (v := ?vk27) rfl (by kernel_rfl) (by kernel_rfl) (by kernel_rfl) (fun _ _ _ h => h) (Or.inl ⟨by rfl, ?hk27⟩) (K5.old ((Old.refl wr).drew) HK5.out) ?rk27
                        case hk27 => (intro wz hSw; (try dsimp only at hSw); go_simp; try with_reducible rfl)
                        (try simp only [Act.put]); (try simp only [List.setIfInBounds_toArray]); (try simp only [List.set_cons_succ]); (try simp only [List.set_cons_zero])
                        refine wpAnyH_take (i := 16) (oi := { dst := some 94, op := Op.move (Operand.tmp 10), type := 2, pos := "ref.go:117", after := #[{ on := 9, ground := Ground.guard }], guard := some (9, false) }) (v := ?vk28) rfl (by kernel_rfl) (by kernel_rfl) (by kernel_rfl) (fun _ _ _ h => h) (Or.inl ⟨by rfl, ?hk28⟩) (K5.old ((Old.refl wr).drew) HK5.out) ?rk28
                        case hk28 => (intro wz hSw; (try dsimp only at hSw); go_simp; try with_reducible rfl)
                        (try simp only [Act.put]); (try simp only [List.setIfInBounds_toArray]); (try simp only [List.set_cons_succ]); (try simp only [List.set_cons_zero])
                        refine wpAnyH_take (i := 17) (oi := { dst := some 95, op := Op.binOp BinOp.sub 2 (Operand.tmp 94) (Operand.const (Value.int IntKind.i64 8)) 2, type := 2, pos := "ref.go:117", after := #[{ on := 16, ground := Ground.data }, { on := 9, ground := Ground.guard }], guard := some (9, false) }) (v := ?vk29) rfl (by kernel_rfl) (by kernel_rfl) (by kernel_rfl) (fun _ _ _ h => h) (Or.inl ⟨by rfl, ?hk29⟩) (K5.old ((Old.refl wr).drew) HK5.out) ?rk29
                        case hk29 => (intro wz hSw; (try dsimp only at hSw); go_simp; try with_reducible rfl)
                        (try simp only [Act.put]); (try simp only [List.setIfInBounds_toArray]); (try simp only [List.set_cons_succ]); (try simp only [List.set_cons_zero])
                        refine wpAnyH_take (i := 18) (oi := { dst := some 96, op := Op.binOp BinOp.gtr 2 (Operand.tmp 93) (Operand.tmp 95) 2, type := 4, pos := "ref.go:117", after := #[{ on := 15, ground := Ground.data }, { on := 17, ground := Ground.data }, { on := 9, ground := Ground.guard }], guard := some (9, false) }) (v := ?vk30) rfl (by kernel_rfl) (by kernel_rfl) (by kernel_rfl) (fun _ _ _ h => h) (Or.inl ⟨by rfl, ?hk30⟩) (K5.old ((Old.refl wr).drew) HK5.out) ?rk30
                        case hk30 => (intro wz hSw; (try dsimp only at hSw); go_simp; try with_reducible rfl)
                        (try simp only [Act.put]); (try simp only [List.setIfInBounds_toArray]); (try simp only [List.set_cons_succ]); (try simp only [List.set_cons_zero])
                        refine wpAnyH_take (i := 19) (oi := { dst := some 97, op := Op.pick (Operand.tmp 87) (Operand.const (Value.bool true)) (Operand.tmp 96), type := 4, pos := "ref.go:117", after := #[{ on := 9, ground := Ground.data }, { on := 18, ground := Ground.data }], guard := none }) (v := ?vk31) rfl (by kernel_rfl) (by kernel_rfl) (by kernel_rfl) (fun _ _ _ h => h) (Or.inl ⟨by rfl, ?hk31⟩) (K5.old ((Old.refl wr).drew) HK5.out) ?rk31
                        case hk31 => (intro wz hSw; (try dsimp only at hSw); go_simp; try with_reducible rfl)
                        (try simp only [Act.put]); (try simp only [List.setIfInBounds_toArray]); (try simp only [List.set_cons_succ]); (try simp only [List.set_cons_zero])
                        refine wpAnyH_done (by kernel_rfl) ?_ _
                        refine NoPanic.normal ?_
                        have UZ := hid ((Old.refl wr).drew)
                        generalize World.drew wr = wd at *
                        obtain ⟨y0, y1, y2, y3, y4⟩ := (K5.old UZ.out HK5.out).2
                        have y5 := (K5.old UZ.out HK5.out).1.1
                        go_wp2_with (at_builtin; refine wp_appO rfl (.tmp 98) (.tmp 104) rfl w7.heap.size _ FT o _ 1 rfl rfl ((HO2.out.up UZ.out).up ((Old.refl _).alloc _)) (cell_oneO _ _ _ (by first | rfl | simp)) (by have := HFl.out; omega) (by have := (HV2.out.trans UZ.out).size; simp; omega) ?_; intro v9 w9 o9 g9 n9; have O9 := hid o9; have V9 := hid (show Old w7 w9 from Below.grown ((HV2.out.trans UZ.out).alloc _) g9 ((HV2.out.trans UZ.out).alloc _).size (fun k e => (World.ownsRow.lt HO2.out k e).1)); clear o9 g9 n9)
                        obtain ⟨p9, c9, e9⟩ := O9.out.len
                        subst e9
                        go_roundw
                        case rel => exact ⟨k + 1, hlt, by go_num, by rw [HSt.out]; exact O9.out, V9.out⟩
                        case measure => simp [intOf]; omega
                      · have HSt := hid (show fltT op.s H (T'.take (k + 1)) = FT ++ [] from by rw [HSs.out, if_neg (by unfold stays; rw [r1', Bool.false_or]; simp; omega)])
                        clear q1 r1 HSs
                        go_upto_region 17 with fail
                        clear t0 tf0 i0 i1 i2 i3 r0 rf0 z0 z1 z2 z3
                        refine wp_region_noPanic ?_
                        refine wp_region_held_drew (S := K5 tb ib b k (.slice (some ⟨b, 0, none⟩) n2 c6) op o) (by kernel_rfl) ?_ (fun hHeld => ?_)
                        · exact K5.old ((Old.refl wr).drew) HK5.out
                        (try simp only [Act.put]); (try simp only [List.setIfInBounds_toArray]); (try simp only [List.set_cons_succ]); (try simp only [List.set_cons_zero])
                        clear hHeld
                        refine wpAnyH_take (i := 0) (oi := { dst := some 78, op := Op.fieldAddr 42 (Operand.tmp 2) 0, type := 0, pos := "ref.go:117", after := #[], guard := none }) (v := ?vk32) rfl (by kernel_rfl) (by kernel_rfl) (by kernel_rfl) (fun _ _ _ h => h) (Or.inl ⟨by rfl, ?hk32⟩) (K5.old ((Old.refl wr).drew) HK5.out) ?rk32
                        case hk32 => (intro wz hSw; (try dsimp only at hSw); go_simp; try with_reducible rfl)
                        (try simp only [Act.put]); (try simp only [List.setIfInBounds_toArray]); (try simp only [List.set_cons_succ]); (try simp only [List.set_cons_zero])
                        refine wpAnyH_take (i := 1) (oi := { dst := some 79, op := Op.load 40 (Operand.tmp 78), type := 40, pos := "ref.go:117", after := #[{ on := 0, ground := Ground.data }], guard := none }) (v := ?vk33) rfl (by kernel_rfl) (by kernel_rfl) (by kernel_rfl) (fun _ _ _ h => h) (Or.inl ⟨by rfl, ?hk33⟩) (K5.old ((Old.refl wr).drew) HK5.out) ?rk33
                        case hk33 => (intro wz hSw; (try dsimp only at hSw); go_simp; try with_reducible rfl)
                        (try simp only [Act.put]); (try simp only [List.setIfInBounds_toArray]); (try simp only [List.set_cons_succ]); (try simp only [List.set_cons_zero])
                        refine wpAnyH_take (i := 2) (oi := { dst := some 80, op := Op.move (Operand.tmp 12), type := 3, pos := "ref.go:117", after := #[], guard := none }) (v := ?vk34) rfl (by kernel_rfl) (by kernel_rfl) (by kernel_rfl) (fun _ _ _ h => h) (Or.inl ⟨by rfl, ?hk34⟩) (K5.old ((Old.refl wr).drew) HK5.out) ?rk34
                        case hk34 => (intro wz hSw; (try dsimp only at hSw); go_simp; try with_reducible rfl)
                        (try simp only [Act.put]); (try simp only [List.setIfInBounds_toArray]); (try simp only [List.set_cons_succ]); (try simp only [List.set_cons_zero])
                        refine wpAnyH_take (i := 3) (oi := { dst := some 81, op := Op.indexAddr 40 (Operand.tmp 79) (Operand.tmp 80), type := 0, pos := "ref.go:117", after := #[{ on := 1, ground := Ground.data }, { on := 2, ground := Ground.data }], guard := none }) (v := ?vk35) rfl (by kernel_rfl) (by kernel_rfl) (by kernel_rfl) (fun _ _ _ h => h) (Or.inl ⟨by rfl, ?hk35⟩) (K5.old ((Old.refl wr).drew) HK5.out) ?rk35
                        case hk35 => (intro wz hSw; (try dsimp only at hSw); go_simp; try with_reducible rfl)
                        (try simp only [Act.put]); (try simp only [List.setIfInBounds_toArray]); (try simp only [List.set_cons_succ]); (try simp only [List.set_cons_zero])
                        refine wpAnyH_take (i := 4) (oi := { dst := some 82, op := Op.fieldAddr 44 (Operand.tmp 81) 0, type := 0, pos := "ref.go:117", after := #[{ on := 3, ground := Ground.data }], guard := none }) (v := ?vk36) rfl (by kernel_rfl) (by kernel_rfl) (by kernel_rfl) (fun _ _ _ h => h) (Or.inl ⟨by rfl, ?hk36⟩) (K5.old ((Old.refl wr).drew) HK5.out) ?rk36
                        case hk36 => (intro wz hSw; (try dsimp only at hSw); go_simp; try with_reducible rfl)
                        (try simp only [Act.put]); (try simp only [List.setIfInBounds_toArray]); (try simp only [List.set_cons_succ]); (try simp only [List.set_cons_zero])
                        refine wpAnyH_take (i := 5) (oi := { dst := some 83, op := Op.load 2 (Operand.tmp 82), type := 2, pos := "ref.go:117", after := #[{ on := 4, ground := Ground.data }], guard := none }) (v := ?vk37) rfl (by kernel_rfl) (by kernel_rfl) (by kernel_rfl) (fun _ _ _ h => h) (Or.inl ⟨by rfl, ?hk37⟩) (K5.old ((Old.refl wr).drew) HK5.out) ?rk37
                        case hk37 => (intro wz hSw; (try dsimp only at hSw); go_simp; try with_reducible rfl)
                        (try simp only [Act.put]); (try simp only [List.setIfInBounds_toArray]); (try simp only [List.set_cons_succ]); (try simp only [List.set_cons_zero])
                        refine wpAnyH_take (i := 6) (oi := { dst := some 84, op := Op.fieldAddr 44 (Operand.tmp 3) 0, type := 0, pos := "ref.go:117", after := #[], guard := none }) (v := ?vk38) rfl (by kernel_rfl) (by kernel_rfl) (by kernel_rfl) (fun _ _ _ h => h) (Or.inl ⟨by rfl, ?hk38⟩) (K5.old ((Old.refl wr).drew) HK5.out) ?rk38
                        case hk38 => (intro wz hSw; (try dsimp only at hSw); go_simp; try with_reducible rfl)
                        (try simp only [Act.put]); (try simp only [List.setIfInBounds_toArray]); (try simp only [List.set_cons_succ]); (try simp only [List.set_cons_zero])
                        refine wpAnyH_take (i := 7) (oi := { dst := some 85, op := Op.load 2 (Operand.tmp 84), type := 2, pos := "ref.go:117", after := #[{ on := 6, ground := Ground.data }], guard := none }) (v := ?vk39) rfl (by kernel_rfl) (by kernel_rfl) (by kernel_rfl) (fun _ _ _ h => h) (Or.inl ⟨by rfl, ?hk39⟩) (K5.old ((Old.refl wr).drew) HK5.out) ?rk39
                        case hk39 => (intro wz hSw; (try dsimp only at hSw); go_simp; try with_reducible rfl)
                        (try simp only [Act.put]); (try simp only [List.setIfInBounds_toArray]); (try simp only [List.set_cons_succ]); (try simp only [List.set_cons_zero])
                        refine wpAnyH_take (i := 8) (oi := { dst := some 86, op := Op.binOp BinOp.neq 2 (Operand.tmp 83) (Operand.tmp 85) 2, type := 4, pos := "ref.go:117", after := #[{ on := 5, ground := Ground.data }, { on := 7, ground := Ground.data }], guard := none }) (v := ?vk40) rfl (by kernel_rfl) (by kernel_rfl) (by kernel_rfl) (fun _ _ _ h => h) (Or.inl ⟨by rfl, ?hk40⟩) (K5.old ((Old.refl wr).drew) HK5.out) ?rk40
                        case hk40 => (intro wz hSw; (try dsimp only at hSw); go_simp; try with_reducible rfl)
                        (try simp only [Act.put]); (try simp only [List.setIfInBounds_toArray]); (try simp only [List.set_cons_succ]); (try simp only [List.set_cons_zero])
                        refine wpAnyH_take (i := 9) (oi := { dst := some 87, op := Op.move (Operand.tmp 86), type := 4, pos := "ref.go:117", after := #[{ on := 8, ground := Ground.data }], guard := none }) (v := ?vk41) rfl (by kernel_rfl) (by kernel_rfl) (by kernel_rfl) (fun _ _ _ h => h) (Or.inl ⟨by rfl, ?hk41⟩) (K5.old ((Old.refl wr).drew) HK5.out) ?rk41
                        case hk41 => (intro wz hSw; (try dsimp only at hSw); go_simp; try with_reducible rfl)
                        (try simp only [Act.put]); (try simp only [List.setIfInBounds_toArray]); (try simp only [List.set_cons_succ]); (try simp only [List.set_cons_zero])
                        refine wpAnyH_take (i := 10) (oi := { dst := some 88, op := Op.fieldAddr 42 (Operand.tmp 2) 0, type := 0, pos := "ref.go:117", after := #[{ on := 9, ground := Ground.guard }], guard := some (9, false) }) (v := ?vk42) rfl (by kernel_rfl) (by kernel_rfl) (by kernel_rfl) (fun _ _ _ h => h) (Or.inl ⟨by rfl, ?hk42⟩) (K5.old ((Old.refl wr).drew) HK5.out) ?rk42
                        case hk42 => (intro wz hSw; (try dsimp only at hSw); go_simp; try with_reducible rfl)
                        (try simp only [Act.put]); (try simp only [List.setIfInBounds_toArray]); (try simp only [List.set_cons_succ]); (try simp only [List.set_cons_zero])
                        refine wpAnyH_take (i := 11) (oi := { dst := some 89, op := Op.load 40 (Operand.tmp 88), type := 40, pos := "ref.go:117", after := #[{ on := 10, ground := Ground.data }, { on := 9, ground := Ground.guard }], guard := some (9, false) }) (v := ?vk43) rfl (by kernel_rfl) (by kernel_rfl) (by kernel_rfl) (fun _ _ _ h => h) (Or.inl ⟨by rfl, ?hk43⟩) (K5.old ((Old.refl wr).drew) HK5.out) ?rk43
                        case hk43 => (intro wz hSw; (try dsimp only at hSw); go_simp; try with_reducible rfl)
                        (try simp only [Act.put]); (try simp only [List.setIfInBounds_toArray]); (try simp only [List.set_cons_succ]); (try simp only [List.set_cons_zero])
                        refine wpAnyH_take (i := 12) (oi := { dst := some 90, op := Op.move (Operand.tmp 12), type := 3, pos := "ref.go:117", after := #[{ on := 9, ground := Ground.guard }], guard := some (9, false) }) (v := ?vk44) rfl (by kernel_rfl) (by kernel_rfl) (by kernel_rfl) (fun _ _ _ h => h) (Or.inl ⟨by rfl, ?hk44⟩) (K5.old ((Old.refl wr).drew) HK5.out) ?rk44
                        case hk44 => (intro wz hSw; (try dsimp only at hSw); go_simp; try with_reducible rfl)
                        (try simp only [Act.put]); (try simp only [List.setIfInBounds_toArray]); (try simp only [List.set_cons_succ]); (try simp only [List.set_cons_zero])
                        refine wpAnyH_take (i := 13) (oi := { dst := some 91, op := Op.indexAddr 40 (Operand.tmp 89) (Operand.tmp 90), type := 0, pos := "ref.go:117", after := #[{ on := 11, ground := Ground.data }, { on := 12, ground := Ground.data }, { on := 9, ground := Ground.guard }], guard := some (9, false) }) (v := ?vk45) rfl (by kernel_rfl) (by kernel_rfl) (by kernel_rfl) (fun _ _ _ h => h) (Or.inl ⟨by rfl, ?hk45⟩) (K5.old ((Old.refl wr).drew) HK5.out) ?rk45
                        case hk45 => (intro wz hSw; (try dsimp only at hSw); go_simp; try with_reducible rfl)
                        (try simp only [Act.put]); (try simp only [List.setIfInBounds_toArray]); (try simp only [List.set_cons_succ]); (try simp only [List.set_cons_zero])
                        refine wpAnyH_take (i := 14) (oi := { dst := some 92, op := Op.fieldAddr 44 (Operand.tmp 91) 1, type := 0, pos := "ref.go:117", after := #[{ on := 13, ground := Ground.data }, { on := 9, ground := Ground.guard }], guard := some (9, false) }) (v := ?vk46) rfl (by kernel_rfl) (by kernel_rfl) (by kernel_rfl) (fun _ _ _ h => h) (Or.inl ⟨by rfl, ?hk46⟩) (K5.old ((Old.refl wr).drew) HK5.out) ?rk46
                        case hk46 => (intro wz hSw; (try dsimp only at hSw); go_simp; try with_reducible rfl)
                        (try simp only [Act.put]); (try simp only [List.setIfInBounds_toArray]); (try simp only [List.set_cons_succ]); (try simp only [List.set_cons_zero])
                        refine wpAnyH_take (i := 15) (oi := { dst := some 93, op := Op.load 2 (Operand.tmp 92), type := 2, pos := "ref.go:117", after := #[{ on := 14, ground := Ground.data }, { on := 9, ground := Ground.guard }], guard := some (9, false) }) (v := ?vk47) rfl (by kernel_rfl) (by kernel_rfl) (by kernel_rfl) (fun _ _ _ h => h) (Or.inl ⟨by rfl, ?hk47⟩) (K5.old ((Old.refl wr).drew) HK5.out) ?rk47
                        case hk47 => (intro wz hSw; (try dsimp only at hSw); go_simp; try with_reducible rfl)
                        (try simp only [Act.put]); (try simp only [List.setIfInBounds_toArray]); (try simp only [List.set_cons_succ]); (try simp only [List.set_cons_zero])
                        refine wpAnyH_take (i := 16) (oi := { dst := some 94, op := Op.move (Operand.tmp 10), type := 2, pos := "ref.go:117", after := #[{ on := 9, ground := Ground.guard }], guard := some (9, false) }) (v := ?vk48) rfl (by kernel_rfl) (by kernel_rfl) (by kernel_rfl) (fun _ _ _ h => h) (Or.inl ⟨by rfl, ?hk48⟩) (K5.old ((Old.refl wr).drew) HK5.out) ?rk48
                        case hk48 => (intro wz hSw; (try dsimp only at hSw); go_simp; try with_reducible rfl)
                        (try simp only [Act.put]); (try simp only [List.setIfInBounds_toArray]); (try simp only [List.set_cons_succ]); (try simp only [List.set_cons_zero])
                        refine wpAnyH_take (i := 17) (oi := { dst := some 95, op := Op.binOp BinOp.sub 2 (Operand.tmp 94) (Operand.const (Value.int IntKind.i64 8)) 2, type := 2, pos := "ref.go:117", after := #[{ on := 16, ground := Ground.data }, { on := 9, ground := Ground.guard }], guard := some (9, false) }) (v := ?vk49) rfl (by kernel_rfl) (by kernel_rfl) (by kernel_rfl) (fun _ _ _ h => h) (Or.inl ⟨by rfl, ?hk49⟩) (K5.old ((Old.refl wr).drew) HK5.out) ?rk49
                        case hk49 => (intro wz hSw; (try dsimp only at hSw); go_simp; try with_reducible rfl)
                        (try simp only [Act.put]); (try simp only [List.setIfInBounds_toArray]); (try simp only [List.set_cons_succ]); (try simp only [List.set_cons_zero])
                        refine wpAnyH_take (i := 18) (oi := { dst := some 96, op := Op.binOp BinOp.gtr 2 (Operand.tmp 93) (Operand.tmp 95) 2, type := 4, pos := "ref.go:117", after := #[{ on := 15, ground := Ground.data }, { on := 17, ground := Ground.data }, { on := 9, ground := Ground.guard }], guard := some (9, false) }) (v := ?vk50) rfl (by kernel_rfl) (by kernel_rfl) (by kernel_rfl) (fun _ _ _ h => h) (Or.inl ⟨by rfl, ?hk50⟩) (K5.old ((Old.refl wr).drew) HK5.out) ?rk50
                        case hk50 => (intro wz hSw; (try dsimp only at hSw); go_simp; try with_reducible rfl)
                        (try simp only [Act.put]); (try simp only [List.setIfInBounds_toArray]); (try simp only [List.set_cons_succ]); (try simp only [List.set_cons_zero])
                        refine wpAnyH_take (i := 19) (oi := { dst := some 97, op := Op.pick (Operand.tmp 87) (Operand.const (Value.bool true)) (Operand.tmp 96), type := 4, pos := "ref.go:117", after := #[{ on := 9, ground := Ground.data }, { on := 18, ground := Ground.data }], guard := none }) (v := ?vk51) rfl (by kernel_rfl) (by kernel_rfl) (by kernel_rfl) (fun _ _ _ h => h) (Or.inl ⟨by rfl, ?hk51⟩) (K5.old ((Old.refl wr).drew) HK5.out) ?rk51
                        case hk51 => (intro wz hSw; (try dsimp only at hSw); go_simp; try with_reducible rfl)
                        (try simp only [Act.put]); (try simp only [List.setIfInBounds_toArray]); (try simp only [List.set_cons_succ]); (try simp only [List.set_cons_zero])
                        refine wpAnyH_done (by kernel_rfl) ?_ _
                        refine NoPanic.normal ?_
                        have UZ := hid ((Old.refl wr).drew)
                        generalize World.drew wr = wd at *
                        go_wp2
                        go_roundw
                        case rel => exact ⟨k + 1, hlt, by go_num, by rw [HSt.out, List.append_nil]; exact HO2.out.up UZ.out, HV2.out.trans UZ.out⟩
                        case measure => simp [intOf]; omega
                    · have r1 : (o.s == op.s) = false := by rw [beq_eq_false_iff_ne]; exact q1
                      have r1' : (o.s != op.s) = true := by rw [bne_iff_ne]; exact q1
                      have HSt := hid (show fltT op.s H (T'.take (k + 1)) = FT ++ [o] from by rw [HSs.out, if_pos (by unfold stays; rw [r1', Bool.true_or])])
                      clear HSs
                      go_upto_region 17 with fail
                      clear t0 tf0 i0 i1 i2 i3 r0 rf0 z0 z1 z2 z3
                      refine wp_region_noPanic ?_
                      refine wp_region_held_drew (S := K5 tb ib b k (.slice (some ⟨b, 0, none⟩) n2 c6) op o) (by kernel_rfl) ?_ (fun hHeld => ?_)
                      · exact K5.old ((Old.refl wr).drew) HK5.out
                      (try simp only [Act.put]); (try simp only [List.setIfInBounds_toArray]); (try simp only [List.set_cons_succ]); (try simp only [List.set_cons_zero])
                      clear hHeld
                      refine wpAnyH_take (i := 0) (oi := { dst := some 78, op := Op.fieldAddr 42 (Operand.tmp 2) 0, type := 0, pos := "ref.go:117", after := #[], guard := none }) (v := ?vk1) rfl (by kernel_rfl) (by kernel_rfl) (by kernel_rfl) (fun _ _ _ h => h) (Or.inl ⟨by rfl, ?hk1⟩) (K5.old ((Old.refl wr).drew) HK5.out) ?rk1
                      case hk1 => (intro wz hSw; (try dsimp only at hSw); go_simp; try with_reducible rfl)
                      (try simp only [Act.put]); (try simp only [List.setIfInBounds_toArray]); (try simp only [List.set_cons_succ]); (try simp only [List.set_cons_zero])
                      refine wpAnyH_take (i := 1) (oi := { dst := some 79, op := Op.load 40 (Operand.tmp 78), type := 40, pos := "ref.go:117", after := #[{ on := 0, ground := Ground.data }], guard := none }) (v := ?vk2) rfl (by kernel_rfl) (by kernel_rfl) (by kernel_rfl) (fun _ _ _ h => h) (Or.inl ⟨by rfl, ?hk2⟩) (K5.old ((Old.refl wr).drew) HK5.out) ?rk2
                      case hk2 => (intro wz hSw; (try dsimp only at hSw); go_simp; try with_reducible rfl)
                      (try simp only [Act.put]); (try simp only [List.setIfInBounds_toArray]); (try simp only [List.set_cons_succ]); (try simp only [List.set_cons_zero])
                      refine wpAnyH_take (i := 2) (oi := { dst := some 80, op := Op.move (Operand.tmp 12), type := 3, pos := "ref.go:117", after := #[], guard := none }) (v := ?vk3) rfl (by kernel_rfl) (by kernel_rfl) (by kernel_rfl) (fun _ _ _ h => h) (Or.inl ⟨by rfl, ?hk3⟩) (K5.old ((Old.refl wr).drew) HK5.out) ?rk3
                      case hk3 => (intro wz hSw; (try dsimp only at hSw); go_simp; try with_reducible rfl)
                      (try simp only [Act.put]); (try simp only [List.setIfInBounds_toArray]); (try simp only [List.set_cons_succ]); (try simp only [List.set_cons_zero])
                      refine wpAnyH_take (i := 3) (oi := { dst := some 81, op := Op.indexAddr 40 (Operand.tmp 79) (Operand.tmp 80), type := 0, pos := "ref.go:117", after := #[{ on := 1, ground := Ground.data }, { on := 2, ground := Ground.data }], guard := none }) (v := ?vk4) rfl (by kernel_rfl) (by kernel_rfl) (by kernel_rfl) (fun _ _ _ h => h) (Or.inl ⟨by rfl, ?hk4⟩) (K5.old ((Old.refl wr).drew) HK5.out) ?rk4
                      case hk4 => (intro wz hSw; (try dsimp only at hSw); go_simp; try with_reducible rfl)
                      (try simp only [Act.put]); (try simp only [List.setIfInBounds_toArray]); (try simp only [List.set_cons_succ]); (try simp only [List.set_cons_zero])
                      refine wpAnyH_take (i := 4) (oi := { dst := some 82, op := Op.fieldAddr 44 (Operand.tmp 81) 0, type := 0, pos := "ref.go:117", after := #[{ on := 3, ground := Ground.data }], guard := none }) (v := ?vk5) rfl (by kernel_rfl) (by kernel_rfl) (by kernel_rfl) (fun _ _ _ h => h) (Or.inl ⟨by rfl, ?hk5⟩) (K5.old ((Old.refl wr).drew) HK5.out) ?rk5
                      case hk5 => (intro wz hSw; (try dsimp only at hSw); go_simp; try with_reducible rfl)
                      (try simp only [Act.put]); (try simp only [List.setIfInBounds_toArray]); (try simp only [List.set_cons_succ]); (try simp only [List.set_cons_zero])
                      refine wpAnyH_take (i := 5) (oi := { dst := some 83, op := Op.load 2 (Operand.tmp 82), type := 2, pos := "ref.go:117", after := #[{ on := 4, ground := Ground.data }], guard := none }) (v := ?vk6) rfl (by kernel_rfl) (by kernel_rfl) (by kernel_rfl) (fun _ _ _ h => h) (Or.inl ⟨by rfl, ?hk6⟩) (K5.old ((Old.refl wr).drew) HK5.out) ?rk6
                      case hk6 => (intro wz hSw; (try dsimp only at hSw); go_simp; try with_reducible rfl)
                      (try simp only [Act.put]); (try simp only [List.setIfInBounds_toArray]); (try simp only [List.set_cons_succ]); (try simp only [List.set_cons_zero])
                      refine wpAnyH_take (i := 6) (oi := { dst := some 84, op := Op.fieldAddr 44 (Operand.tmp 3) 0, type := 0, pos := "ref.go:117", after := #[], guard := none }) (v := ?vk7) rfl (by kernel_rfl) (by kernel_rfl) (by kernel_rfl) (fun _ _ _ h => h) (Or.inl ⟨by rfl, ?hk7⟩) (K5.old ((Old.refl wr).drew) HK5.out) ?rk7
                      case hk7 => (intro wz hSw; (try dsimp only at hSw); go_simp; try with_reducible rfl)
                      (try simp only [Act.put]); (try simp only [List.setIfInBounds_toArray]); (try simp only [List.set_cons_succ]); (try simp only [List.set_cons_zero])
                      refine wpAnyH_take (i := 7) (oi := { dst := some 85, op := Op.load 2 (Operand.tmp 84), type := 2, pos := "ref.go:117", after := #[{ on := 6, ground := Ground.data }], guard := none }) (v := ?vk8) rfl (by kernel_rfl) (by kernel_rfl) (by kernel_rfl) (fun _ _ _ h => h) (Or.inl ⟨by rfl, ?hk8⟩) (K5.old ((Old.refl wr).drew) HK5.out) ?rk8
                      case hk8 => (intro wz hSw; (try dsimp only at hSw); go_simp; try with_reducible rfl)
                      (try simp only [Act.put]); (try simp only [List.setIfInBounds_toArray]); (try simp only [List.set_cons_succ]); (try simp only [List.set_cons_zero])
                      refine wpAnyH_take (i := 8) (oi := { dst := some 86, op := Op.binOp BinOp.neq 2 (Operand.tmp 83) (Operand.tmp 85) 2, type := 4, pos := "ref.go:117", after := #[{ on := 5, ground := Ground.data }, { on := 7, ground := Ground.data }], guard := none }) (v := ?vk9) rfl (by kernel_rfl) (by kernel_rfl) (by kernel_rfl) (fun _ _ _ h => h) (Or.inl ⟨by rfl, ?hk9⟩) (K5.old ((Old.refl wr).drew) HK5.out) ?rk9
                      case hk9 => (intro wz hSw; (try dsimp only at hSw); go_simp; try with_reducible rfl)
                      (try simp only [Act.put]); (try simp only [List.setIfInBounds_toArray]); (try simp only [List.set_cons_succ]); (try simp only [List.set_cons_zero])
                      refine wpAnyH_take (i := 9) (oi := { dst := some 87, op := Op.move (Operand.tmp 86), type := 4, pos := "ref.go:117", after := #[{ on := 8, ground := Ground.data }], guard := none }) (v := ?vk10) rfl (by kernel_rfl) (by kernel_rfl) (by kernel_rfl) (fun _ _ _ h => h) (Or.inl ⟨by rfl, ?hk10⟩) (K5.old ((Old.refl wr).drew) HK5.out) ?rk10
                      case hk10 => (intro wz hSw; (try dsimp only at hSw); go_simp; try with_reducible rfl)
                      (try simp only [Act.put]); (try simp only [List.setIfInBounds_toArray]); (try simp only [List.set_cons_succ]); (try simp only [List.set_cons_zero])
                      refine wpAnyH_take (i := 10) (oi := { dst := some 88, op := Op.fieldAddr 42 (Operand.tmp 2) 0, type := 0, pos := "ref.go:117", after := #[{ on := 9, ground := Ground.guard }], guard := some (9, false) }) (v := undef) rfl (by kernel_rfl) (by kernel_rfl) (by kernel_rfl) (fun _ _ _ h => h) (Or.inr ⟨by rfl, rfl⟩) (K5.old ((Old.refl wr).drew) HK5.out) ?_
                      (try simp only [Act.put]); (try simp only [List.setIfInBounds_toArray]); (try simp only [List.set_cons_succ]); (try simp only [List.set_cons_zero])
                      refine wpAnyH_take (i := 11) (oi := { dst := some 89, op := Op.load 40 (Operand.tmp 88), type := 40, pos := "ref.go:117", after := #[{ on := 10, ground := Ground.data }, { on := 9, ground := Ground.guard }], guard := some (9, false) }) (v := undef) rfl (by kernel_rfl) (by kernel_rfl) (by kernel_rfl) (fun _ _ _ h => h) (Or.inr ⟨by rfl, rfl⟩) (K5.old ((Old.refl wr).drew) HK5.out) ?_
                      (try simp only [Act.put]); (try simp only [List.setIfInBounds_toArray]); (try simp only [List.set_cons_succ]); (try simp only [List.set_cons_zero])
                      refine wpAnyH_take (i := 12) (oi := { dst := some 90, op := Op.move (Operand.tmp 12), type := 3, pos := "ref.go:117", after := #[{ on := 9, ground := Ground.guard }], guard := some (9, false) }) (v := undef) rfl (by kernel_rfl) (by kernel_rfl) (by kernel_rfl) (fun _ _ _ h => h) (Or.inr ⟨by rfl, rfl⟩) (K5.old ((Old.refl wr).drew) HK5.out) ?_
                      (try simp only [Act.put]); (try simp only [List.setIfInBounds_toArray]); (try simp only [List.set_cons_succ]); (try simp only [List.set_cons_zero])
                      refine wpAnyH_take (i := 13) (oi := { dst := some 91, op := Op.indexAddr 40 (Operand.tmp 89) (Operand.tmp 90), type := 0, pos := "ref.go:117", after := #[{ on := 11, ground := Ground.data }, { on := 12, ground := Ground.data }, { on := 9, ground := Ground.guard }], guard := some (9, false) }) (v := undef) rfl (by kernel_rfl) (by kernel_rfl) (by kernel_rfl) (fun _ _ _ h => h) (Or.inr ⟨by rfl, rfl⟩) (K5.old ((Old.refl wr).drew) HK5.out) ?_
                      (try simp only [Act.put]); (try simp only [List.setIfInBounds_toArray]); (try simp only [List.set_cons_succ]); (try simp only [List.set_cons_zero])
                      refine wpAnyH_take (i := 14) (oi := { dst := some 92, op := Op.fieldAddr 44 (Operand.tmp 91) 1, type := 0, pos := "ref.go:117", after := #[{ on := 13, ground := Ground.data }, { on := 9, ground := Ground.guard }], guard := some (9, false) }) (v := undef) rfl (by kernel_rfl) (by kernel_rfl) (by kernel_rfl) (fun _ _ _ h => h) (Or.inr ⟨by rfl, rfl⟩) (K5.old ((Old.refl wr).drew) HK5.out) ?_
                      (try simp only [Act.put]); (try simp only [List.setIfInBounds_toArray]); (try simp only [List.set_cons_succ]); (try simp only [List.set_cons_zero])
                      refine wpAnyH_take (i := 15) (oi := { dst := some 93, op := Op.load 2 (Operand.tmp 92), type := 2, pos := "ref.go:117", after := #[{ on := 14, ground := Ground.data }, { on := 9, ground := Ground.guard }], guard := some (9, false) }) (v := undef) rfl (by kernel_rfl) (by kernel_rfl) (by kernel_rfl) (fun _ _ _ h => h) (Or.inr ⟨by rfl, rfl⟩) (K5.old ((Old.refl wr).drew) HK5.out) ?_
                      (try simp only [Act.put]); (try simp only [List.setIfInBounds_toArray]); (try simp only [List.set_cons_succ]); (try simp only [List.set_cons_zero])
                      refine wpAnyH_take (i := 16) (oi := { dst := some 94, op := Op.move (Operand.tmp 10), type := 2, pos := "ref.go:117", after := #[{ on := 9, ground := Ground.guard }], guard := some (9, false) }) (v := undef) rfl (by kernel_rfl) (by kernel_rfl) (by kernel_rfl) (fun _ _ _ h => h) (Or.inr ⟨by rfl, rfl⟩) (K5.old ((Old.refl wr).drew) HK5.out) ?_
                      (try simp only [Act.put]); (try simp only [List.setIfInBounds_toArray]); (try simp only [List.set_cons_succ]); (try simp only [List.set_cons_zero])
                      refine wpAnyH_take (i := 17) (oi := { dst := some 95, op := Op.binOp BinOp.sub 2 (Operand.tmp 94) (Operand.const (Value.int IntKind.i64 8)) 2, type := 2, pos := "ref.go:117", after := #[{ on := 16, ground := Ground.data }, { on := 9, ground := Ground.guard }], guard := some (9, false) }) (v := undef) rfl (by kernel_rfl) (by kernel_rfl) (by kernel_rfl) (fun _ _ _ h => h) (Or.inr ⟨by rfl, rfl⟩) (K5.old ((Old.refl wr).drew) HK5.out) ?_
                      (try simp only [Act.put]); (try simp only [List.setIfInBounds_toArray]); (try simp only [List.set_cons_succ]); (try simp only [List.set_cons_zero])
                      refine wpAnyH_take (i := 18) (oi := { dst := some 96, op := Op.binOp BinOp.gtr 2 (Operand.tmp 93) (Operand.tmp 95) 2, type := 4, pos := "ref.go:117", after := #[{ on := 15, ground := Ground.data }, { on := 17, ground := Ground.data }, { on := 9, ground := Ground.guard }], guard := some (9, false) }) (v := undef) rfl (by kernel_rfl) (by kernel_rfl) (by kernel_rfl) (fun _ _ _ h => h) (Or.inr ⟨by rfl, rfl⟩) (K5.old ((Old.refl wr).drew) HK5.out) ?_
                      (try simp only [Act.put]); (try simp only [List.setIfInBounds_toArray]); (try simp only [List.set_cons_succ]); (try simp only [List.set_cons_zero])
                      refine wpAnyH_take (i := 19) (oi := { dst := some 97, op := Op.pick (Operand.tmp 87) (Operand.const (Value.bool true)) (Operand.tmp 96), type := 4, pos := "ref.go:117", after := #[{ on := 9, ground := Ground.data }, { on := 18, ground := Ground.data }], guard := none }) (v := ?vk11) rfl (by kernel_rfl) (by kernel_rfl) (by kernel_rfl) (fun _ _ _ h => h) (Or.inl ⟨by rfl, ?hk11⟩) (K5.old ((Old.refl wr).drew) HK5.out) ?rk11
                      case hk11 => (intro wz hSw; (try dsimp only at hSw); go_simp; try with_reducible rfl)
                      (try simp only [Act.put]); (try simp only [List.setIfInBounds_toArray]); (try simp only [List.set_cons_succ]); (try simp only [List.set_cons_zero])
                      refine wpAnyH_done (by kernel_rfl) ?_ _
                      refine NoPanic.normal ?_
                      have UZ := hid ((Old.refl wr).drew)
                      generalize World.drew wr = wd at *
                      obtain ⟨y0, y1, y2, y3, y4⟩ := (K5.old UZ.out HK5.out).2
                      have y5 := (K5.old UZ.out HK5.out).1.1
                      go_wp2_with (at_builtin; refine wp_appO rfl (.tmp 98) (.tmp 104) rfl w7.heap.size _ FT o _ 1 rfl rfl ((HO2.out.up UZ.out).up ((Old.refl _).alloc _)) (cell_oneO _ _ _ (by first | rfl | simp)) (by have := HFl.out; omega) (by have := (HV2.out.trans UZ.out).size; simp; omega) ?_; intro v9 w9 o9 g9 n9; have O9 := hid o9; have V9 := hid (show Old w7 w9 from Below.grown ((HV2.out.trans UZ.out).alloc _) g9 ((HV2.out.trans UZ.out).alloc _).size (fun k e => (World.ownsRow.lt HO2.out k e).1)); clear o9 g9 n9)
                      obtain ⟨p9, c9, e9⟩ := O9.out.len
                      subst e9
                      go_roundw
                      case rel => exact ⟨k + 1, hlt, by go_num, by rw [HSt.out]; exact O9.out, V9.out⟩
                      case measure => simp [intOf]; omega
                  · obtain rfl : k = n2 := by omega
                    rw [HFn.out] at HO2 HFl
                    generalize hT2 : fltT op.s H T' = T2 at *
                    have hbt : ∀ g, (Value.slice pb2 l2 cb2).ownBlock = some g → g ∉ [tb, rb] := fun g e => by have h1 := (World.ownsRow.lt HO2.out g e).1; have h2 := HZ7.out; have h3 := U78.out.size; simp; omega
                    have OF := hid (HO2.out.chg ((Chg.set wr ⟨tb, 0, none⟩ (.slice pb2 l2 cb2) (S := [tb, rb]) (by simp)).trans (Chg.set _ ⟨rb, 0, none⟩ (.slice pb2 l2 cb2) (by simp))) hbt)
                    have UF := hid (((U7.out.trans (U78.out.trans HV2.out)).setCell (p := ⟨tb, 0, none⟩) HZb.out.1 (.slice pb2 l2 cb2)).setCell (p := ⟨rb, 0, none⟩) HZb.out.2.1 (.slice pb2 l2 cb2))
                    have PF := hid (PV.out.set (v := .slice pb2 l2 cb2) HZb.out.2.2.1 HZb.out.2.2.2.1)
                    have zz := hid (World.cell?_setCell_same (wr.setCell ⟨tb, 0, none⟩ (.slice pb2 l2 cb2)) ⟨rb, 0, none⟩ (.slice pb2 l2 cb2) PF.out.r)
                    obtain ⟨pq, cq, eqq⟩ := OF.out.len
                    have hll : l2 = T2.length := by injection eqq
                    clear eqq
                    subst hll
                    have HRR := hid (OF.out.rrow (by have := HFl.out; omega))
                    go_upto_region 20 with fail
                    obtain ⟨t1, tf1, i10, i11, i12, i13, r1, rf1⟩ := PF.out
                    go_wp2
                    have y0 := zz.out
                    exact bodyPost_ret (v := .tuple #[.agg #[.slice pb2 T2.length cb2], .int .i64 0]) (by simp [results, Try.results14, go_sem, y0]) rfl ⟨pb2, cb2, T2, by rw [HP0.out], HRR.out, HR2.out, UF.out, .inr (fun b e => by have h1 := (World.ownsRow.lt HO2.out b e).1; have h2 := U7.out.size; have h3 := U78.out.size; omega)⟩
  · have e1 : (lc != 0) = true := by rw [bne_iff_ne]; exact hl0
    have HP2 := hid (show putC ks L op.s op.x = lc from by rw [HPc.out, if_neg hl0])
    have HR2 := hid (show Rel T (pk ks L op.s op.x) (pl ks L op.s op.x) from by unfold pk pl; rw [HP2.out, if_neg hl0, if_neg hl0]; exact HRel.out)
    obtain ⟨t0, tf0, i0, i1, i2, i3, r0, rf0⟩ := P3.out
    have z0 := hid (World.cell?_setCell_same w3 ⟨rb, 0, none⟩ (.slice p T.length c) r0)
    have HOf := hid ((O1.out.trans U3.out).setCell (p := ⟨rb, 0, none⟩) HZb.out.2.1 (.slice p T.length c))
    have HRw := hid (HRow.out.old HOf.out)
    clear HPc HRel
    go_wp2
    have y0 := z0.out
    exact bodyPost_ret (v := .tuple #[.agg #[.slice p T.length c], .int .i64 lc]) (by simp [results, Try.results14, go_sem, y0]) rfl ⟨p, c, T, by rw [HP2.out], HRw.out, HR2.out, HOf.out, .inl (by first | rfl | exact ⟨rfl, rfl, rfl⟩)⟩
end Go.Proofs.Ytefffjlcfghniaa
