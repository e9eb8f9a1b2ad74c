/- The document's list and New of layer 19; conditions: the rows lie in memory. -/
import Derived.Test.YtejeihbcakojeaaNj
namespace Go.Proofs.Ytejeihbcakojeaa
open Go.RowKit Go.Lib
set_option linter.unusedVariables false
set_option linter.unusedSimpArgs false
set_option maxRecDepth 20000
theorem box2 {w : World} {b : Nat} {x y : Value} {T : TypeId} (h : w.heap[b]? = some (.cells #[x, y] T (0, 0))) : w.cell? ⟨b, 0, none⟩ = some x ∧ w.cell? ⟨b, 1, none⟩ = some y ∧ w.frozen? ⟨b, 0, none⟩ = false ∧ w.frozen? ⟨b, 1, none⟩ = false :=
  ⟨by rw [Go.Joins.cell_of_block h]; rfl, by rw [Go.Joins.cell_of_block h]; rfl, Go.Joins.unfrozen_of_block h 0, Go.Joins.unfrozen_of_block h 1⟩
def lstL (Y : List Lt) (at_ : Int) (l : Lt) : List Lt := if 0 ≤ at_ ∧ at_ < (Y.length : Int) then Y.set at_.toNat l else Y
theorem lst_len (Y : List Lt) (at_ : Int) (l : Lt) : (lstL Y at_ l).length = Y.length := by
  unfold lstL
  split
  · exact List.length_set ..
  · rfl
theorem lst_get (Y : List Lt) (at_ : Int) (l : Lt) (i : Nat) (hi : i < Y.length) : (lstL Y at_ l)[i]? = some (if (i : Int) = at_ then l else Y[i]) := by
  unfold lstL
  split
  · rename_i h
    rw [List.getElem?_set]
    by_cases c : (i : Int) = at_
    · rw [if_pos c, if_pos (by omega), if_pos (by omega)]
    · rw [if_neg c, if_neg (by omega), List.getElem?_eq_getElem hi]
  · rw [if_neg (by omega), List.getElem?_eq_getElem hi]
theorem lst_take (Y : List Lt) (at_ : Int) (l : Lt) (i : Nat) (hi : i < Y.length) (z : Lt) (hz : (if (i : Int) = at_ then l else Y[i]) = z) : (lstL Y at_ l).take (i + 1) = (lstL Y at_ l).take i ++ [z] := by
  rw [List.take_add_one, lst_get Y at_ l i hi, hz]
  rfl
def LstPost (w : World) (Z : List Lt) (e : Ending) (w' : World) : Prop := ∃ a c, e = .returned (.slice a Z.length c) ∧ OwnR w.heap.size w' (.slice a Z.length c) Z ∧ Old w w'
set_option maxHeartbeats 4000000 in
set_option maxRecDepth 20000 in
theorem rlist_any (most : Int) (ya : Option Addr) (yc : Nat) (Y : List Lt) (at_ : Int) (l : Lt) (vm : Value) (M : List Lt) (b1 b2 : Nat) (w : World) (hY : OwnR b1 w (.slice ya Y.length yc) Y) (hM : OwnR b2 w vm M) (hl : Y.length ≤ 1000) (hm : M.length ≤ 1) : Calls Try.prog 26 #[.agg #[.int .i64 most, .slice ya Y.length yc], .int .i64 at_, .agg #[.int .i64 l.f, .int .i64 l.t, .slice l.a l.L.length l.c], vm] w (LstPost w (lstL Y at_ l ++ M)) := by
  obtain ⟨ma, mc, rfl⟩ := hM.len
  have HY := hid hY
  have HM := hid hM
  have HL := hid hl
  have HMl := hid hm
  clear hY hM hl hm
  obtain ⟨lf, lt, la, lc, lL⟩ := l
  obtain ⟨ll, hll⟩ : ∃ ll, ll = lL.length := ⟨_, rfl⟩
  dsimp only
  rw [← hll]
  obtain ⟨n, hn⟩ : ∃ n, n = Y.length := ⟨_, rfl⟩
  have HN := hid hn
  rw [← hn] at HY HL ⊢
  obtain ⟨m, hm⟩ : ∃ m, m = M.length := ⟨_, rfl⟩
  have HMn := hid hm
  rw [← hm] at HM HMl ⊢
  have HLL := hid hll
  clear hn hm hll
  go_enter Try.func26, Try.ntmps26
  go_upto_region 2 with (fail)
  have HU := hid (show Old w ((w.alloc (.cells #[.int .i64 most, .slice ya n yc] 46)).alloc (.cells #[.int .i64 lf, .int .i64 lt, .slice la ll lc] 48)) from ((Old.refl w).alloc _).alloc _)
  have HB0 := hid (show ((w.alloc (.cells #[.int .i64 most, .slice ya n yc] 46)).alloc (.cells #[.int .i64 lf, .int .i64 lt, .slice la ll lc] 48)).heap[w.heap.size]? = some (.cells #[.int .i64 most, .slice ya n yc] 46 (0, 0)) from alloc_keep (alloc_at w _))
  have HB1 := hid (show ((w.alloc (.cells #[.int .i64 most, .slice ya n yc] 46)).alloc (.cells #[.int .i64 lf, .int .i64 lt, .slice la ll lc] 48)).heap[w.heap.size + 1]? = some (.cells #[.int .i64 lf, .int .i64 lt, .slice la ll lc] 48 (0, 0)) from by have := alloc_at (w.alloc (.cells #[.int .i64 most, .slice ya n yc] 46)) (.cells #[.int .i64 lf, .int .i64 lt, .slice la ll lc] 48); simpa using this)
  have HS := hid (show ((w.alloc (.cells #[.int .i64 most, .slice ya n yc] 46)).alloc (.cells #[.int .i64 lf, .int .i64 lt, .slice la ll lc] 48)).heap.size = w.heap.size + 1 + 1 from by simp)
  generalize (w.alloc (.cells #[.int .i64 most, .slice ya n yc] 46)).alloc (.cells #[.int .i64 lf, .int .i64 lt, .slice la ll lc] 48) = w0 at *
  obtain ⟨g0, hg0⟩ : ∃ g0, g0 = w.heap.size := ⟨_, rfl⟩
  obtain ⟨g1, hg1⟩ : ∃ g1, g1 = w.heap.size + 1 := ⟨_, rfl⟩
  obtain ⟨g2, hg2⟩ : ∃ g2, g2 = w.heap.size + 1 + 1 := ⟨_, rfl⟩
  rw [← hg0] at HB0
  rw [← hg1] at HB1
  rw [← hg2] at HS
  rw [← hg2, ← hg1, ← hg0]
  clear hg0 hg1 hg2
  have HO := hid (show OwnR w0.heap.size (w0.alloc (.cells #[] 48)) (.slice (some ⟨g2, 0, none⟩) 0 0) [] from OwnR.empty w0 g2 HS.out)
  have HU0 := hid (show Old w0 (w0.alloc (.cells #[] 48)) from (Old.refl w0).alloc _)
  generalize w0.alloc (.cells #[] 48) = wa at *
  go_wp2
  go_loopw [9, 10] (fun us c wr => ∃ (i : Nat) (a : Option Addr) (cp : Nat), i ≤ n ∧ c = .int .i64 (i : Nat) ∧ us = .slice a i cp ∧ OwnR w0.heap.size wr (.slice a i cp) ((lstL Y at_ ⟨lf, lt, la, lc, lL⟩).take i) ∧ Old w0 wr) (fun _ c _ => n - (intOf c).toNat)
  case atStart => exact ⟨0, _, _, Nat.zero_le _, rfl, rfl, by simpa using HO.out, HU0.out⟩
  case round =>
    obtain ⟨i, a, cp, hi, rfl, rfl, hO, hU⟩ := hrel
    have HO1 := hid hO
    have HU1 := hid hU
    clear hO hU HO
    obtain ⟨x0, x1, -, -⟩ := box2 (HU1.out.block HB0.out)
    have HTl := hid (show ((lstL Y at_ ⟨lf, lt, la, lc, lL⟩).take i).length = i from by rw [List.length_take, lst_len]; have := HN.out; omega)
    have l9 : (n : Int) ≤ 1000 := by have := HL.out; omega
    by_cases hlt : i < n
    · have hil : i < Y.length := by rw [← HN.out]; exact hlt
      have l2 : (0 : Int) ≤ (i : Int) := by omega
      have l3 : (i : Int) < (n : Int) := by omega
      by_cases ca : (i : Int) = at_
      · have HT := hid (lst_take Y at_ ⟨lf, lt, la, lc, lL⟩ i hil ⟨lf, lt, la, lc, lL⟩ (by rw [if_pos ca]))
        obtain ⟨y0, y1, y2, -, -, -⟩ := box3 (HU1.out.block HB1.out)
        have ca2 : ((i : Int) == at_) = true := by simpa using ca
        have HCA := hid ca
        clear ca hil
        go_wp2_with (at_builtin; refine wp_appR rfl (.tmp 23) (.tmp 25) rfl w0.heap.size _ ((lstL Y at_ ⟨lf, lt, la, lc, lL⟩).take i) _ ⟨lf, lt, la, lc, lL⟩ rfl rfl (HO1.out.old ((Old.refl wr).alloc _)) (by rw [← HLL.out]; exact alloc_at wr _) (by rw [HTl.out]; omega) (by have := HU1.out.size; simp; omega) ?_; intro v6 w6 o6 ch6 at6; have O6 := hid o6; have C6 := hid ch6; clear o6 ch6 at6)
        rw [← HT.out] at O6
        obtain ⟨a6, c6, e6⟩ := O6.out.len
        have hl6 : ((lstL Y at_ ⟨lf, lt, la, lc, lL⟩).take (i + 1)).length = i + 1 := by rw [HT.out, List.length_append, HTl.out]; rfl
        rw [hl6] at e6
        subst e6
        clear hl6
        go_roundw
        case rel => exact ⟨i + 1, a6, c6, hlt, by go_num, rfl, O6.out, C6.out.oldOf (HU1.out.alloc _) (fun k hk => (HO1.out.lt k (Option.mem_toList.1 hk)).1)⟩
        case measure => simp [intOf]; omega
      · have HT := hid (lst_take Y at_ ⟨lf, lt, la, lc, lL⟩ i hil Y[i] (by rw [if_neg ca]))
        obtain ⟨gy, cy, qy, -, -, ⟨y0, y1, y2⟩, -⟩ := HY.out.at i hil
        obtain ⟨ey, -, -⟩ := Value.slice.inj qy
        subst ey
        have k0 := (HU.out.trans HU1.out).keep y0
        have k1 := (HU.out.trans HU1.out).keep y1
        have k2 := (HU.out.trans HU1.out).keep y2
        unfold Lt.v at k2
        have ca2 : ((i : Int) == at_) = false := by rw [beq_eq_false_iff_ne]; exact ca
        have HCA := hid ca
        clear ca y0 y1 y2 qy
        generalize Y[i] = y at *
        clear hil
        go_wp2_with (at_builtin; refine wp_appR rfl (.tmp 27) (.tmp 33) rfl w0.heap.size _ ((lstL Y at_ ⟨lf, lt, la, lc, lL⟩).take i) _ y rfl rfl (HO1.out.old ((Old.refl wr).alloc _)) (alloc_at wr _) (by rw [HTl.out]; omega) (by have := HU1.out.size; simp; omega) ?_; intro v6 w6 o6 ch6 at6; have O6 := hid o6; have C6 := hid ch6; clear o6 ch6 at6)
        rw [← HT.out] at O6
        obtain ⟨a6, c6, e6⟩ := O6.out.len
        have hl6 : ((lstL Y at_ ⟨lf, lt, la, lc, lL⟩).take (i + 1)).length = i + 1 := by rw [HT.out, List.length_append, HTl.out]; rfl
        rw [hl6] at e6
        subst e6
        clear hl6
        go_roundw
        case rel => exact ⟨i + 1, a6, c6, hlt, by go_num, rfl, O6.out, C6.out.oldOf (HU1.out.alloc _) (fun k hk => (HO1.out.lt k (Option.mem_toList.1 hk)).1)⟩
        case measure => simp [intOf]; omega
    · obtain rfl : i = n := by omega
      have l3 : ¬ (i : Int) < (i : Int) := by omega
      have HE := hid (show (lstL Y at_ ⟨lf, lt, la, lc, lL⟩).take i = lstL Y at_ ⟨lf, lt, la, lc, lL⟩ from List.take_of_length_le (by rw [lst_len]; have := HN.out; omega))
      rw [HE.out] at HO1 HTl
      clear HE hlt hi
      have HA := hid (show w0.heap.size ≥ w.heap.size from HU.out.size)
      generalize lstL Y at_ ⟨lf, lt, la, lc, lL⟩ = Q at *
      go_upto_region 9 with (fail)
      generalize wr = wy at *
      go_loopw [9, 11] (fun us c wr => ∃ (j : Nat) (a : Option Addr) (cp : Nat), j ≤ m ∧ c = .int .i64 (j : Nat) ∧ us = .slice a (i + j) cp ∧ OwnR w0.heap.size wr (.slice a (i + j) cp) (Q ++ M.take j) ∧ Old w0 wr) (fun _ c _ => m - (intOf c).toNat)
      case atStart => exact ⟨0, _, _, Nat.zero_le _, rfl, rfl, by simpa using HO1.out, HU1.out⟩
      case round =>
        obtain ⟨j, a2, cp2, hj, rfl, rfl, hO, hU⟩ := hrel
        have HO2 := hid hO
        have HU2 := hid hU
        clear hO hU HO1 HU1
        have HT2 := hid (show (Q ++ M.take j).length = i + j from by rw [List.length_append, HTl.out, List.length_take]; have := HMn.out; omega)
        have l8 : (m : Int) ≤ 1 := by have := HMl.out; omega
        have l7 : (i : Int) ≤ 1000 := by have := HL.out; omega
        by_cases hlt : j < m
        · have hjl : j < M.length := by rw [← HMn.out]; exact hlt
          have HT := hid (show Q ++ M.take (j + 1) = Q ++ M.take j ++ [M[j]] from by rw [List.append_assoc, List.take_append_getElem hjl])
          obtain ⟨gy, cy, qy, -, -, ⟨y0, y1, y2⟩, -⟩ := HM.out.at j hjl
          obtain ⟨ey, -, -⟩ := Value.slice.inj qy
          subst ey
          have k0 := (HU.out.trans HU2.out).keep y0
          have k1 := (HU.out.trans HU2.out).keep y1
          have k2 := (HU.out.trans HU2.out).keep y2
          unfold Lt.v at k2
          have l2 : (0 : Int) ≤ (j : Int) := by omega
          have l3 : (j : Int) < (m : Int) := by omega
          clear y0 y1 y2 qy
          generalize M[j] = y at *
          clear hjl
          go_wp2_with (at_builtin; refine wp_appR rfl (.tmp 41) (.tmp 46) rfl w0.heap.size _ (Q ++ M.take j) _ y rfl rfl (HO2.out.old ((Old.refl wr).alloc _)) (alloc_at wr _) (by rw [HT2.out]; have := HL.out; have := HMl.out; omega) (by have := HU2.out.size; simp; omega) ?_; intro v6 w6 o6 ch6 at6; have O6 := hid o6; have C6 := hid ch6; clear o6 ch6 at6)
          rw [← HT.out] at O6
          obtain ⟨a6, c6, e6⟩ := O6.out.len
          have hl6 : (Q ++ M.take (j + 1)).length = i + (j + 1) := by rw [HT.out, List.length_append, HT2.out]; rfl
          rw [hl6] at e6
          subst e6
          clear hl6
          go_roundw
          case rel => exact ⟨j + 1, a6, c6, hlt, by go_num, rfl, O6.out, C6.out.oldOf (HU2.out.alloc _) (fun k hk => (HO2.out.lt k (Option.mem_toList.1 hk)).1)⟩
          case measure => simp [intOf]; omega
        · obtain rfl : j = m := by omega
          have l3 : ¬ (j : Int) < (j : Int) := by omega
          have HE := hid (show M.take j = M from by rw [HMn.out, List.take_length])
          rw [HE.out] at HO2 HT2
          go_wp2
          refine bodyPost_ret (v := .slice a2 (i + j) cp2) (by simp [results, Try.results26, go_sem]) rfl ?_
          refine ⟨a2, cp2, by rw [HT2.out], ?_, HU.out.trans HU2.out⟩
          rw [HT2.out]
          exact HO2.out.mono HA.out
set_option maxHeartbeats 1000000 in
set_option maxRecDepth 20000 in
theorem between_any (m : Int) (w : World) : Calls Try.prog 25 #[.int .i64 m, .int .i64 0, .int .i64 1000] w fun e w' => e = .returned (.int .i64 (mostN m : Nat)) ∧ w' = w := by
  by_cases c1 : m < 0
  · have e : ((mostN m : Nat) : Int) = 0 := by unfold mostN; omega
    rw [e]
    go_enter Try.func25, Try.ntmps25
    go_wp2
    go_ret
    exact ⟨rfl, rfl⟩
  · by_cases c2 : 1000 < m
    · have e : ((mostN m : Nat) : Int) = 1000 := by unfold mostN; omega
      rw [e]
      go_enter Try.func25, Try.ntmps25
      go_wp2
      go_ret
      exact ⟨rfl, rfl⟩
    · have e : ((mostN m : Nat) : Int) = m := by unfold mostN; omega
      rw [e]
      clear e
      go_enter Try.func25, Try.ntmps25
      go_wp2
      go_ret
      exact ⟨rfl, rfl⟩
set_option maxHeartbeats 1000000 in
set_option maxRecDepth 20000 in
theorem rnew_any (m : Int) (w : World) : Calls Try.prog 15 #[.int .i64 m] w fun e w' => e = .returned (.agg #[.int .i64 (mostN m : Nat), .slice none 0 0]) ∧ Old w w' := by
  have HB := hid (fun W => between_any m W)
  have HBx := hid (alloc_at w (.cells #[.int .i64 0, .slice none 0 0] 46))
  have HU := hid (show Old w (w.alloc (.cells #[.int .i64 0, .slice none 0 0] 46)) from (Old.refl w).alloc _)
  generalize mostN m = k at *
  go_enter Try.func15, Try.ntmps15
  go_upto_region 1 with (fail)
  generalize w.alloc (.cells #[.int .i64 0, .slice none 0 0] 46) = w1 at *
  obtain ⟨g, hg⟩ : ∃ g, g = w.heap.size := ⟨_, rfl⟩
  have HG := hid (show w.heap.size ≤ g from by omega)
  rw [← hg] at HBx ⊢
  clear hg
  obtain ⟨y0, y1, f0, f1⟩ := box2 HBx.out
  have hs : ((w1.setCell ⟨g, 0, none⟩ (.int .i64 (k : Nat))).setCell ⟨g, 1, none⟩ (.slice none 0 0)).heap[g]? = some (.cells #[.int .i64 (k : Nat), .slice none 0 0] 46 (0, 0)) := Go.Joins.block_setCell (Go.Joins.block_setCell HBx.out (.int .i64 (k : Nat)) (i := 0)) (.slice none 0 0) (i := 1)
  obtain ⟨z0, z1, -, -⟩ := box2 hs
  clear hs
  go_wp2_with (go_at_call 25; refine (HB.out _).mono ?_; rintro e w' ⟨rfl, hw⟩; have hw2 := hw.symm; subst hw2)
  refine bodyPost_ret (v := .agg #[.int .i64 (k : Nat), .slice none 0 0]) (by simp [results, Try.results15, go_sem, z0, z1]) rfl ⟨rfl, (HU.out.setCell (p := ⟨g, 0, none⟩) HG.out _).setCell (p := ⟨g, 1, none⟩) HG.out _⟩
end Go.Proofs.Ytejeihbcakojeaa
