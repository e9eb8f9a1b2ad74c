/- The law VersDrops at every row of calls; no condition. -/
import Derived.Test.YtbjikfcegiagjaaXo
namespace Go.Proofs.Ytbjikfcegiagjaa
open Go.RowKit Go.Lib
set_option linter.unusedVariables false
set_option linter.unusedSimpArgs false
set_option maxRecDepth 20000
/-- A table in the middle of the rounds. -/
def TabIn (base b : Nat) (most : Int) (w0 w : World) : Prop := ∃ v L, TabAt base w b most v L ∧ Good L ∧ (L.length : Int) ≤ most ∧ Old w0 w
/-- An item in a variable of its own. -/
abbrev BxI (g : Nat) (x : It) (w : World) : Prop := w.cell? ⟨g, 0, none⟩ = some (.float .f64 x.k) ∧ w.cell? ⟨g, 1, none⟩ = some (.int .i64 x.n)
theorem BxI.old {g : Nat} {x : It} {w w' : World} (u : Old w w') (h : BxI g x w) : BxI g x w' := ⟨u.keep h.1, u.keep h.2⟩
theorem op_new (w : World) (x : Opv) (g : Nat) (hg : w.heap.size = g) : OpIn (w.alloc (.cells #[.int .i64 x.kd, .float .f64 x.k, .int .i64 x.n] 34)) g 0 x := by
  have hh := alloc_heap w (.cells #[.int .i64 x.kd, .float .f64 x.k, .int .i64 x.n] 34) g hg
  exact ⟨by rw [cell_of_heap hh]; rfl, by rw [cell_of_heap hh]; rfl, by rw [cell_of_heap hh]; rfl⟩
theorem at_drop (m : Int) (L : List It) (h : Asc L) (x : It) (hx : x ∈ L) : atL (kc x) (keepL m L) = if m < x.n then x.n else 0 := by
  by_cases hm : m < x.n
  · rw [if_pos hm]; exact atL_mem _ (keep_asc m L h) x ((mem_keep m L x).2 ⟨hx, hm⟩)
  · rw [if_neg hm]
    refine atL_none _ _ fun y hy e => ?_
    obtain ⟨hy1, hy2⟩ := (mem_keep m L y).1 hy
    have h1 := atL_mem L h x hx
    have h2 := atL_mem L h y hy1
    rw [e] at h2
    omega
theorem mem_atI (L : List It) (i : Nat) (hi : i < L.length) : atI L i ∈ L := by rw [atI_get L i hi]; exact List.getElem_mem hi
attribute [local go_sem] run_bits run_frombits run_store_float
set_option maxHeartbeats 4000000 in
set_option maxRecDepth 20000 in
theorem dropsLaw (vs : Value) (N : Nat) (f : Nat → Opv) (m : Int) (w : World) (h : ORow w vs N f) :
    Calls Try.prog 6 #[vs, .int .i64 m] w fun e w' => e = .returned (.bool true) ∧ Old w w' := by
  have HO := hid h
  obtain ⟨hbN, sa, sc, hvs, hsc, _⟩ := h
  subst hvs
  go_enter Try.func6, Try.ntmps6
  go_upto_region 4 with (first | (go_at_call 9; refine (new_any 64 _).mono ?_; rintro e w1 ⟨rfl, t1, u1⟩; have T1 := hid t1; have U1 := hid u1; clear t1 u1) | (go_at_call 10; refine (alive_any _).mono ?_; rintro e w2 ⟨rfl, u2⟩; have T2 := hid (T1.out.old u2); have U2 := hid (U1.out.trans u2); clear u2))
  have hI : TabIn w.heap.size w.heap.size 64 w w2 := ⟨_, _, T2.out, good0, by decide, U2.out⟩
  have HI := hid hI
  clear hI T1 T2 U1 U2
  go_wp2
  go_loopw [22] (fun i wr => ∃ k : Nat, k ≤ N ∧ i = .int .i64 (k : Nat) ∧ TabIn w.heap.size w.heap.size 64 w wr) (fun i _ => N - (intOf i).toNat)
  case atStart => exact ⟨0, Nat.zero_le _, rfl, HI.out⟩
  case round =>
    obtain ⟨k, hk, rfl, v, L, ht, hG, hl, hu⟩ := hrel
    have HT := hid ht
    have HG := hid hG
    have HL := hid hl
    have HU := hid hu
    clear ht hG hl hu HI
    by_cases hlt : k < N
    · obtain ⟨_, a', c', e', _, hc⟩ := HO.out.old HU.out
      obtain ⟨b', off, hsa, hW, o0, o1, o2⟩ := hc k hlt
      simp only [Value.slice.injEq] at e'
      obtain ⟨rfl, _, rfl⟩ := e'
      subst hsa
      have l1 : (0 : Int) ≤ (k : Int) := by omega
      have l2 : (k : Int) < (N : Int) := by omega
      clear hc
      have HW := hid hW
      generalize hfk : f k = x at *
      go_upto_region 7 with fail
      have B4 := hid (op_new wr x _ rfl)
      have U4 := hid ((Old.refl wr).alloc (.cells #[.int .i64 x.kd, .float .f64 x.k, .int .i64 x.n] 34))
      have T4 := hid (HT.out.old U4.out)
      clear o0 o1 o2
      generalize wr.alloc (.cells #[.int .i64 x.kd, .float .f64 x.k, .int .i64 x.n] 34) = w4 at *
      obtain ⟨o0, o1, o2⟩ := B4.out
      have HP := hid (put_any w.heap.size w.heap.size 64 x.n v L x.k HW.out w4 T4.out HG.out (by have := HL.out; omega))
      go_wp2_with (go_at_call 12; refine HP.out.mono ?_; rintro e w5 ⟨v5, rfl, t5, c5, n5⟩; have T5 := hid t5; have U5 := hid ((HU.out.trans U4.out).below (T4.out.below c5)); clear t5 c5 n5)
      go_roundw
      case rel => exact ⟨k + 1, hlt, by go_num, v5, _, T5.out, put_good HW.out HG.out, put_most HG.out HL.out, U5.out⟩
      case measure => simp [intOf]; omega
    · obtain rfl : k = N := by omega
      have hLb : L.length ≤ 64 := by have := HL.out; omega
      go_upto_region 11 with (first | (go_at_call 22; refine (all_any _ _ _ _ _ _ (by omega) HT.out).mono ?_; rintro e w6 ⟨v6, rfl, o6, u6⟩; obtain ⟨a6, c6, hv6⟩ := o6.len; subst hv6; have O6 := hid o6; have T6 := hid (HT.out.old u6); have U6 := hid (HU.out.trans u6); clear o6 u6) | (go_at_call 17; refine (drop_any _ _ _ _ _ _ _ (by omega) T6.out).mono ?_; rintro e w7 ⟨v7, rfl, t7, c7, n7⟩; have T7 := hid t7; have O7 := hid (O6.out.chg c7 (fun g hg hm => by have q1 := (O6.out.lt g hg).1; have q2 := (HT.out.blk g hm).2; omega)); have U7 := hid (U6.out.below (T6.out.below c7)); clear t7 c7 n7))
      have hle : (keepL m L).length ≤ L.length := List.length_filter_le _ _
      have HSh := hid (fun (e : 0 < L.length) => O7.out.shape e)
      have HAs := hid (HG.out.1)
      have HKG := hid (show Good (keepL m L) from ⟨keep_asc m L HG.out.1, fun z hz => HG.out.2 z ((mem_keep m L z).1 hz).1⟩)
      have HTk := hid (show keepL m (L.take L.length) = keepL m L by rw [List.take_length])
      have HSt := hid (fun j (hj : j < L.length) => keep_step m L j hj)
      have HLt := hid (fun j => show (keepL m (L.take j)).length ≤ j from Nat.le_trans (List.length_filter_le _ _) (by rw [List.length_take]; omega))
      have HMem := hid (fun j (hj : j < L.length) => And.intro (mem_atI L j hj) (HG.out.at j hj).1)
      clear O6 O7 T6 U6 HT HL
      generalize hM : L.length = M at *
      go_wp2
      go_loopw [10, 40] (fun l i wr => ∃ j : Nat, j ≤ M ∧ i = .int .i64 (j : Nat) ∧ l = .int .i64 ((keepL m (L.take j)).length : Nat) ∧ Old w7 wr) (fun l i _ => M - (intOf i).toNat)
      case atStart => exact ⟨0, Nat.zero_le _, rfl, rfl, Old.refl _⟩
      case round =>
        obtain ⟨j, hj, rfl, rfl, hu⟩ := hrel
        have HV := hid hu
        clear hu
        have hjl := HLt.out j
        by_cases hjt : j < M
        · obtain ⟨g, cap, he, hgb, hgl, hi, hfz⟩ := HSh.out (by omega)
          simp only [Value.slice.injEq] at he
          obtain ⟨rfl, _, rfl⟩ := he
          obtain ⟨c0, c1⟩ := (hi j hjt).old HV.out
          have l1 : (0 : Int) ≤ (j : Int) := by omega
          have l2 : (j : Int) < (M : Int) := by omega
          clear hi hfz
          have HSj := hid (HSt.out j hjt)
          have HMj := hid (HMem.out j hjt)
          have HAt := hid (at_drop m L HAs.out (atI L j) HMj.out.1)
          go_upto_region 15 with fail
          have B4 := hid (item_new wr (atI L j) _ rfl)
          have U4 := hid ((Old.refl wr).alloc (.cells (itc (atI L j)).toArray 52))
          have hwe : wr.alloc (.cells #[.float .f64 (atI L j).k, .int .i64 (atI L j).n] 52) = wr.alloc (.cells (itc (atI L j)).toArray 52) := rfl
          rw [hwe]
          clear hwe c0 c1
          generalize wr.alloc (.cells (itc (atI L j)).toArray 52) = w8 at *
          have HA := hid (fun (W : World) (u : Old w7 W) => at_any w.heap.size w.heap.size 64 v7 (keepL m L) (atI L j).k HMj.out.2 W (T7.out.old u) HKG.out (by omega))
          obtain ⟨b0, b1⟩ := B4.out
          have HU8 := hid (HV.out.trans U4.out)
          by_cases hgt : m < (atI L j).n
          · have HA2 := hid (show atL (Fl.code (atI L j).k) (keepL m L) = (atI L j).n from by have := HAt.out; rw [if_pos hgt] at this; exact this)
            rw [HA2.out] at HA
            have HS2 := hid (show (keepL m (L.take (j + 1))).length = (keepL m (L.take j)).length + 1 by rw [HSj.out, if_pos hgt]; simp)
            generalize hq : (keepL m (L.take j)).length = q at *
            go_upto_region 17 with fail
            have HB := hid (show BxI wr.heap.size (atI L j) w8 from ⟨b0, b1⟩)
            clear b0 b1 B4
            go_region_held3 (BxI wr.heap.size (atI L j)) (first | assumption | exact HB.out | exact BxI.old ((Old.refl _).drew) HB.out | (refine BxI.old ?_ HB.out; assumption)) (first | (go_at_call 14; refine (HA.out _ HU8.out.drew).mono ?_; rintro e w9 ⟨rfl, u9⟩; have U9 : Old w8 w9 := ((Old.refl w8).drew).trans u9))
            all_goals go_wp2
            all_goals go_roundw
            case rel => exact ⟨j + 1, hjt, by go_num, by rw [HS2.out]; go_num, HU8.out.trans U9⟩
            case measure => simp [intOf]; omega
          · have HA2 := hid (show atL (Fl.code (atI L j).k) (keepL m L) = 0 from by have := HAt.out; rw [if_neg hgt] at this; exact this)
            rw [HA2.out] at HA
            have HS2 := hid (show (keepL m (L.take (j + 1))).length = (keepL m (L.take j)).length by rw [HSj.out, if_neg hgt]; simp)
            generalize hq : (keepL m (L.take j)).length = q at *
            go_wp2_with (go_at_call 14; refine (HA.out _ HU8.out).mono ?_; rintro e w9 ⟨rfl, u9⟩; have U9 := hid u9; clear u9)
            go_roundw
            case rel => exact ⟨j + 1, hjt, by go_num, by rw [HS2.out], HU8.out.trans U9.out⟩
            case measure => simp [intOf]; omega
        · obtain rfl : j = M := by omega
          have HLn := hid (len_any w.heap.size w.heap.size 64 v7 (keepL m L) wr (T7.out.old HV.out))
          have hTk := HTk.out
          rw [hTk]
          clear hTk HTk HSt HSh HLt HMem hjl
          generalize (keepL m L).length = K at *
          have hc : ((j - K : Nat) : Int) = (j : Int) - (K : Int) := by omega
          go_wp2_with (go_at_call 19; refine HLn.out.mono ?_; rintro e w9 ⟨rfl, hw9⟩; have hw8 := hw9.symm; subst hw8)
          go_ret
          exact ⟨rfl, U7.out.trans HV.out⟩
end Go.Proofs.Ytbjikfcegiagjaa
