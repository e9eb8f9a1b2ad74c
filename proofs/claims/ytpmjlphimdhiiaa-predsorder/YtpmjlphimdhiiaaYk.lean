/- The law PredsDrops at every row of calls, every number and every key; no condition. -/
import Derived.Test.YtpmjlphimdhiiaaYo
namespace Go.Proofs.Ytpmjlphimdhiiaa
open Go.RowKit Go.Lib
set_option linter.unusedVariables false
set_option linter.unusedSimpArgs false
set_option maxRecDepth 20000
/-- A table in the middle of the rounds. -/
def TabIn (base b : Nat) (most : Int) (w0 w : World) : Prop := ∃ v L, TabAt base w b most v L ∧ Good L ∧ (L.length : Int) ≤ most ∧ Old w0 w
theorem op_new (w : World) (x : Opv) (g : Nat) (hg : w.heap.size = g) : OpIn (w.alloc (.cells #[.int .i64 x.kd, .float .f64 x.a, .float .f64 x.b, .bool x.p, .bool x.q, .int .i64 x.n] 30)) g 0 x := by
  have hh := alloc_heap w (.cells #[.int .i64 x.kd, .float .f64 x.a, .float .f64 x.b, .bool x.p, .bool x.q, .int .i64 x.n] 30) g hg
  exact ⟨by rw [cell_of_heap hh]; rfl, by rw [cell_of_heap hh]; rfl, by rw [cell_of_heap hh]; rfl, by rw [cell_of_heap hh]; rfl, by rw [cell_of_heap hh]; rfl, by rw [cell_of_heap hh]; rfl⟩
theorem atI_app (A B : List It) (i : Nat) (h : i < A.length) : atI (A ++ B) i = atI A i := by simp [atI, List.getElem?_append_left h]
theorem over_app (k : Nat) (A B : List It) : ∀ j, j ≤ A.length → overT k (A ++ B) j = overT k A j
  | 0, _ => rfl
  | j + 1, h => by
    unfold overT
    rw [atI_app A B j (by omega), over_app k A B j (by omega)]
theorem over_snoc (k : Nat) (A : List It) (x : It) : overT k (A ++ [x]) (A ++ [x]).length = if hasB x.a x.b x.p x.q k = true then max (overT k A A.length) x.n else overT k A A.length := by
  have e : atI (A ++ [x]) A.length = x := by simp [atI]
  rw [List.length_append]
  show (if hasB (atI (A ++ [x]) A.length).a (atI (A ++ [x]) A.length).b (atI (A ++ [x]) A.length).p (atI (A ++ [x]) A.length).q k = true then max (overT k (A ++ [x]) A.length) (atI (A ++ [x]) A.length).n else overT k (A ++ [x]) A.length) = _
  rw [e, over_app k A [x] A.length (Nat.le_refl _)]
theorem mem_atI (L : List It) (i : Nat) (hi : i < L.length) : atI L i ∈ L := by rw [atI_get L i hi]; exact List.getElem_mem hi
attribute [local go_sem] run_bits run_frombits run_store_float
set_option maxHeartbeats 4000000 in
set_option maxRecDepth 20000 in
theorem dropsLaw (vs : Value) (N : Nat) (f : Nat → Opv) (m : Int) (key : Nat) (hkey : Fl.W key) (w : World) (h : ORow w vs N f) :
    Calls Try.prog 3 #[vs, .int .i64 m, .float .f64 key] w fun e w' => e = .returned (.bool true) ∧ Old w w' := by
  have HO := hid h
  obtain ⟨hbN, sa, sc, hvs, hsc, _⟩ := h
  subst hvs
  go_enter Try.func3, Try.ntmps3
  go_upto_region 4 with (first | (go_at_call 7; refine (new_any 64 _).mono ?_; rintro e w1 ⟨rfl, t1, u1⟩; have T1 := hid t1; have U1 := hid u1; clear t1 u1) | (go_at_call 8; refine (alive_any _).mono ?_; rintro e w2 ⟨rfl, u2⟩; have T2 := hid (T1.out.old u2); have U2 := hid (U1.out.trans u2); clear u2))
  have hI : TabIn w.heap.size w.heap.size 64 w w2 := ⟨_, _, T2.out, good0, by decide, U2.out⟩
  have HI := hid hI
  clear hI T1 T2 U1 U2
  go_wp2
  go_loopw [25] (fun i wr => ∃ k : Nat, k ≤ N ∧ i = .int .i64 (k : Nat) ∧ TabIn w.heap.size w.heap.size 64 w wr) (fun i _ => N - (intOf i).toNat)
  case atStart => exact ⟨0, Nat.zero_le _, rfl, HI.out⟩
  case round =>
    obtain ⟨k, hk, rfl, v, L, ht, hG, hl, hu⟩ := hrel
    have HT := hid ht
    have HG := hid hG
    have HL := hid hl
    have HU := hid hu
    clear ht hG hl hu HI
    by_cases hlt : k < N
    · obtain ⟨_, a', c', e', _, hc⟩ := HO.out.old HU.out
      obtain ⟨b', off, hsa, hW, hW2, o0, o1, o2, o3, o4, o5⟩ := hc k hlt
      simp only [Value.slice.injEq] at e'
      obtain ⟨rfl, _, rfl⟩ := e'
      subst hsa
      have l1 : (0 : Int) ≤ (k : Int) := by omega
      have l2 : (k : Int) < (N : Int) := by omega
      clear hc
      have HW := hid (And.intro hW hW2)
      generalize hfk : f k = x at *
      go_upto_region 7 with fail
      have B4 := hid (op_new wr x _ rfl)
      have U4 := hid ((Old.refl wr).alloc (.cells #[.int .i64 x.kd, .float .f64 x.a, .float .f64 x.b, .bool x.p, .bool x.q, .int .i64 x.n] 30))
      have T4 := hid (HT.out.old U4.out)
      clear o0 o1 o2 o3 o4 o5
      generalize wr.alloc (.cells #[.int .i64 x.kd, .float .f64 x.a, .float .f64 x.b, .bool x.p, .bool x.q, .int .i64 x.n] 30) = w4 at *
      obtain ⟨o0, o1, o2, o3, o4, o5⟩ := B4.out
      have HP := hid (put_any w.heap.size w.heap.size 64 x.n v L x.a x.b x.p x.q HW.out.1 HW.out.2 w4 T4.out HG.out (by have := HL.out; omega))
      go_wp2_with (go_at_call 9; refine HP.out.mono ?_; rintro e w5 ⟨v5, rfl, t5, c5, n5⟩; have T5 := hid t5; have U5 := hid ((HU.out.trans U4.out).below (T4.out.below c5)); clear t5 c5 n5)
      go_roundw
      case rel => exact ⟨k + 1, hlt, by go_num, v5, _, T5.out, put_good HW.out.1 HW.out.2 HG.out, put_most HG.out HL.out, U5.out⟩
      case measure => simp [intOf]; omega
    · obtain rfl : k = N := by omega
      have hLb : L.length ≤ 64 := by have := HL.out; omega
      go_upto_region 11 with (first | (go_at_call 10; refine (all_any _ _ _ _ _ _ (by omega) HT.out).mono ?_; rintro e w6 ⟨v6, rfl, o6, u6⟩; obtain ⟨a6, c6, hv6⟩ := o6.len; subst hv6; have O6 := hid o6; have T6 := hid (HT.out.old u6); have U6 := hid (HU.out.trans u6); clear o6 u6) | (go_at_call 11; refine (drop_any _ _ _ _ _ _ _ (by omega) T6.out).mono ?_; rintro e w7 ⟨v7, rfl, t7, c7, n7⟩; have T7 := hid t7; have O7 := hid (O6.out.chg c7 (fun g hg hm => by have q1 := (O6.out.lt g hg).1; have q2 := (HT.out.blk g hm).2; omega)); have U7 := hid (U6.out.below (T6.out.below c7)); clear t7 c7 n7))
      have hle : (keepL m L).length ≤ L.length := List.length_filter_le _ _
      have HSh := hid (fun (e : 0 < L.length) => O7.out.shape e)
      have HKG := hid (show Good (keepL m L) from ⟨keep_asc m L HG.out.1, fun z hz => HG.out.2 z ((mem_keep m L z).1 hz).1⟩)
      have HTk := hid (show keepL m (L.take L.length) = keepL m L by rw [List.take_length])
      have HSt := hid (fun j (hj : j < L.length) => keep_step m L j hj)
      have HLt := hid (fun j => show (keepL m (L.take j)).length ≤ j from Nat.le_trans (List.length_filter_le _ _) (by rw [List.length_take]; omega))
      have HMem := hid (fun j (hj : j < L.length) => HG.out.at j hj)
      clear O6 O7 T6 U6 HT HL
      generalize hM : L.length = M at *
      go_wp2
      go_loopw [12, 13, 43] (fun l r i wr => ∃ j : Nat, j ≤ M ∧ i = .int .i64 (j : Nat) ∧ l = .int .i64 ((keepL m (L.take j)).length : Nat) ∧ r = .int .i64 (overT key (keepL m (L.take j)) (keepL m (L.take j)).length) ∧ Old w7 wr) (fun l r i _ => M - (intOf i).toNat)
      case atStart => exact ⟨0, Nat.zero_le _, rfl, rfl, rfl, Old.refl _⟩
      case round =>
        obtain ⟨j, hj, rfl, rfl, rfl, hu⟩ := hrel
        have HV := hid hu
        clear hu
        have hjl := HLt.out j
        by_cases hjt : j < M
        · obtain ⟨g, cap, he, hgb, hgl, hi, hfz⟩ := HSh.out (by omega)
          simp only [Value.slice.injEq] at he
          obtain ⟨rfl, _, rfl⟩ := he
          obtain ⟨c0, c1, c2, c3, c4⟩ := (hi j hjt).old HV.out
          have l1 : (0 : Int) ≤ (j : Int) := by omega
          have l2 : (j : Int) < (M : Int) := by omega
          clear hi hfz
          have HSj := hid (HSt.out j hjt)
          have HMj := hid (HMem.out j hjt)
          go_upto_region 15 with fail
          have B4 := hid (item_new wr (atI L j) _ rfl)
          have U4 := hid ((Old.refl wr).alloc (.cells (itc (atI L j)).toArray 37))
          have hwe : wr.alloc (.cells #[.float .f64 (atI L j).a, .float .f64 (atI L j).b, .bool (atI L j).p, .bool (atI L j).q, .int .i64 (atI L j).n] 37) = wr.alloc (.cells (itc (atI L j)).toArray 37) := rfl
          rw [hwe]
          clear hwe c0 c1 c2 c3 c4
          generalize wr.alloc (.cells (itc (atI L j)).toArray 37) = w8 at *
          obtain ⟨b0, b1, b2, b3, b4⟩ := B4.out
          have HU8 := hid (HV.out.trans U4.out)
          have HC := hid (fun W => has_old (atI L j).a (atI L j).b key HMj.out.1.1 HMj.out.1.2.1 hkey (atI L j).p (atI L j).q W)
          by_cases hgt : m < (atI L j).n
          · have HS1 := hid (show keepL m (L.take (j + 1)) = keepL m (L.take j) ++ [atI L j] by rw [HSj.out, if_pos hgt])
            have HS2 := hid (show (keepL m (L.take (j + 1))).length = (keepL m (L.take j)).length + 1 by rw [HS1.out]; simp)
            have HS3 := hid (show overT key (keepL m (L.take (j + 1))) (keepL m (L.take (j + 1))).length = if hasB (atI L j).a (atI L j).b (atI L j).p (atI L j).q key = true then max (overT key (keepL m (L.take j)) (keepL m (L.take j)).length) (atI L j).n else overT key (keepL m (L.take j)) (keepL m (L.take j)).length from by rw [HS1.out]; exact over_snoc key _ _)
            generalize hr : overT key (keepL m (L.take j)) (keepL m (L.take j)).length = r at *
            generalize hq : (keepL m (L.take j)).length = q at *
            cases hh : hasB (atI L j).a (atI L j).b (atI L j).p (atI L j).q key
            · rw [hh] at HC HS3
              have HS4 := hid (HS3.out.trans (if_neg (by simp)))
              clear HS3 hh hr
              go_wp2_with (go_at_call 12; refine (HC.out _).mono ?_; rintro e w9 ⟨rfl, u9⟩; have U9 := hid u9; clear u9)
              go_roundw
              case rel => exact ⟨j + 1, hjt, by go_num, by rw [HS2.out]; go_num, by rw [HS4.out], HU8.out.trans U9.out⟩
              case measure => simp [intOf]; omega
            · rw [hh] at HC HS3
              have HS4 := hid (HS3.out.trans (if_pos rfl))
              clear HS3 hh hr
              go_upto_region 18 with (go_at_call 12; refine (HC.out _).mono ?_; rintro e w9 ⟨rfl, u9⟩; have U9 := hid u9; clear u9)
              have b4' := U9.out.keep b4
              go_wp2
              go_roundw
              case rel => exact ⟨j + 1, hjt, by go_num, by rw [HS2.out]; go_num, by rw [HS4.out]; congr 1; omega, HU8.out.trans U9.out⟩
              case measure => simp [intOf]; omega
          · have HS1 := hid (show keepL m (L.take (j + 1)) = keepL m (L.take j) by rw [HSj.out, if_neg hgt, List.append_nil])
            generalize hr : overT key (keepL m (L.take j)) (keepL m (L.take j)).length = r at *
            generalize hq : (keepL m (L.take j)).length = q at *
            go_wp2
            go_roundw
            case rel => exact ⟨j + 1, hjt, by go_num, by rw [HS1.out, hq], by rw [HS1.out, hq, hr], HU8.out⟩
            case measure => simp [intOf]; omega
        · obtain rfl : j = M := by omega
          have HLn := hid (len_any w.heap.size w.heap.size 64 v7 (keepL m L) wr (T7.out.old HV.out))
          have HAt := hid (at_any w.heap.size w.heap.size 64 v7 (keepL m L) key hkey wr (T7.out.old HV.out) HKG.out (by omega))
          have hTk := HTk.out
          rw [hTk]
          clear hTk HTk HSt HSh HLt HMem hjl
          generalize overT key (keepL m L) (keepL m L).length = R at *
          generalize (keepL m L).length = K at *
          have hc : ((j - K : Nat) : Int) = (j : Int) - (K : Int) := by omega
          go_wp2_with (first | (go_at_call 13; refine HLn.out.mono ?_; rintro e w9 ⟨rfl, hw9⟩; have hw8 := hw9.symm; subst hw8) | (go_at_call 14; refine HAt.out.mono ?_; rintro e w10 ⟨rfl, u10⟩; have U10 := hid u10; clear u10))
          go_ret
          exact ⟨rfl, (U7.out.trans HV.out).trans U10.out⟩
end Go.Proofs.Ytpmjlphimdhiiaa
