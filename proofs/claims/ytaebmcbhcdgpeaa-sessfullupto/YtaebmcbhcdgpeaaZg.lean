/- The law SessFull at every row of at most 1048576 ids: the walk; conditions: the row lies in memory. -/
import Derived.Test.YtaebmcbhcdgpeaaZf
namespace Go.Proofs.Ytaebmcbhcdgpeaa
open Go.RowKit Go.Lib
set_option linter.unusedVariables false
set_option linter.unusedSimpArgs false
set_option maxRecDepth 20000
theorem mem_take_succ {x : Int} {ks : List Int} {j : Nat} (h : j < ks.length) : decide (x ∈ ks.take (j + 1)) = (decide (x ∈ ks.take j) || decide (ks.getD j 0 = x)) := by
  have e : ks.take (j + 1) = ks.take j ++ [ks.getD j 0] := by rw [List.take_succ_eq_append_getElem h, List.getD_eq_getElem?_getD, List.getElem?_eq_getElem h]; rfl
  rw [e]
  simp [List.mem_append, eq_comm]
set_option maxHeartbeats 8000000 in
set_option maxRecDepth 20000 in
theorem fullLaw (v : Value) (n : Nat) (f : Nat → Int) (w : World) (hv : NRowU w v n f) (hn : n ≤ 1048576) : Calls Try.prog 4 #[v] w fun e w' => e = .returned (.bool true) ∧ Old w w' := by
  obtain ⟨p, c, rfl, hc⟩ := hv
  have HC := hid hc
  have l0 : (n : Int) ≤ 1048576 := by omega
  clear hc
  go_enter Try.func4, Try.ntmps4
  go_upto_region 4 with (first | (go_at_call 9; refine (newT_any _).mono ?_; rintro e w1 ⟨tb, mb, rfl, t1⟩; have T1 := hid t1; clear t1) | (go_at_call 10; refine (alive_any _).mono ?_; rintro e w2 ⟨rfl, u2⟩; have T2 := hid (T1.out.up u2); clear u2))
  clear T1
  go_upto_region 5 with fail
  have F2 := hid (Far.new T2.out)
  have T3 := hid (T2.out.up ((Old.refl _).alloc (.cells #[] 2)))
  clear T2
  generalize w2.alloc (.cells #[] 2) = w3 at *
  generalize w2.heap.size = ab at *
  go_wp2
  go_loopw [4, 21] (fun all i wr => ∃ (k : Nat) (Bs : List Nat) (ks : List Int) (L : Int → List It), k ≤ n ∧ i = .int .i64 (k : Nat) ∧ Tab w wr tb Bs ks L ∧ Far w.heap.size wr Bs all ks ∧ ∀ id, hiL (L id) ≤ (k : Int)) (fun _ i _ => n - (intOf i).toNat)
  case atStart => exact ⟨0, _, _, _, Nat.zero_le _, rfl, T3.out, F2.out, fun id => by show hiL [] ≤ _; unfold hiL; simp⟩
  case round =>
    obtain ⟨k, Bs, ks, L, hk, rfl, hT, hF, hm⟩ := hrel
    clear T3 F2
    have T := hid hT
    have F := hid hF
    have HM := hid hm
    have hmany := hT.ok.many
    clear hT hF hm
    obtain ⟨pa, ca, rfl, hca⟩ := F.out.nrow hmany
    have HCA := hid hca
    clear hca
    generalize wr = W1 at *
    by_cases hlt : k < n
    · obtain ⟨b, off, ea, hx0⟩ := HC.out k hlt
      subst ea
      have hx := T.out.old.keep hx0
      clear hx0 HC
      have l1 : (0 : Int) ≤ (k : Int) := by omega
      have l2 : (k : Int) < (n : Int) := by omega
      generalize f k = x at *
      obtain ⟨I, hI, eI⟩ := and_mask x 63 (by omega)
      replace eI : bits .and .i64 x 63 = (I : Int) := eI
      have lI : (I : Int) ≤ 63 := by omega
      go_upto_region 10 with fail
      clear eI hx
      obtain ⟨id, hd1, hd2, eid⟩ : ∃ id : Int, 1 ≤ id ∧ id ≤ 64 ∧ 1 + (I : Int) = id := ⟨_, by omega, by omega, rfl⟩
      rw [eid]
      clear eid lI hI
      have HD := hid (And.intro hd1 hd2)
      generalize hml : ks.length = m at *
      have HML := hid hml
      clear hml
      have lm : (m : Int) ≤ 16 := by omega
      go_wp2
      go_loopw [7, 30] (fun z i wr => ∃ j : Nat, j ≤ m ∧ z = .bool (decide (id ∈ ks.take j)) ∧ i = .int .i64 (j : Nat) ∧ Old W1 wr) (fun _ i _ => m - (intOf i).toNat)
      case atStart => exact ⟨0, Nat.zero_le _, by simp, rfl, Old.refl _⟩
      case round =>
        obtain ⟨j, hj, rfl, rfl, hu⟩ := hrel
        have U := hid hu
        clear hu
        by_cases hjl : j < m
        · obtain ⟨g, go, e1, hy0⟩ := HCA.out j hjl
          subst e1
          have hy := U.out.keep hy0
          clear hy0 HCA
          have HTs := hid (mem_take_succ (x := id) (ks := ks) (j := j) (by rw [HML.out]; exact hjl))
          have m1 : (0 : Int) ≤ (j : Int) := by omega
          have m2 : (j : Int) < (m : Int) := by omega
          generalize ks.getD j 0 = y at *
          generalize hz : decide (id ∈ ks.take j) = z at *
          clear hz
          cases z
          · by_cases hyd : y = id
            · subst hyd
              have q1 : (y == y) = true := by simp
              go_wp2
              go_roundw
              case rel => exact ⟨j + 1, hjl, by rw [HTs.out]; simp, by go_num, U.out⟩
              case measure => simp [intOf]; omega
            · have q1 : (y == id) = false := by rw [beq_eq_false_iff_ne]; exact hyd
              go_wp2
              go_roundw
              case rel => exact ⟨j + 1, hjl, by rw [HTs.out]; simp [hyd], by go_num, U.out⟩
              case measure => simp [intOf]; omega
          · go_wp2
            go_roundw
            case rel => exact ⟨j + 1, hjl, by rw [HTs.out]; simp, by go_num, U.out⟩
            case measure => simp [intOf]; omega
        · obtain rfl : m = j := by omega
          rw [show ks.take m = ks from List.take_of_length_le (by rw [HML.out]; exact Nat.le_refl _)]
          have T4 := hid (T.out.up U.out)
          have F4 := hid (F.out.up U.out)
          clear T F HCA U
          generalize wr = W2 at *
          obtain ⟨h, eh⟩ : ∃ h : Int, hiL (L id) = h := ⟨_, rfl⟩
          have HH := hid (high_any tb Bs ks L id W2 T4.out.tab T4.out.ok ⟨by omega, by omega⟩)
          rw [eh] at HH
          have b1 : 0 ≤ h := by rw [← eh]; exact (T4.out.ok.hi id).1
          have b2 : h ≤ 1048576 := by have := HM.out id; omega
          have HEh := hid eh
          clear eh
          by_cases hin : id ∈ ks
          · rw [decide_eq_true hin]
            have b3 : 1 ≤ h := by rw [← HEh.out]; exact hi_in T4.out.ok hin
            have b4 : h + 1 > 1 := by omega
            have b5 : 1 < h + 1 := by omega
            have hpk : putK ks id = ks := if_pos hin
            have HP := hid (fun (W : World) (u : Old W2 W) => put_fits T4.out F4.out HM.out (by omega) HD.out HEh.out (Or.inl hin) u)
            go_upto_region 18 with (first | (go_at_call 12; refine HH.out.mono ?_; rintro e W3 ⟨rfl, u3⟩; have U3 := hid u3; clear u3 HH) | (go_at_call 11; refine (HP.out _ U3.out).mono ?_; rintro e W5 ⟨rfl, Bs5, L5, t5, f5, e5, m5⟩; have T5 := hid t5; have F5 := hid f5; have M5 := hid m5; have HH5 := hid (high_any tb Bs5 _ L5 id W5 t5.tab t5.ok ⟨by omega, by omega⟩); rw [e5] at HH5; clear t5 f5 m5 e5) | (go_at_call 12; refine HH5.out.mono ?_; rintro e W6 ⟨rfl, u6⟩; have T6 := hid (T5.out.up u6); have F6 := hid (F5.out.up u6); clear u6))
            rw [hpk] at T6
            clear T5 F5 HP HH5 T4 F4 U3
            clear hpk hin
            go_wp2
            go_roundw
            case rel => exact ⟨k + 1, Bs5, ks, L5, hlt, by go_num, T6.out, F6.out, M5.out⟩
            case measure => simp [intOf]; omega
          · rw [decide_eq_false hin]
            have b3 : h = 0 := by rw [← HEh.out]; exact hi_out T4.out.tab hin
            subst b3
            by_cases hfull : m = 16
            · subst hfull
              have HP := hid (fun (W : World) (u : Old W2 W) => put_full T4.out HM.out (by omega) HD.out HEh.out hin HML.out u)
              have HH2 := hid (fun (W : World) (u : Old W2 W) => high_any tb Bs ks L id W (T4.out.tab.old u) T4.out.ok ⟨by omega, by omega⟩)
              rw [HEh.out] at HH2
              go_upto_region 18 with (first | (go_at_call 12; refine HH.out.mono ?_; rintro e W3 ⟨rfl, u3⟩; have U3 := hid u3; clear u3 HH) | (go_at_call 11; refine (HP.out _ U3.out).mono ?_; rintro e W5 ⟨rfl, u5⟩; have U5 := hid (U3.out.trans u5); clear u5) | (go_at_call 12; refine (HH2.out _ U5.out).mono ?_; rintro e W6 ⟨rfl, u6⟩; have T6 := hid (T4.out.up (U5.out.trans u6)); have F6 := hid (F4.out.up (U5.out.trans u6)); clear u6))
              clear HP HH2 T4 F4 U3 U5 hin HEh
              go_wp2
              go_roundw
              case rel => exact ⟨k + 1, Bs, ks, L, hlt, by go_num, T6.out, F6.out, fun i => by have := HM.out i; omega⟩
              case measure => simp [intOf]; omega
            · have hpk : putK ks id = ks ++ [id] := if_neg hin
              have hm16 : ¬ ((m : Int) = 16) := by omega
              have hmb : ((m : Int) == 16) = false := by rw [beq_eq_false_iff_ne]; exact hm16
              have HP := hid (fun (W : World) (u : Old W2 W) => put_fits T4.out F4.out HM.out (by omega) HD.out HEh.out (Or.inr (by rw [HML.out]; omega)) u)
              go_upto_region 18 with (first | (go_at_call 12; refine HH.out.mono ?_; rintro e W3 ⟨rfl, u3⟩; have U3 := hid u3; clear u3 HH) | (go_at_call 11; refine (HP.out _ U3.out).mono ?_; rintro e W5 ⟨rfl, Bs5, L5, t5, f5, e5, m5⟩; have T5 := hid t5; have F5 := hid f5; have M5 := hid m5; have HH5 := hid (high_any tb Bs5 _ L5 id W5 t5.tab t5.ok ⟨by omega, by omega⟩); rw [e5] at HH5; clear t5 f5 m5 e5) | (go_at_call 12; refine HH5.out.mono ?_; rintro e W6 ⟨rfl, u6⟩; have T6 := hid (T5.out.up u6); have F6 := hid (F5.out.up u6); clear u6))
              rw [hpk] at T6
              clear T5 F5 HP HH5 T4 F4 U3
              clear hpk hin HEh
              go_upto_region 24 with fail
              go_wp2_with (at_builtin; refine wp_appN rfl (.tmp 71) (.tmp 73) rfl w.heap.size _ ks _ 1 id rfl rfl (OwnN.up F6.out.1 ((Old.refl _).alloc _)) (cell_oneN _ _ _ (by first | rfl | simp)) (by rw [HML.out]; omega) (by have := T6.out.old.size; simp; omega) ?_; intro v8 w8 o8 g8 lo8; have T8 := hid ((T6.out.up ((Old.refl _).alloc _)).grown g8 (fun q e => ⟨F6.out.2 q e, (World.ownsRow.lt F6.out.1 q e).1⟩)); have F8 := hid (show Far w.heap.size w8 Bs5 v8 (ks ++ [id]) from ⟨o8, fun q e hb => by rcases lo8 with z | z; exact F6.out.2 q (z.symm.trans e) hb; (have e2 := z.symm.trans e; simp at e2; have := T6.out.lt _ hb; omega)⟩); clear o8 g8 lo8)
              go_roundw
              case rel => exact ⟨k + 1, Bs5, ks ++ [id], L5, hlt, by go_num, T8.out, F8.out, M5.out⟩
              case measure => simp [intOf]; omega
    · obtain rfl : n = k := by omega
      clear HC HCA
      have HS := hid (sessions_any tb Bs ks L W1 T.out.tab T.out.ok)
      go_wp2_with (go_at_call 15; refine HS.out.mono ?_; rintro e w5 ⟨v5, S, rfl, p5, _, o5, u5⟩; obtain ⟨pe, ce, ee⟩ := o5.len; rw [p5.length_eq] at ee; subst ee; have U5 := hid u5; clear o5 u5 p5)
      go_ret
      exact ⟨by simp, T.out.old.trans U5.out⟩
end Go.Proofs.Ytaebmcbhcdgpeaa
