/- The law DiskSectors' walk; no condition. -/
import Derived.Test.YtggmejddihbhnaaEa
namespace Go.Proofs.Ytggmejddihbhnaa
open Go.RowKit Go.Lib Go.ChangeShapes Go.WideShapes
set_option linter.unusedVariables false
set_option linter.unusedSimpArgs false
set_option maxRecDepth 20000
/-- A row of truths as a law is given it. -/
def BArg (w : World) (v : Value) (kp : List Bool) : Prop := BRow w v kp ∧ (v = .slice none 0 0 ∨ (∃ b off n c, v = .slice (some ⟨b, off, none⟩) n c) ∨ ∃ a, v = .slice (some a) 0 0) ∧ (0 < kp.length → ∀ g, v.ownBlock = some g → g < w.heap.size)
theorem cellsBool : Try.prog.cellsOf 4 = 1 := by kernel_rfl
theorem open_bools {H : Type} {enc : TypeId × Value → H} {w : World} {base : Nat} {v : Value} {d : DataW H} {ps : List MemPlace} (hv : Value.okWide Try.prog w .any base 41 v) (h : DataW.Trod enc Try.prog w 0 (fun _ => true) true 41 v d ps) :
    ∃ kp, BArg w v kp := by
  obtain ⟨a0, len0, cap0, rfl⟩ := okWide_slice Try.underlying41 hv
  obtain ⟨fuel, hf⟩ := h
  rcases DataW.trod_slice Try.underlying41 hf with ⟨hcs, _⟩ | ⟨a, len, cap, elems, rest, m, _, hcs, _, hb, hl, hm, hlen, hel, hsp, _⟩
  · simp [Value.cells] at hcs
    obtain ⟨rfl, rfl, rfl⟩ := hcs
    exact ⟨[], BRow.none w, .inl rfl, fun h => by simp at h⟩
  · simp [Value.cells] at hcs
    obtain ⟨ha, hln, hcp⟩ := hcs
    rw [ha, hln, hcp]
    clear ha hln hcp hf hv a0 len0 cap0
    unfold maxLen at hm
    by_cases hz : len = 0
    · subst hz
      refine ⟨[], ⟨by simp, _, cap, rfl, by simp, by omega, fun i hi => by simp at hi⟩, ?_, fun h => by simp at h⟩
      by_cases hc : cap = 0
      · subst hc; exact .inr (.inr ⟨a, rfl⟩)
      · obtain ⟨hr, hcell⟩ := hsp rfl
        have h1 := hcell 0 (by omega)
        have h2 : rest[0]? = some (rest[0]'(by omega)) := List.getElem?_eq_getElem (by omega)
        rw [h2, cellsBool, Nat.mul_one, Option.bind_eq_some_iff] at h1
        obtain ⟨cs', hcs, hy'⟩ := h1
        obtain ⟨b, rfl, _⟩ := DataW.trod_bool Try.underlying4 hy'
        have h3 := cell_of_cells?_one hcs
        obtain ⟨b', off, spot⟩ := a
        have hspot : spot = none := by simpa [Addr.add] using World.cell?_spot h3
        subst hspot
        exact .inr (.inl ⟨_, _, _, _, rfl⟩)
    · have each : ∀ i, i < len → ∃ n : Bool, w.cell? (a.add i) = some (.bool n) := by
        intro i hi
        have h1 := hel i hi
        have h2 : elems[i]? = some (elems[i]'(by omega)) := List.getElem?_eq_getElem (by omega)
        rw [h2, cellsBool, Nat.mul_one, Option.bind_eq_some_iff] at h1
        obtain ⟨cs', hcs, hy'⟩ := h1
        obtain ⟨n, rfl, _⟩ := DataW.trod_bool Try.underlying4 hy'
        exact ⟨n, cell_of_cells?_one hcs⟩
      obtain ⟨b, off, spot⟩ := a
      obtain ⟨n0, h0⟩ := each 0 (by omega)
      have hspot : spot = none := by simpa [Addr.add] using World.cell?_spot h0
      subst hspot
      have hlen' : ((List.range len).map fun i => match w.cell? ⟨b, off + i, none⟩ with | some (.bool n) => n | _ => false).length = len := by simp
      refine ⟨(List.range len).map fun i => match w.cell? ⟨b, off + i, none⟩ with | some (.bool n) => n | _ => false, ⟨by rw [hlen']; omega, some ⟨b, off, none⟩, cap, by rw [hlen'], by rw [hlen']; omega, by omega, fun i hi => ⟨b, off, rfl, ?_⟩⟩, .inr (.inl ⟨_, _, _, _, rfl⟩), fun _ g e => ?_⟩
      · rw [hlen'] at hi
        obtain ⟨n, hn⟩ := each i hi
        rw [Go.WideShapes.add_plain] at hn
        rw [List.getD_eq_getElem?_getD, List.getElem?_map, List.getElem?_range hi]
        simp [hn]
      · cases e
        rw [Go.WideShapes.add_plain] at h0
        exact World.block_lt_of_cell? w _ h0
theorem read_sL (R : List Nat) : readC ⟨[(sA, ⟨R, R⟩)], false, 0⟩ sA = 0 ∧ readL ⟨[(sA, ⟨R, R⟩)], false, 0⟩ sA = R := by
  have c : readC ⟨[(sA, ⟨R, R⟩)], false, 0⟩ sA = 0 := by
    unfold readC faultC
    rw [misA]
    simp [getP]
  refine ⟨c, ?_⟩
  unfold readL
  rw [if_pos c]
  simp [fileAt, getP]
set_option maxHeartbeats 4000000 in
set_option maxRecDepth 20000 in
theorem sectorsLaw (n0 : Int) (v : Value) (kp : List Bool) (w : World) (h : BArg w v kp) : Calls Try.prog 5 #[.int .i64 n0, v] w fun e w' => e = .returned (.bool true) ∧ Old w w' := by
  obtain ⟨m, hm, he⟩ := and_mask n0 15 (by omega)
  have he' : bits .and .i64 n0 15 = (m : Int) := he
  clear he
  have hmk : ∀ w : World, (Instr.makeSlice 22 (.int .i64 (32 * (1 + (m : Int)))) (.int .i64 (32 * (1 + (m : Int))))).run Try.prog w = .ok (.slice (some ⟨w.heap.size, 0, none⟩) (32 * (m + 1)) (32 * (m + 1))) (w.alloc (.cells (zB (32 * (m + 1))) 5)) := fun w => by
    have e : (32 * (1 + (m : Int))) = ((32 * (m + 1) : Nat) : Int) := by omega
    rw [e]
    exact madeB w (32 * (m + 1)) (by omega)
  go_enter Try.func5, Try.ntmps5
  go_upto_region 6 with (first | (go_at_call 9; refine (newD w _ (Old.refl _)).mono ?_; rintro e w1 ⟨db, rfl, d1, _⟩; have D1 := hid d1; clear d1) | (go_at_call 10; refine (alive_any _).mono ?_; rintro e w2 ⟨rfl, u2⟩; have D2 := hid (D1.out.old u2); clear u2))
  have D5 := hid (D2.out.add ((Old.refl w2).alloc (.cells (zB (32 * (m + 1))) 5)) [w2.heap.size] (by simp))
  have O5 := hid (show Own (w2.alloc (.cells (zB (32 * (m + 1))) 5)) (.slice (some ⟨w2.heap.size, 0, none⟩) (32 * (m + 1)) (32 * (m + 1))) (fillS (32 * (m + 1)) 0) from by rw [fillS_zero]; exact madeRow w2 _ (by omega))
  have hgw := hid (show w.heap.size ≤ w2.heap.size from D2.out.base.size)
  have HK := hid h
  clear hmk he' h
  generalize w2.alloc (.cells (zB (32 * (m + 1))) 5) = w5 at *
  generalize w2.heap.size = g at *
  obtain ⟨N, hN⟩ : ∃ N, N = 32 * (m + 1) := ⟨_, rfl⟩
  have hNz : (32 * (1 + (m : Int))) = (N : Int) := by omega
  rw [← hN] at O5 ⊢
  have HN := hid hN
  have hNb : (N : Int) ≤ 512 := by omega
  clear hN
  go_wp2
  go_loopw [30] (fun c wr => ∃ i : Nat, i ≤ N ∧ c = .int .i64 (i : Nat) ∧ Own wr (.slice (some ⟨g, 0, none⟩) N N) (fillS N i) ∧ Dsk w wr db pd0 ([] ++ [g])) (fun c _ => N - (intOf c).toNat)
  case atStart => exact ⟨0, Nat.zero_le _, rfl, O5.out, D5.out⟩
  case round =>
    obtain ⟨i, hi, rfl, hO, hD⟩ := hrel
    have HO := hid hO
    have HD := hid hD
    clear hO hD O5 D5
    by_cases hlt : i < N
    · obtain ⟨c1, c2, _⟩ := HO.out.cellAt i (by rw [fillS_len N i hi]; exact hlt)
      have l1 : (0 : Int) ≤ (i : Int) := by omega
      have l2 : (i : Int) < (N : Int) := by omega
      have HO1 := hid (HO.out.set i (1 + i / 32) (by rw [fillS_len N i hi]; exact hlt) (by omega))
      have HD1 := hid (HD.out.wr (Chg.set (S := [g]) wr ⟨g, i, none⟩ (.int .u8 ((1 + i / 32 : Nat) : Int)) (by simp)) (fun b hb => by cases List.mem_singleton.1 hb; exact ⟨by simp, hgw.out⟩))
      have e8 : ((1 + i / 32 : Nat) : Int) = 1 + (i : Int) / 32 := by omega
      rw [e8] at HO1 HD1
      clear HO HD e8
      generalize (fillS N i).getD i 0 = old at *
      go_wp2
      go_roundw
      case rel => exact ⟨i + 1, hlt, by go_num, by rw [← fillS_step N i hlt]; exact HO1.out, HD1.out⟩
      case measure => simp [intOf]; omega
    · obtain rfl : N = i := by omega
      have HOw := hid (show Own wr (.slice (some ⟨g, 0, none⟩) N N) (sL (m + 1)) from by have q := HO.out; rw [HN.out, fillS_done] at q; rw [HN.out]; exact q)
      have HMZ := hid (show ((m + 1 : Nat) : Int) = 1 + (m : Int) from by omega)
      have hSl := hid (show (sL (m + 1)).length ≤ 65536 from by rw [sL_len]; omega)
      clear HO hlt hi hNz hNb
      go_upto_region 15 with (first | (go_at_call 11; refine (createD w _ db _ _ sA HD.out).mono ?_; rintro e w6 ⟨rfl, d6, k6⟩; rw [t1.1]; rw [t1.2, show x1 = pw [] 0 from rfl] at d6; have D6 := hid d6; have O6 := hid (HOw.out.kp k6 (fun g' e => by cases e; simp)); clear d6 k6 HD HOw) | (go_at_call 13; refine (writeD w _ db _ _ sA 0 _ (sL (m + 1)) D6.out O6.out.row (fun _ g' e => by cases e; right; simp) (by omega)).mono ?_; rintro e w7 ⟨rfl, d7, _⟩; have PW := pw_writeF [] (sL (m + 1)) 0 (by omega) hSl.out (.inl rfl); rw [PW.1]; rw [PW.2] at d7; have D7 := hid d7; clear d7 PW D6 O6) | (go_at_call 15; refine (looseD w _ db _ _ D7.out).mono ?_; rintro e w8 ⟨rfl, u8⟩; rw [looN_sL, HMZ.out]; have D8 := hid (D7.out.old u8); clear u8 D7) | (go_at_call 18; refine (crashD w _ db _ _ _ kp D8.out (HK.out.1.old D8.out.base) HK.out.2.1 (fun h0 g' e => .inl (HK.out.2.2 h0 g' e))).mono ?_; rintro e w9 ⟨rfl, S, hS, _, d9, _⟩; obtain rfl := perm1 (show S.Perm [sA] from hS); rw [crash_sL] at d9; have D9 := hid d9; clear d9 hS D8) | (go_at_call 17; refine (readD w _ db _ _ sA D9.out).mono ?_; rintro e w10 ⟨v10, rfl, o10, u10, _⟩; rw [(read_sL _).1]; rw [(read_sL _).2] at o10; have O10 := hid o10; have D10 := hid (D9.out.old u10); clear u10 o10 D9))
      obtain ⟨⟨hk0, kpa, kpc, rfl, hk1, hk2, hkc⟩, _, _⟩ := HK.out
      obtain ⟨K, hKd⟩ : ∃ K : Nat → Bool, K = fun i => kp.getD i false := ⟨_, rfl⟩
      rw [← hKd] at O10 D10
      have HKt := hid (show ∀ i, i < kp.length → ∃ b off, kpa = some ⟨b, off, none⟩ ∧ w10.cell? ⟨b, off + i, none⟩ = some (.bool (K i)) from fun i hi => by
        obtain ⟨b, off, e, q⟩ := hkc i hi
        exact ⟨b, off, e, by rw [hKd]; exact D10.out.base.keep q⟩)
      have HKf := hid (show ∀ i, kp.length ≤ i → K i = false from fun k hk => by rw [hKd]; simp [List.getD_eq_getElem?_getD, List.getElem?_eq_none hk])
      have HG := hid (show ∀ j, j < 32 * lst K (m + 1) → ∃ g' c', v10 = .slice (some ⟨g', 0, none⟩) (32 * lst K (m + 1)) c' ∧ w10.cell? ⟨g', j, none⟩ = some (.int .u8 ((if K (j / 32) = true then 1 + j / 32 else 0 : Nat) : Int)) from fun j hj => by
        obtain ⟨g', c', e⟩ := O10.out.shape (by rw [outR_len]; omega)
        have q := O10.out
        rw [e] at q
        rw [outR_len] at e
        have q2 := (q.cellAt j (by rw [outR_len]; exact hj)).1
        rw [List.getD_eq_getElem?_getD, outR_get K (m + 1) j hj] at q2
        exact ⟨g', c', e, q2⟩)
      obtain ⟨pg, cg, eg⟩ := O10.out.len
      rw [outR_len] at eg
      have HLe := hid (lst_le K (m + 1))
      have HLk := hid (show lst K (m + 1) ≤ kp.length from by
        by_cases z : lst K (m + 1) = 0
        · omega
        · have q := lst_on K (m + 1) (by omega)
          by_cases c : lst K (m + 1) ≤ kp.length
          · exact c
          · rw [HKf.out _ (by omega)] at q; cases q)
      have HL0 := hid (show lst K 0 = 0 from rfl)
      have HLs := hid (show ∀ i, lst K (i + 1) = if K i = true then i + 1 else lst K i from fun i => rfl)
      clear hkc hKd HK O10 hSl HMZ HN
      subst eg
      have D11 := hid (show ∀ W, Old w10 W → looN [(sA, (⟨outR K (m + 1), outR K (m + 1)⟩ : PF))] = 0 from fun _ _ => looN_self _ 0)
      generalize kp.length = kl at *
      have HLa := hid (show ∃ la, la = lst K (m + 1) from ⟨_, rfl⟩)
      go_wp2
      go_loopw [10, 11] (fun l c wr => ∃ i q : Nat, i ≤ m + 1 ∧ c = .int .i64 (i : Nat) ∧ l = .int .i64 (q : Nat) ∧ q = lst K i ∧ wr = w10) (fun _ c _ => m + 1 - (intOf c).toNat)
      case atStart => exact ⟨0, 0, Nat.zero_le _, rfl, rfl, HL0.out.symm, rfl⟩
      case round =>
        obtain ⟨i, q, hi, rfl, rfl, hq, hw⟩ := hrel
        have hw2 := hw.symm
        subst hw2
        clear hw
        have HQ := hid hq
        clear hq
        by_cases hit : i < m + 1
        · have l1 : (i : Int) < 1 + (m : Int) := by omega
          have HLi := hid (HLs.out i)
          have l0 : (0 : Int) ≤ (i : Int) := by omega
          by_cases hik : i < kl
          · obtain ⟨b, off, e, hc⟩ := HKt.out i hik
            subst e
            have l2 : (i : Int) < (kl : Int) := by omega
            cases hKi : K i with
            | true =>
              rw [hKi] at hc
              have HN := hid (show lst K (i + 1) = i + 1 from by rw [HLi.out, if_pos hKi])
              clear hKi HLi
              go_wp2
              go_roundw
              case rel => exact ⟨i + 1, i + 1, by omega, by go_num, by go_num, HN.out.symm, trivial⟩
              case measure => simp [intOf]; omega
            | false =>
              rw [hKi] at hc
              have HN := hid (show lst K (i + 1) = lst K i from by rw [HLi.out, if_neg (by rw [hKi]; simp)])
              clear hKi HLi
              go_wp2
              go_roundw
              case rel => exact ⟨i + 1, q, by omega, by go_num, rfl, by rw [HN.out]; exact HQ.out, trivial⟩
              case measure => simp [intOf]; omega
          · have l2 : ¬ (i : Int) < (kl : Int) := by omega
            have HN := hid (show lst K (i + 1) = lst K i from by rw [HLi.out, if_neg (by rw [HKf.out i (by omega)]; simp)])
            clear HLi
            go_wp2
            go_roundw
            case rel => exact ⟨i + 1, q, by omega, by go_num, rfl, by rw [HN.out]; exact HQ.out, trivial⟩
            case measure => simp [intOf]; omega
        · obtain rfl : i = m + 1 := by omega
          have l1 : ¬ (((m + 1 : Nat) : Int) < 1 + (m : Int)) := by omega
          have hq := HQ.out
          rw [← hq] at HG HLe HLk ⊢
          have HKq := hid (show ∀ j, j < 32 * q → j / 32 < kl from fun j hj => by have := HLk.out; omega)
          have hqb : q ≤ 16 := by have := HLe.out; omega
          obtain ⟨M, hM⟩ : ∃ M, 32 * q = M := ⟨_, rfl⟩
          have hMz : (32 * (q : Int)) = (M : Int) := by omega
          have hMb : (M : Int) ≤ 512 := by omega
          rw [hM] at HG HKq ⊢
          clear hq HQ hM HLs HL0 hqb
          go_wp2
          go_loopw [92] (fun c wr => ∃ j : Nat, j ≤ M ∧ c = .int .i64 (j : Nat) ∧ wr = w10) (fun c _ => M - (intOf c).toNat)
          case atStart => exact ⟨0, Nat.zero_le _, rfl, rfl⟩
          case round =>
            obtain ⟨j, hj, rfl, hw⟩ := hrel
            have hw2 := hw.symm
            subst hw2
            clear hw
            by_cases hjt : j < M
            · obtain ⟨g', c', e, hc⟩ := HG.out j hjt
              injection e with e1 e2 e3
              subst e1 e3
              have hjk := HKq.out j hjt
              obtain ⟨b, off, e, hb⟩ := HKt.out (j / 32) hjk
              subst e
              obtain ⟨jq, hjq⟩ : ∃ jq, j / 32 = jq := ⟨_, rfl⟩
              have hz : (j : Int) / 32 = (jq : Int) := by omega
              rw [hjq] at hc hb hjk
              have jb : jq ≤ 16 := by omega
              clear hjq
              have l1 : (j : Int) < (M : Int) := by omega
              have l2 : (0 : Int) ≤ (j : Int) := by omega
              have l3 : (0 : Int) ≤ (jq : Int) := by omega
              have l4 : (jq : Int) < (kl : Int) := by omega
              cases hKi : K jq with
              | true =>
                rw [hKi, if_pos rfl] at hc
                rw [hKi] at hb
                have hc' : w10.cell? ⟨g', j, none⟩ = some (.int .u8 (1 + (jq : Int))) := by rw [hc]; rfl
                clear hKi hc
                go_wp2
                go_roundw
                case rel => exact ⟨j + 1, by omega, by go_num, trivial⟩
                case measure => simp [intOf]; omega
              | false =>
                rw [hKi, if_neg (by simp)] at hc
                rw [hKi] at hb
                have hc' : w10.cell? ⟨g', j, none⟩ = some (.int .u8 0) := hc
                clear hKi hc
                go_wp2
                go_roundw
                case rel => exact ⟨j + 1, by omega, by go_num, trivial⟩
                case measure => simp [intOf]; omega
            · obtain rfl : j = M := by omega
              clear hMz HG HKq HKt HKf
              go_wp2_with (go_at_call 15; refine (looseD w _ db _ _ D10.out).mono ?_; rintro e w12 ⟨rfl, u12⟩; rw [D11.out _ (Old.refl _)]; have D12 := hid (D10.out.old u12); clear u12)
              go_ret
              exact ⟨rfl, D12.out.base⟩
end Go.Proofs.Ytggmejddihbhnaa
