/- The law SerialRight at every history; conditions: the rows lie in memory. -/
import Derived.Test.YtbkbnfgjkefcmaaGreatTQ
import Derived.Test.YtbkbnfgjkefcmaaGreatTH
namespace Go.Proofs.YtbkbnfgjkefcmaaGreat
open Go.RowKit Go.Lib
set_option linter.unusedVariables false
set_option linter.unusedSimpArgs false
set_option maxRecDepth 20000
theorem edR_ext (d : Nat → Dn) (k : Nat) {j : Nat} : ∀ {m : Nat}, j ≤ m → ∃ R, edR d k m = edR d k j ++ R
  | 0, h => by obtain rfl : j = 0 := by omega
               exact ⟨[], by simp⟩
  | m + 1, h => by
    by_cases e : j = m + 1
    · subst e; exact ⟨[], by simp⟩
    · obtain ⟨R, hR⟩ := edR_ext d k (j := j) (m := m) (by omega)
      exact ⟨R ++ _, by show edR d k m ++ _ = _; rw [hR, List.append_assoc]⟩
theorem edU_ext (d : Nat → Dn) (n : Nat) {k : Nat} : ∀ {m : Nat}, k ≤ m → ∃ R, edU d n m = edU d n k ++ R
  | 0, h => by obtain rfl : k = 0 := by omega
               exact ⟨[], by simp⟩
  | m + 1, h => by
    by_cases e : k = m + 1
    · subst e; exact ⟨[], by simp⟩
    · obtain ⟨R, hR⟩ := edU_ext d n (k := k) (m := m) (by omega)
      exact ⟨R ++ _, by show edU d n m ++ edR d m n = _; rw [hR, List.append_assoc]⟩
/-- Where an edge stands. -/
theorem edU_at {d : Nat → Dn} {n k j : Nat} (hk : k < n) (hj : j < n) (h : ldB (d k) (d j) = true) : (edU d n k).length + (edR d k j).length < (edU d n n).length ∧ (edU d n n).getD ((edU d n k).length + (edR d k j).length) (0, 0) = ((d k).n, (d j).n) := by
  obtain ⟨R1, h1⟩ := edU_ext d n (k := k + 1) (m := n) hk
  obtain ⟨R2, h2⟩ := edR_ext d k (j := j + 1) (m := n) hj
  have e1 : edU d n (k + 1) = edU d n k ++ edR d k n := rfl
  have e2 : edR d k (j + 1) = edR d k j ++ [((d k).n, (d j).n)] := by
    show edR d k j ++ (if ldB (d k) (d j) = true then _ else _) = _
    rw [if_pos h]
  have e : edU d n n = (edU d n k ++ edR d k j) ++ ((d k).n, (d j).n) :: (R2 ++ R1) := by
    rw [h1, e1, h2, e2]
    simp
  rw [e]
  refine ⟨by rw [List.length_append, List.length_append, List.length_cons]; omega, ?_⟩
  rw [← List.length_append, List.getD_eq_getElem?_getD, List.getElem?_append_right (Nat.le_refl _), Nat.sub_self]
  rfl
attribute [local go_sem] run_bits run_frombits run_store_float eqF
set_option maxHeartbeats 8000000 in
set_option maxRecDepth 20000 in
theorem rightLaw (v : Value) (n0 : Nat) (d : Nat → Dn) (w : World) (hv : DRowL w v n0 d) :
    Calls Tryz.prog 3 #[v] w fun e w' => e = .returned (.bool true) ∧ Old w w' := by
  have HF := hid (fun (W : World) (u : Old w W) => few_any v n0 d W (hv.old u))
  clear hv
  go_enter Tryz.func3, Tryz.ntmps3
  go_upto_region 4 with (first | (go_at_call 7; refine (alive_any _).mono ?_; rintro e w0 ⟨rfl, u1⟩; have U1 := hid u1; clear u1) | (go_at_call 8; refine (HF.out _ U1.out).mono ?_; rintro e w1 ⟨v1, n, hn, rfl, hd, rfl⟩; have D1 := hid hd; clear hd))
  clear HF
  have HR := hid (rright_any v1 n d w1 D1.out)
  have HP := hid (fun (W : World) (u : Old w1 W) => rightH_any v1 n d W (D1.out.old u))
  have HE := hid (fun (W : World) (u : Old w1 W) => edges_any v1 n d W (D1.out.old u))
  obtain ⟨_, p, c, rfl, hnc, hcm, hc⟩ := D1.out
  have HC := hid hc
  clear hc
  cases hrt : rtB d n
  · rw [hrt] at HR HP HE
    simp only [Bool.false_eq_true, if_false] at HE
    clear hrt
    go_wp2_with (first | (go_at_call 9; refine HR.out.mono ?_; rintro e w2 ⟨rfl, u2⟩; have V2 := hid u2; clear u2) | (go_at_call 10; refine (HE.out _ V2.out).mono ?_; rintro e w3 ⟨ve, rfl, o3, u3⟩; obtain ⟨pe, ce, ee, _⟩ := OwnE.shape o3; subst ee; have V3 := hid (V2.out.trans u3); clear o3 u3) | (go_at_call 11; refine (HP.out _ V3.out).mono ?_; rintro e w4 ⟨rfl, u4⟩; have V4 := hid (V3.out.trans u4); clear u4))
    go_ret
    exact ⟨rfl, U1.out.trans V4.out⟩
  · have hn64 := rtB_64 hrt
    rw [hrt] at HR HP HE
    simp only [if_true] at HE
    clear hrt hn
    have HEl := hid (edU_len d n)
    have HRl := hid (edR_len d)
    have HAt := hid (fun (k j : Nat) (hk : k < n) (hj : j < n) (h : ldB (d k) (d j) = true) => edU_at (n := n) hk hj h)
    have hel : (edU d n n).length ≤ 4096 := Nat.le_trans (edU_len d n n) (by calc n * n ≤ 64 * 64 := Nat.mul_le_mul hn64 hn64)
    have HU0 : Hid ((edU d n 0).length = 0) := hid rfl
    have HUs := hid (show ∀ k, (edU d n (k + 1)).length = (edU d n k).length + (edR d k n).length from fun k => by show (edU d n k ++ edR d k n).length = _; rw [List.length_append])
    have HRs := hid (show ∀ k j, (edR d k (j + 1)).length = (edR d k j).length + (if ldB (d k) (d j) = true then 1 else 0) from fun k j => by show (edR d k j ++ _).length = _; rw [List.length_append]; split <;> rfl)
    have HR0 : Hid (∀ k, (edR d k 0).length = 0) := hid (fun _ => rfl)
    have HKb := hid (show ∀ k, k ≤ n → (edU d n k).length ≤ 4096 from fun k hk => Nat.le_trans (HEl.out k) (by calc k * n ≤ 64 * 64 := Nat.mul_le_mul (by omega) hn64))
    have l0 : (n : Int) ≤ 64 := by omega
    generalize hE : edU d n n = E at *
    have HEE := hid hE
    clear hE
    go_upto_region 10 with (first | (go_at_call 9; refine HR.out.mono ?_; rintro e w2 ⟨rfl, u2⟩; have V2 := hid u2; clear u2) | (go_at_call 10; refine (HE.out _ V2.out).mono ?_; rintro e w3 ⟨ve, rfl, o3, u3⟩; obtain ⟨pe, ce, ee, hce⟩ := OwnE.shape o3; subst ee; have HCe := hid (show ∀ i, i < E.length → ∃ g, pe = some ⟨g, 0, none⟩ ∧ w3.cell? ⟨g, i * 2, none⟩ = some (.int .i64 (E.getD i (0, 0)).1) ∧ w3.cell? ⟨g, i * 2 + 1, none⟩ = some (.int .i64 (E.getD i (0, 0)).2) from fun i hi => by have q := hce i hi; have e : E.getD i (0, 0) = E[i] := (by simp [List.getD_eq_getElem?_getD, hi]); rw [e]; exact q); have V3 := hid (V2.out.trans u3); clear o3 hce u3) | (go_at_call 11; refine (HP.out _ V3.out).mono ?_; rintro e w4 ⟨rfl, u4⟩; have V4 := hid u4; clear u4))
    clear HR HP HE
    have le0 : (E.length : Int) ≤ 4096 := by omega
    generalize hEL : E.length = EL at *
    have HEL := hid hEL
    clear hEL hel
    go_wp2
    go_loopw [5, 29] (fun q i wr => ∃ k : Nat, k ≤ n ∧ q = .int .i64 (((edU d n k).length : Nat) : Int) ∧ i = .int .i64 (k : Nat) ∧ Old w3 wr) (fun _ i _ => n - (intOf i).toNat)
    case atStart => exact ⟨0, Nat.zero_le _, by rw [HU0.out]; rfl, rfl, V4.out⟩
    case round =>
      obtain ⟨k, hk, rfl, rfl, hu⟩ := hrel
      have U := hid hu
      by_cases hlt : k < n
      · obtain ⟨g, off, ha, c0, hs⟩ := HC.out k hlt
        subst ha
        obtain ⟨x0, x1, x2, x3, x4, x5, x6⟩ := c0.old (V3.out.trans hu)
        have HSk := hid (fun (W : World) (u : Old w3 W) => hs.old (V3.out.trans u))
        have l1 : (0 : Int) ≤ (k : Int) := by omega
        have l2 : (k : Int) < (n : Int) := by omega
        have HKk := hid (HKb.out k hk)
        have HUk := hid (HUs.out k)
        have HRk := hid (HRs.out k)
        have HRk0 := hid (HR0.out k)
        have HRkl := hid (HRl.out k)
        have HAk := hid (fun j hj h => HAt.out k j hlt hj h)
        clear c0 hs hu V4 HKb HUs HRs HR0 HRl HAt HU0
        generalize (edU d n k).length = ek at *
        go_upto_region 14 with fail
        generalize hw1 : wr.alloc (.cells #[.int .i64 (d k).n, .int .i64 (d k).s.s1, .int .i64 (d k).s.s2, .int .i64 (d k).s.s3, .slice (d k).s.a1 (d k).s.n1 (d k).s.c1, .slice (d k).s.a2 (d k).s.n2 (d k).s.c2, .slice (d k).s.a3 (d k).s.n3 (d k).s.c3] 33) = wb at *
        obtain ⟨hb1, hu1⟩ := dn_new wr (d k) wb hw1 _ rfl
        have B2 := hid hb1
        have U2 := hid (U.out.trans hu1)
        clear hw1 hb1 hu1 x0 x1 x2 x3 x4 x5 x6 U
        generalize wr.heap.size = mb at *
        go_wp2
        go_loopw [5, 35] (fun q i wr => ∃ j s : Nat, j ≤ n ∧ s = ek + (edR d k j).length ∧ q = .int .i64 (s : Nat) ∧ i = .int .i64 (j : Nat) ∧ Old wb wr) (fun _ i _ => n - (intOf i).toNat)
        case atStart => exact ⟨0, ek, Nat.zero_le _, by rw [HRk0.out]; rfl, rfl, rfl, Old.refl _⟩
        case round =>
          obtain ⟨j, sm, hj, hsm, rfl, rfl, hu⟩ := hrel
          have HSm := hid hsm
          have V := hid hu
          clear hsm
          by_cases hjt : j < n
          · obtain ⟨g', off', ha', c0, hs⟩ := HC.out j hjt
            cases ha'
            obtain ⟨x0, x1, x2, x3, x4, x5, x6⟩ := c0.old (V3.out.trans (U2.out.trans hu))
            have m1 : (0 : Int) ≤ (j : Int) := by omega
            have m2 : (j : Int) < (n : Int) := by omega
            have HL := hid (fun (W : World) (u : Old w3 W) => rleads_any (d k) (d j) W (HSk.out W u) (hs.old (V3.out.trans u)))
            have HRj := hid (HRk.out j)
            have HRjl := hid (HRkl.out j)
            have HAj := hid (HAk.out j hjt)
            clear c0 hs hu
            generalize (edR d k j).length = rl at *
            go_upto_region 17 with fail
            generalize hw1 : wr.alloc (.cells #[.int .i64 (d j).n, .int .i64 (d j).s.s1, .int .i64 (d j).s.s2, .int .i64 (d j).s.s3, .slice (d j).s.a1 (d j).s.n1 (d j).s.c1, .slice (d j).s.a2 (d j).s.n2 (d j).s.c2, .slice (d j).s.a3 (d j).s.n3 (d j).s.c3] 33) = w5 at *
            obtain ⟨hb1, hu1⟩ := dn_new wr (d j) w5 hw1 _ rfl
            have B3 := hid hb1
            have A3 := hid (DnBox.old (V.out.trans hu1) B2.out)
            have U5 := hid (V.out.trans hu1)
            clear hw1 hb1 hu1 x0 x1 x2 x3 x4 x5 x6 V
            generalize wr.heap.size = mj at *
            obtain ⟨t0, t1, t2, t3, t4, t5, t6⟩ := A3.out
            obtain ⟨r0, r1, r2, r3, r4, r5, r6⟩ := B3.out
            cases hl : ldB (d k) (d j)
            · rw [hl] at HL HRj
              have HN := hid (show (edR d k (j + 1)).length = rl from by rw [HRj.out]; rfl)
              clear hl HRj HAj HC HCe
              go_wp2_with (go_at_call 12; refine (HL.out _ (U2.out.trans U5.out)).mono ?_; rintro e w6 ⟨rfl, v6⟩; have U6 := hid (U5.out.trans v6); clear v6)
              go_roundw
              case rel => exact ⟨j + 1, sm, hjt, by rw [HN.out]; exact HSm.out, rfl, by go_num, U6.out⟩
              case measure => simp [intOf]; omega
            · obtain ⟨a1, a2⟩ := HAj.out hl
              rw [hl] at HL HRj
              have HN := hid (show (edR d k (j + 1)).length = rl + 1 from by rw [HRj.out]; rfl)
              rw [← HSm.out] at a1 a2
              obtain ⟨ge, hpe, z0, z1⟩ := HCe.out _ a1
              subst hpe
              rw [a2] at z0 z1
              have HZ := hid (fun (W : World) (u : Old w3 W) => (⟨u.keep z0, u.keep z1⟩ : W.cell? ⟨ge, sm * 2, none⟩ = some (.int .i64 (d k).n) ∧ W.cell? ⟨ge, sm * 2 + 1, none⟩ = some (.int .i64 (d j).n)))
              have b1 : (sm : Int) < (EL : Int) := by omega
              have b2 : ¬ (EL : Int) ≤ (sm : Int) := by omega
              have b3 : (0 : Int) ≤ (sm : Int) := by omega
              have b4 : (sm : Int) ≤ 5000 := by omega
              have b5 : ¬ EL ≤ sm := by omega
              have b6 : sm < EL := by omega
              clear hl HRj HAj HC HCe a1 a2 z0 z1
              go_upto_region 18 with (go_at_call 12; refine (HL.out _ (U2.out.trans U5.out)).mono ?_; rintro e w6 ⟨rfl, v6⟩; have U6 := hid (U5.out.trans v6); clear t0 t1 t2 t3 t4 t5 t6 r0 r1 r2 r3 r4 r5 r6; obtain ⟨t0, t1, t2, t3, t4, t5, t6⟩ := DnBox.old v6 A3.out; obtain ⟨r0, r1, r2, r3, r4, r5, r6⟩ := DnBox.old v6 B3.out; clear v6)
              obtain ⟨z0, z1⟩ := HZ.out _ (U2.out.trans U6.out)
              go_quiet (fail)
              go_wp2
              go_roundw
              case rel => exact ⟨j + 1, sm + 1, hjt, by rw [HN.out, ← Nat.add_assoc, ← HSm.out], by go_num, by go_num, U6.out.drewN _⟩
              case measure => simp [intOf]; omega
          · obtain rfl : n = j := by omega
            have HN := hid (show (edU d n (k + 1)).length = sm from by rw [HUk.out, HSm.out])
            clear HC HCe
            go_wp2
            go_roundw
            case rel => exact ⟨k + 1, hlt, by rw [HN.out], by go_num, U2.out.trans V.out⟩
            case measure => simp [intOf]; omega
      · obtain rfl : n = k := by omega
        have HN := hid (show (edU d n n).length = EL from by rw [HEE.out]; exact HEL.out)
        rw [HN.out]
        clear HC HCe
        go_wp2
        go_ret
        exact ⟨rfl, U1.out.trans (V3.out.trans U.out)⟩
end Go.Proofs.YtbkbnfgjkefcmaaGreat
