/- The law ConfQuorums; no condition. -/
import Derived.Test.YtcicefpcledmgaaV18
import Derived.Test.YtcicefpcledmgaaV20
import Derived.Test.YtcicefpcledmgaaV23
import Derived.Test.YtcicefpcledmgaaV24
namespace Go.Proofs.Ytcicefpcledmgaa
open Go.RowKit Go.Lib
set_option linter.unusedVariables false
set_option linter.unusedSimpArgs false
set_option maxRecDepth 20000
theorem cntQ_K (f : Nat → Int) {p q : Int → Bool} (h : ∀ x, p x = q x) : ∀ n, cntQ f p n = cntK f q n
  | 0 => rfl
  | n + 1 => by unfold cntQ cntK; rw [cntQ_K f h n, h]
theorem has_con (h : Nat → Int) (k : Nat) (x : Int) : hasK h x k = (lsI h k).contains x := by
  rw [Bool.eq_iff_iff, hasK_iff, List.contains_iff_mem]
theorem quo_doc (n k : Nat) (f h : Nat → Int) : decide (n < 2 * cntQ f (fun x => hasK h x k) n) = decide (n / 2 < cntK f (fun x => (lsI h k).contains x) n) := by
  rw [cntQ_K f (q := fun x => (lsI h k).contains x) (has_con h k) n]
  rw [decide_eq_decide]
  omega
theorem row0 (w : World) (f : Nat → Int) : NRowL w (.slice none 0 0) 0 f := ⟨by omega, none, 0, rfl, by omega, by omega, fun i hi => by omega⟩
set_option maxHeartbeats 8000000 in
set_option maxRecDepth 20000 in
theorem quorumsLaw (v0 : Value) (kd x : Int) (v3 v4 : Value) (w : World) (h0 : CfB w v0) (h3 : ∃ (n : Nat) (f : Nat → Int), NRowL w v3 n f) (h4 : ∃ (n : Nat) (f : Nat → Int), NRowL w v4 n f) :
    Calls Try.prog 4 #[v0, .int .i64 kd, .int .i64 x, v3, v4] w fun e w' => e = .returned (.bool true) ∧ Old w w' := by
  obtain ⟨a1, a2, n, m, f, g, rfl, r1, r2, s1, s2⟩ := h0
  obtain ⟨k1, o, h3⟩ := h3
  obtain ⟨k2, t, h4⟩ := h4
  have R1 := hid r1
  have R2 := hid r2
  have R3 := hid h3
  have R4 := hid h4
  have S12 := hid (And.intro s1 s2)
  obtain ⟨_, p1, c1, rfl, _, _, _⟩ := r1
  obtain ⟨_, p2, c2, rfl, _, _, _⟩ := r2
  obtain ⟨hk1, p3, c3, rfl, _, _, hc3⟩ := h3
  obtain ⟨hk2, p4, c4, rfl, _, _, hc4⟩ := h4
  have HC3 := hid hc3
  have HC4 := hid hc4
  clear hc3 hc4 s1 s2
  go_enter Try.func4, Try.ntmps4
  go_upto_region 3 with (go_at_call 8; refine (alive_any _).mono ?_; rintro e w1 ⟨rfl, o1⟩; have O1 := hid (((Old.refl w).alloc _).trans o1); have HBx := hid (show BxS w.heap.size (.slice p1 n c1) (.slice p2 m c2) w1 from ⟨o1.keep (by simp), o1.keep (by simp)⟩); clear o1)
  have HQa := hid (fun (W : World) (u : Old w1 W) => quorum_any (.slice p1 n c1) (.slice p2 m c2) (.slice p3 k1 c3) n m k1 f g o W (R1.out.old (O1.out.trans u)) (R2.out.old (O1.out.trans u)) (R3.out.old (O1.out.trans u)))
  have HQb := hid (fun (W : World) (u : Old w1 W) => quorum_any (.slice p1 n c1) (.slice p2 m c2) (.slice p4 k2 c4) n m k2 f g t W (R1.out.old (O1.out.trans u)) (R2.out.old (O1.out.trans u)) (R4.out.old (O1.out.trans u)))
  have HRa := hid (fun (W : World) (u : Old w1 W) => rQuorum_any (.slice p1 n c1) (.slice p2 m c2) (.slice p3 k1 c3) n m k1 f g o W (R1.out.old (O1.out.trans u)) (R2.out.old (O1.out.trans u)) (R3.out.old (O1.out.trans u)))
  rw [quo_doc] at HRa
  have HRi := hid (fun (W : World) (u : Old w1 W) => right_any (.slice p1 n c1) (.slice p2 m c2) n m f g W (R1.out.old (O1.out.trans u)) (R2.out.old (O1.out.trans u)))
  have HVc := hid (fun (y : Int) (W : World) (u : Old w1 W) => voter_any (.slice p1 n c1) (.slice p2 m c2) n m f g y W (R1.out.old (O1.out.trans u)) (R2.out.old (O1.out.trans u)))
  have HOne := hid (fun a b => quo_one (n := n) (k1 := k1) (k2 := k2) (f := f) (o := o) (t := t) a b)
  generalize hqa : decide (n / 2 < cntK f (fun x => (lsI o k1).contains x) n) = qa at *
  generalize hqb : decide (n / 2 < cntK f (fun x => (lsI t k2).contains x) n) = qb at *
  have HNx := hid (show ∀ (W : World), Old w1 W → Calls Try.prog 10 #[.agg #[.slice p1 n c1, .slice p2 m c2], .int .i64 kd, .int .i64 x] W fun e w' => ∃ (F : Int) (t1 t2 : Option Addr) (nd md z1 z2 : Nat) (fd gd : Nat → Int), e = .returned (.tuple #[.agg #[.slice t1 nd z1, .slice t2 md z2], .int .i64 F]) ∧ NRowL w' (.slice t1 nd z1) nd fd ∧ NRowL w' (.slice t2 md z2) md gd ∧ (F = 0 → qa = true → decide (nd / 2 < cntK fd (fun x => (lsI t k2).contains x) nd) = true → pairK (fun i j => o i == t j && hasK f (o i) n && hasK fd (o i) nd) k2 k1 = true) ∧ Old W w' from fun W u => by
    refine (next_any _ _ n m f g kd x W (R1.out.old (O1.out.trans u)) (R2.out.old (O1.out.trans u)) S12.out.1 S12.out.2).mono ?_
    rintro e w' ⟨u', q⟩
    rcases q with ⟨h, rfl⟩ | ⟨h, y1, y2, rfl, o1, o2⟩
    · exact ⟨_, none, none, 0, 0, 0, 0, o, o, rfl, row0 _ _, row0 _ _, fun e => absurd e h, u'⟩
    · have rr := rightG (next_right h)
      have f1 := riK_few _ _ (rightB_parts rr).2.1
      have f2 := riK_few _ _ (rightB_parts rr).2.2.1
      have g1 := o1.rowG (by omega)
      have g2 := o2.rowG (by omega)
      obtain ⟨t1, z1, rfl⟩ := o1.len
      obtain ⟨t2, z2, rfl⟩ := o2.len
      refine ⟨0, t1, t2, _, _, z1, z2, gI _, gI _, rfl, g1, g2, fun _ ea eb => ?_, u'⟩
      subst hqa
      exact quo_two h (of_decide_eq_true ea) (of_decide_eq_true eb))
  have HOn2 := hid (show qa = true → qb = true → pairK (fun i j => o i == t j && hasK f (o i) n) k2 k1 = true from fun ea eb => by
    subst hqa hqb
    exact HOne.out (of_decide_eq_true ea) (of_decide_eq_true eb))
  clear hqa hqb HOne R1 R2 S12
  generalize hB : w.heap.size = B at *
  have hxx : (qa != qa) = false := by simp
  refine wp_region_noPanic ?_
  refine wp_region_held_drew (S := BxS B (.slice p1 n c1) (.slice p2 m c2)) (by kernel_rfl) ?_ (fun hHeld => ?_)
  · exact BxS.old ((Old.refl w1).drew) HBx.out
  (try simp only [Act.put]); (try simp only [List.setIfInBounds_toArray]); (try simp only [List.set_cons_succ]); (try simp only [List.set_cons_zero])
  clear hHeld
  refine wpAnyH_take (i := 0) (oi := { dst := some 21, op := Op.load 24 (Operand.tmp 5), type := 24, pos := "law.go:74", after := #[], guard := none }) (v := ?vk1) rfl (by kernel_rfl) (by kernel_rfl) (by kernel_rfl) (fun _ _ _ h => h) (Or.inl ⟨by rfl, ?hk1⟩) (BxS.old ((Old.refl w1).drew) HBx.out) ?rk1
  case hk1 => (intro wz hSw; (try dsimp only at hSw); go_simp; try with_reducible rfl)
  (try simp only [Act.put]); (try simp only [List.setIfInBounds_toArray]); (try simp only [List.set_cons_succ]); (try simp only [List.set_cons_zero])
  refine wpAnyH_take (i := 1) (oi := { dst := some 22, op := Op.move (Operand.tmp 3), type := 22, pos := "law.go:74", after := #[], guard := none }) (v := ?vk2) rfl (by kernel_rfl) (by kernel_rfl) (by kernel_rfl) (fun _ _ _ h => h) (Or.inl ⟨by rfl, ?hk2⟩) (BxS.old ((Old.refl w1).drew) HBx.out) ?rk2
  case hk2 => (intro wz hSw; (try dsimp only at hSw); go_simp; try with_reducible rfl)
  (try simp only [Act.put]); (try simp only [List.setIfInBounds_toArray]); (try simp only [List.set_cons_succ]); (try simp only [List.set_cons_zero])
  refine wpAnyH_take (i := 3) (oi := { dst := some 24, op := Op.load 24 (Operand.tmp 5), type := 24, pos := "law.go:74", after := #[], guard := none }) (v := ?vk3) rfl (by kernel_rfl) (by kernel_rfl) (by kernel_rfl) (fun _ _ _ h => h) (Or.inl ⟨by rfl, ?hk3⟩) (BxS.old ((Old.refl w1).drew) HBx.out) ?rk3
  case hk3 => (intro wz hSw; (try dsimp only at hSw); go_simp; try with_reducible rfl)
  (try simp only [Act.put]); (try simp only [List.setIfInBounds_toArray]); (try simp only [List.set_cons_succ]); (try simp only [List.set_cons_zero])
  refine wpAnyH_take (i := 4) (oi := { dst := some 25, op := Op.move (Operand.tmp 3), type := 22, pos := "law.go:74", after := #[], guard := none }) (v := ?vk4) rfl (by kernel_rfl) (by kernel_rfl) (by kernel_rfl) (fun _ _ _ h => h) (Or.inl ⟨by rfl, ?hk4⟩) (BxS.old ((Old.refl w1).drew) HBx.out) ?rk4
  case hk4 => (intro wz hSw; (try dsimp only at hSw); go_simp; try with_reducible rfl)
  (try simp only [Act.put]); (try simp only [List.setIfInBounds_toArray]); (try simp only [List.set_cons_succ]); (try simp only [List.set_cons_zero])
  refine wpAnyH_ready (rs := [2]) (by kernel_rfl) (by simp) ?_
  refine AllReadyH.cons (o := { dst := some 23, op := Op.call { callee := Callee.value (Operand.func 13), args := #[Operand.tmp 21, Operand.tmp 22], argTypes := #[24, 22] }, type := 4, pos := "law.go:74", after := #[{ on := 0, ground := Ground.data }, { on := 1, ground := Ground.data }], guard := none }) rfl (fun K hK => ?_) AllReadyH.nil
  refine wantCall2 ?_ 13 (.tmp 21) (.tmp 22) #[24, 22] ?_ (.agg #[.slice p1 n c1, .slice p2 m c2]) (.slice p3 k1 c3) ?_ ?_ ?_ ((enters_of Try.func13 (by kernel_rfl) rfl) _ _) ?_
  · rfl
  · rfl
  · rfl
  · rfl
  · rfl
  refine (HQa.out _ ((Old.refl w1).drew)).mono ?_
  rintro o x5 ⟨rfl, b5⟩
  refine ⟨_, rfl, ?_⟩
  have U5 := ((Old.refl w1).drew).trans b5
  refine hK.out _ _ (BxS.old U5 HBx.out) (fun _ => ?_)
  clear hK K
  (try simp only [Act.put]); (try simp only [List.setIfInBounds_toArray]); (try simp only [List.set_cons_succ]); (try simp only [List.set_cons_zero])
  refine wpAnyH_ready (rs := [5]) (by kernel_rfl) (by simp) ?_
  refine AllReadyH.cons (o := { dst := some 26, op := Op.call { callee := Callee.value (Operand.func 14), args := #[Operand.tmp 24, Operand.tmp 25], argTypes := #[24, 22] }, type := 4, pos := "law.go:74", after := #[{ on := 3, ground := Ground.data }, { on := 4, ground := Ground.data }, { on := 2, ground := Ground.chain }], guard := none }) rfl (fun K hK => ?_) AllReadyH.nil
  refine wantCall2 ?_ 14 (.tmp 24) (.tmp 25) #[24, 22] ?_ (.agg #[.slice p1 n c1, .slice p2 m c2]) (.slice p3 k1 c3) ?_ ?_ ?_ ((enters_of Try.func14 (by kernel_rfl) rfl) _ _) ?_
  · rfl
  · rfl
  · rfl
  · rfl
  · rfl
  refine (HRa.out _ U5).mono ?_
  rintro o x6 ⟨rfl, b6⟩
  refine ⟨_, rfl, ?_⟩
  have U6 := U5.trans b6
  refine hK.out _ _ (BxS.old U6 HBx.out) (fun _ => ?_)
  clear hK K
  (try simp only [Act.put]); (try simp only [List.setIfInBounds_toArray]); (try simp only [List.set_cons_succ]); (try simp only [List.set_cons_zero])
  refine wpAnyH_take (i := 6) (oi := { dst := some 27, op := Op.binOp BinOp.neq 4 (Operand.tmp 23) (Operand.tmp 26) 4, type := 4, pos := "law.go:74", after := #[{ on := 2, ground := Ground.data }, { on := 5, ground := Ground.data }], guard := none }) (v := ?vk7) rfl (by kernel_rfl) (by kernel_rfl) (by kernel_rfl) (fun _ _ _ h => h) (Or.inl ⟨by rfl, ?hk7⟩) (BxS.old U6 HBx.out) ?rk7
  case hk7 => (intro wz hSw; (try dsimp only at hSw); go_simp; try with_reducible rfl)
  (try simp only [Act.put]); (try simp only [List.setIfInBounds_toArray]); (try simp only [List.set_cons_succ]); (try simp only [List.set_cons_zero])
  refine wpAnyH_done (by kernel_rfl) ?_ _
  refine NoPanic.normal ?_
  have UZ := hid U6
  have HB2 := hid (BxS.old UZ.out HBx.out)
  clear HBx HRa hxx
  obtain ⟨y0, y1⟩ := HB2.out
  generalize hr : rightB n f m g = rb at *
  cases rb with
  | false =>
    go_wp2_with (go_at_call 9; refine (HRi.out _ UZ.out).mono ?_; rintro e w5 ⟨rfl, u5⟩; have U5 := hid (UZ.out.trans u5); clear u5)
    go_ret
    exact ⟨rfl, O1.out.trans U5.out⟩
  | true =>
    go_upto_region 8 with (first | (go_at_call 9; refine (HRi.out _ UZ.out).mono ?_; rintro e w5 ⟨rfl, u5⟩; have U5 := hid (UZ.out.trans u5); have x0 := u5.keep y0; have x1 := u5.keep y1; clear u5) | (go_at_call 10; refine (HNx.out _ U5.out).mono ?_; rintro e w6 ⟨F, t1, t2, nd, md, z1, z2, fd, gd, rfl, n1, n2, hF, u6⟩; have N1 := hid n1; have N2 := hid n2; have HF := hid hF; have U6 := hid (U5.out.trans u6); have b0 := u6.keep x0; have b1 := u6.keep x1; clear u6 n1 n2 hF))
    have D0 : (w6.alloc (.cells #[.slice t1 nd z1, .slice t2 md z2] 24)).cell? ⟨w6.heap.size, 0, none⟩ = some (.slice t1 nd z1) := by simp
    have D1 : (w6.alloc (.cells #[.slice t1 nd z1, .slice t2 md z2] 24)).cell? ⟨w6.heap.size, 1, none⟩ = some (.slice t2 md z2) := by simp
    have U7 := hid (U6.out.alloc (.cells #[.slice t1 nd z1, .slice t2 md z2] 24))
    have D2 : (w6.alloc (.cells #[.slice t1 nd z1, .slice t2 md z2] 24)).cell? ⟨B, 0, none⟩ = some (.slice p1 n c1) := ((Old.refl w6).alloc _).keep b0
    have D3 : (w6.alloc (.cells #[.slice t1 nd z1, .slice t2 md z2] 24)).cell? ⟨B, 1, none⟩ = some (.slice p2 m c2) := ((Old.refl w6).alloc _).keep b1
    have HN1 := hid (N1.out.old ((Old.refl w6).alloc (.cells #[.slice t1 nd z1, .slice t2 md z2] 24)))
    have HN2 := hid (N2.out.old ((Old.refl w6).alloc (.cells #[.slice t1 nd z1, .slice t2 md z2] 24)))
    generalize w6.alloc (.cells #[.slice t1 nd z1, .slice t2 md z2] 24) = w7 at *
    generalize w6.heap.size = db at *
    have HVd := hid (fun (y : Int) (W : World) (u : Old w7 W) => voter_any (.slice t1 nd z1) (.slice t2 md z2) nd md fd gd y W (HN1.out.old u) (HN2.out.old u))
    have HVc7 := hid (fun (y : Int) (W : World) (u : Old w7 W) => HVc.out y W (U7.out.trans u))
    have HQd := hid (fun (W : World) (u : Old w7 W) => quorum_any (.slice t1 nd z1) (.slice t2 md z2) (.slice p4 k2 c4) nd md k2 fd gd t W (HN1.out.old u) (HN2.out.old u) (R4.out.old (O1.out.trans (U7.out.trans u))))
    have HQa7 := hid (fun (W : World) (u : Old w7 W) => HQa.out W (U7.out.trans u))
    have HQb7 := hid (fun (W : World) (u : Old w7 W) => HQb.out W (U7.out.trans u))
    have HC3' := hid (fun (i : Nat) (hi : i < k1) => HC3.out i hi)
    have O7 := hid (O1.out.trans U7.out)
    clear HVc HQa HQb HRi HNx U5 U6 N1 N2 HN1 HN2 x0 x1 y0 y1 b0 b1 HB2 UZ R3 R4 HC3 U7 O1
    generalize decide (nd / 2 < cntK fd (fun x => (lsI t k2).contains x) nd) = qd at *
    have HP1 := hid (fun i j => show anyK ((fun i j => o i == t j && hasK f (o i) n) i) (j + 1) = (anyK ((fun i j => o i == t j && hasK f (o i) n) i) j || (o i == t j && hasK f (o i) n)) from rfl)
    have HR1 := hid (fun i j => show anyK ((fun i j => o i == t j && hasK f (o i) n && hasK fd (o i) nd) i) (j + 1) = (anyK ((fun i j => o i == t j && hasK f (o i) n && hasK fd (o i) nd) i) j || (o i == t j && hasK f (o i) n && hasK fd (o i) nd)) from rfl)
    have HP0 := hid (fun i => show anyK ((fun i j => o i == t j && hasK f (o i) n) i) 0 = false from rfl)
    have HR0 := hid (fun i => show anyK ((fun i j => o i == t j && hasK f (o i) n && hasK fd (o i) nd) i) 0 = false from rfl)
    have HPz := hid (show pairK (fun i j => o i == t j && hasK f (o i) n) k2 0 = false from rfl)
    have HRz := hid (show pairK (fun i j => o i == t j && hasK f (o i) n && hasK fd (o i) nd) k2 0 = false from rfl)
    generalize hPP : (fun i j => o i == t j && hasK f (o i) n) = P at *
    generalize hRR : (fun i j => o i == t j && hasK f (o i) n && hasK fd (o i) nd) = R at *
    clear hPP hRR
    have HP := hid (fun j => pairK_succ P k2 j)
    have HR := hid (fun j => pairK_succ R k2 j)
    go_upto_region 10 with (fail)
    go_loopw [13, 14, 40] (fun c v i wr => ∃ j : Nat, j ≤ k1 ∧ i = .int .i64 (j : Nat) ∧ c = .bool (pairK P k2 j) ∧ v = .bool (pairK R k2 j) ∧ Old w7 wr) (fun _ _ i _ => k1 - (intOf i).toNat)
    case atStart => exact ⟨0, Nat.zero_le _, rfl, by rw [HPz.out], by rw [HRz.out], Old.refl _⟩
    case round =>
      obtain ⟨j, hj, rfl, rfl, rfl, hu⟩ := hrel
      have HU := hid hu
      clear hu
      by_cases hlt : j < k1
      · obtain ⟨b, off, ha, c0⟩ := HC3'.out j hlt
        subst ha
        have z2 := (O7.out.trans HU.out).keep c0
        have l1 : (0 : Int) ≤ (j : Int) := by omega
        have l2 : (j : Int) < (k1 : Int) := by omega
        clear c0
        have HPj := hid (HP.out j)
        have HRj := hid (HR.out j)
        have HPj1 := hid (HP1.out j)
        have HRj1 := hid (HR1.out j)
        have HP0j := hid (HP0.out j)
        have HR0j := hid (HR0.out j)
        have HVcx := hid (HVc7.out (o j))
        have HVdx := hid (HVd.out (o j))
        generalize hasK f (o j) n = vc at *
        generalize hasK fd (o j) nd = vd at *
        generalize pairK P k2 j = cP at *
        generalize pairK R k2 j = cR at *
        generalize o j = oj at *
        generalize P j = Pj at *
        generalize R j = Rj at *
        go_upto_region 13 with (fail)
        go_loopw [13, 14, 46] (fun c v i wz => ∃ q : Nat, q ≤ k2 ∧ i = .int .i64 (q : Nat) ∧ c = .bool (cP || anyK Pj q) ∧ v = .bool (cR || anyK Rj q) ∧ Old w7 wz) (fun _ _ i _ => k2 - (intOf i).toNat)
        case atStart => exact ⟨0, Nat.zero_le _, rfl, by rw [HP0j.out, Bool.or_false], by rw [HR0j.out, Bool.or_false], HU.out⟩
        case round =>
          obtain ⟨q, hq, rfl, rfl, rfl, hz⟩ := hrel
          have UU := hid hz
          have d0 := hz.keep D0
          have d1 := hz.keep D1
          have d2 := hz.keep D2
          have d3 := hz.keep D3
          clear hz HU z2
          by_cases hlq : q < k2
          · obtain ⟨b4, off4, ha, c0⟩ := HC4.out q hlq
            subst ha
            have z4 := (O7.out.trans UU.out).keep c0
            have m1 : (0 : Int) ≤ (q : Int) := by omega
            have m2 : (q : Int) < (k2 : Int) := by omega
            clear c0
            have HPq := hid (HPj1.out q)
            have HRq := hid (HRj1.out q)
            generalize anyK Pj q = aP at *
            generalize anyK Rj q = aR at *
            generalize t q = tq at *
            clear HPj1 HRj1 HP0j HR0j HPj HRj HP HR HP1 HR1 HP0 HR0 HPz HRz HC3' HQa7 HQb7 HQd HVc7 HVd HF HOn2 D0 D1 D2 D3 HC4
            generalize hcc : (cP || aP) = cc
            generalize hvv : (cR || aR) = vv
            have HCc := hid hcc
            have HVv := hid hvv
            clear hcc hvv
            generalize heq : (oj == tq) = eq at *
            have HE := hid heq
            cases cc <;> cases vv <;> cases eq <;> cases vc
            all_goals
              go_wp2_with (first | (go_at_call 12; refine (HVcx.out _ UU.out).mono ?_; rintro e w8 ⟨rfl, u8⟩; have UV := hid (UU.out.trans u8); have e0 := u8.keep d0; have e1 := u8.keep d1; have e2 := u8.keep d2; have e3 := u8.keep d3; clear UU d0 d1 d2 d3 u8; have UU := UV; have d0 := e0; have d1 := e1; have d2 := e2; have d3 := e3; clear UV e0 e1 e2 e3) | (go_at_call 12; refine (HVdx.out _ UU.out).mono ?_; rintro e w8 ⟨rfl, u8⟩; have UV := hid (UU.out.trans u8); have e0 := u8.keep d0; have e1 := u8.keep d1; have e2 := u8.keep d2; have e3 := u8.keep d3; clear UU d0 d1 d2 d3 u8; have UU := UV; have d0 := e0; have d1 := e1; have d2 := e2; have d3 := e3; clear UV e0 e1 e2 e3))
              go_roundw
              case rel => exact ⟨q + 1, hlq, by go_num, by rw [HPq.out, ← Bool.or_assoc, HCc.out]; rfl, by rw [HRq.out, ← Bool.or_assoc, HVv.out]; rfl, UU.out⟩
              case measure => simp [intOf]; omega
          · obtain rfl : q = k2 := by omega
            go_wp2
            go_roundw
            case rel => exact ⟨j + 1, hlt, by go_num, by rw [HPj.out], by rw [HRj.out], UU.out⟩
            case measure => simp [intOf]; omega
      · obtain rfl : j = k1 := by omega
        have UU := HU
        have d0 := HU.out.keep D0
        have d1 := HU.out.keep D1
        have d2 := HU.out.keep D2
        have d3 := HU.out.keep D3
        clear HP1 HR1 HP0 HR0 HPz HRz HP HR HC3' HVc7 HVd D0 D1 D2 D3 HC4 HU
        have HFF := hid HF.out
        clear HF
        generalize pairK P k2 j = cP at *
        generalize pairK R k2 j = cR at *
        by_cases hF : F = 0
        · have hF1 : (F != 0) = false := by simpa using hF
          have HRt := hid (HFF.out hF)
          clear HFF hF
          cases qa with
          | false =>
            go_upto_region 21 with (go_at_call 13; refine (HQa7.out _ UU.out).mono ?_; rintro e w8 ⟨rfl, u8⟩; have UV := hid (UU.out.trans u8); have e0 := u8.keep d0; have e1 := u8.keep d1; have e2 := u8.keep d2; have e3 := u8.keep d3; clear UU d0 d1 d2 d3 u8; have UU := UV; have d0 := e0; have d1 := e1; have d2 := e2; have d3 := e3; clear UV e0 e1 e2 e3)
            go_wp2_with (go_at_call 13; refine (HQa7.out _ UU.out).mono ?_; rintro e w8 ⟨rfl, u8⟩; have UV := hid (UU.out.trans u8); have e0 := u8.keep d0; have e1 := u8.keep d1; have e2 := u8.keep d2; have e3 := u8.keep d3; clear UU d0 d1 d2 d3 u8; have UU := UV; have d0 := e0; have d1 := e1; have d2 := e2; have d3 := e3; clear UV e0 e1 e2 e3)
            go_ret
            exact ⟨rfl, O7.out.trans UU.out⟩
          | true =>
            cases qd with
            | false =>
              cases qb with
              | false =>
                have tok1 : True := trivial
                go_upto_region 21 with (first | (go_at_call 13; have _t := tok1; clear tok1 _t; refine (HQa7.out _ UU.out).mono ?_; rintro e w8 ⟨rfl, u8⟩; have UV := hid (UU.out.trans u8); have e0 := u8.keep d0; have e1 := u8.keep d1; have e2 := u8.keep d2; have e3 := u8.keep d3; clear UU d0 d1 d2 d3 u8; have UU := UV; have d0 := e0; have d1 := e1; have d2 := e2; have d3 := e3; clear UV e0 e1 e2 e3) | (go_at_call 13; refine (HQb7.out _ UU.out).mono ?_; rintro e w8 ⟨rfl, u8⟩; have UV := hid (UU.out.trans u8); have e0 := u8.keep d0; have e1 := u8.keep d1; have e2 := u8.keep d2; have e3 := u8.keep d3; clear UU d0 d1 d2 d3 u8; have UU := UV; have d0 := e0; have d1 := e1; have d2 := e2; have d3 := e3; clear UV e0 e1 e2 e3))
                have tok2 : True := trivial
                go_wp2_with (first | (go_at_call 13; have _t := tok2; clear tok2 _t; refine (HQa7.out _ UU.out).mono ?_; rintro e w8 ⟨rfl, u8⟩; have UV := hid (UU.out.trans u8); have e0 := u8.keep d0; have e1 := u8.keep d1; have e2 := u8.keep d2; have e3 := u8.keep d3; clear UU d0 d1 d2 d3 u8; have UU := UV; have d0 := e0; have d1 := e1; have d2 := e2; have d3 := e3; clear UV e0 e1 e2 e3) | (go_at_call 13; refine (HQd.out _ UU.out).mono ?_; rintro e w8 ⟨rfl, u8⟩; have UV := hid (UU.out.trans u8); have e0 := u8.keep d0; have e1 := u8.keep d1; have e2 := u8.keep d2; have e3 := u8.keep d3; clear UU d0 d1 d2 d3 u8; have UU := UV; have d0 := e0; have d1 := e1; have d2 := e2; have d3 := e3; clear UV e0 e1 e2 e3))
                go_ret
                exact ⟨rfl, O7.out.trans UU.out⟩
              | true =>
                obtain rfl : cP = true := HOn2.out rfl rfl
                have tok1 : True := trivial
                go_upto_region 21 with (first | (go_at_call 13; have _t := tok1; clear tok1 _t; refine (HQa7.out _ UU.out).mono ?_; rintro e w8 ⟨rfl, u8⟩; have UV := hid (UU.out.trans u8); have e0 := u8.keep d0; have e1 := u8.keep d1; have e2 := u8.keep d2; have e3 := u8.keep d3; clear UU d0 d1 d2 d3 u8; have UU := UV; have d0 := e0; have d1 := e1; have d2 := e2; have d3 := e3; clear UV e0 e1 e2 e3) | (go_at_call 13; refine (HQb7.out _ UU.out).mono ?_; rintro e w8 ⟨rfl, u8⟩; have UV := hid (UU.out.trans u8); have e0 := u8.keep d0; have e1 := u8.keep d1; have e2 := u8.keep d2; have e3 := u8.keep d3; clear UU d0 d1 d2 d3 u8; have UU := UV; have d0 := e0; have d1 := e1; have d2 := e2; have d3 := e3; clear UV e0 e1 e2 e3))
                have tok2 : True := trivial
                go_wp2_with (first | (go_at_call 13; have _t := tok2; clear tok2 _t; refine (HQa7.out _ UU.out).mono ?_; rintro e w8 ⟨rfl, u8⟩; have UV := hid (UU.out.trans u8); have e0 := u8.keep d0; have e1 := u8.keep d1; have e2 := u8.keep d2; have e3 := u8.keep d3; clear UU d0 d1 d2 d3 u8; have UU := UV; have d0 := e0; have d1 := e1; have d2 := e2; have d3 := e3; clear UV e0 e1 e2 e3) | (go_at_call 13; refine (HQd.out _ UU.out).mono ?_; rintro e w8 ⟨rfl, u8⟩; have UV := hid (UU.out.trans u8); have e0 := u8.keep d0; have e1 := u8.keep d1; have e2 := u8.keep d2; have e3 := u8.keep d3; clear UU d0 d1 d2 d3 u8; have UU := UV; have d0 := e0; have d1 := e1; have d2 := e2; have d3 := e3; clear UV e0 e1 e2 e3))
                go_ret
                exact ⟨rfl, O7.out.trans UU.out⟩
            | true =>
              obtain rfl : cR = true := HRt.out rfl rfl
              cases qb with
              | false =>
                have tok1 : True := trivial
                go_upto_region 21 with (first | (go_at_call 13; have _t := tok1; clear tok1 _t; refine (HQa7.out _ UU.out).mono ?_; rintro e w8 ⟨rfl, u8⟩; have UV := hid (UU.out.trans u8); have e0 := u8.keep d0; have e1 := u8.keep d1; have e2 := u8.keep d2; have e3 := u8.keep d3; clear UU d0 d1 d2 d3 u8; have UU := UV; have d0 := e0; have d1 := e1; have d2 := e2; have d3 := e3; clear UV e0 e1 e2 e3) | (go_at_call 13; refine (HQb7.out _ UU.out).mono ?_; rintro e w8 ⟨rfl, u8⟩; have UV := hid (UU.out.trans u8); have e0 := u8.keep d0; have e1 := u8.keep d1; have e2 := u8.keep d2; have e3 := u8.keep d3; clear UU d0 d1 d2 d3 u8; have UU := UV; have d0 := e0; have d1 := e1; have d2 := e2; have d3 := e3; clear UV e0 e1 e2 e3))
                have tok2 : True := trivial
                go_wp2_with (first | (go_at_call 13; have _t := tok2; clear tok2 _t; refine (HQa7.out _ UU.out).mono ?_; rintro e w8 ⟨rfl, u8⟩; have UV := hid (UU.out.trans u8); have e0 := u8.keep d0; have e1 := u8.keep d1; have e2 := u8.keep d2; have e3 := u8.keep d3; clear UU d0 d1 d2 d3 u8; have UU := UV; have d0 := e0; have d1 := e1; have d2 := e2; have d3 := e3; clear UV e0 e1 e2 e3) | (go_at_call 13; refine (HQd.out _ UU.out).mono ?_; rintro e w8 ⟨rfl, u8⟩; have UV := hid (UU.out.trans u8); have e0 := u8.keep d0; have e1 := u8.keep d1; have e2 := u8.keep d2; have e3 := u8.keep d3; clear UU d0 d1 d2 d3 u8; have UU := UV; have d0 := e0; have d1 := e1; have d2 := e2; have d3 := e3; clear UV e0 e1 e2 e3))
                go_ret
                exact ⟨rfl, O7.out.trans UU.out⟩
              | true =>
                obtain rfl : cP = true := HOn2.out rfl rfl
                have tok1 : True := trivial
                go_upto_region 21 with (first | (go_at_call 13; have _t := tok1; clear tok1 _t; refine (HQa7.out _ UU.out).mono ?_; rintro e w8 ⟨rfl, u8⟩; have UV := hid (UU.out.trans u8); have e0 := u8.keep d0; have e1 := u8.keep d1; have e2 := u8.keep d2; have e3 := u8.keep d3; clear UU d0 d1 d2 d3 u8; have UU := UV; have d0 := e0; have d1 := e1; have d2 := e2; have d3 := e3; clear UV e0 e1 e2 e3) | (go_at_call 13; refine (HQb7.out _ UU.out).mono ?_; rintro e w8 ⟨rfl, u8⟩; have UV := hid (UU.out.trans u8); have e0 := u8.keep d0; have e1 := u8.keep d1; have e2 := u8.keep d2; have e3 := u8.keep d3; clear UU d0 d1 d2 d3 u8; have UU := UV; have d0 := e0; have d1 := e1; have d2 := e2; have d3 := e3; clear UV e0 e1 e2 e3))
                have tok2 : True := trivial
                go_wp2_with (first | (go_at_call 13; have _t := tok2; clear tok2 _t; refine (HQa7.out _ UU.out).mono ?_; rintro e w8 ⟨rfl, u8⟩; have UV := hid (UU.out.trans u8); have e0 := u8.keep d0; have e1 := u8.keep d1; have e2 := u8.keep d2; have e3 := u8.keep d3; clear UU d0 d1 d2 d3 u8; have UU := UV; have d0 := e0; have d1 := e1; have d2 := e2; have d3 := e3; clear UV e0 e1 e2 e3) | (go_at_call 13; refine (HQd.out _ UU.out).mono ?_; rintro e w8 ⟨rfl, u8⟩; have UV := hid (UU.out.trans u8); have e0 := u8.keep d0; have e1 := u8.keep d1; have e2 := u8.keep d2; have e3 := u8.keep d3; clear UU d0 d1 d2 d3 u8; have UU := UV; have d0 := e0; have d1 := e1; have d2 := e2; have d3 := e3; clear UV e0 e1 e2 e3))
                go_ret
                exact ⟨rfl, O7.out.trans UU.out⟩
        · have hF1 : (F != 0) = true := by simpa using hF
          clear HFF hF
          cases qa with
          | false =>
            go_upto_region 21 with (go_at_call 13; refine (HQa7.out _ UU.out).mono ?_; rintro e w8 ⟨rfl, u8⟩; have UV := hid (UU.out.trans u8); have e0 := u8.keep d0; have e1 := u8.keep d1; have e2 := u8.keep d2; have e3 := u8.keep d3; clear UU d0 d1 d2 d3 u8; have UU := UV; have d0 := e0; have d1 := e1; have d2 := e2; have d3 := e3; clear UV e0 e1 e2 e3)
            go_wp2
            go_ret
            exact ⟨rfl, O7.out.trans UU.out⟩
          | true =>
            cases qb with
            | false =>
              have tok1 : True := trivial
              go_upto_region 21 with (first | (go_at_call 13; have _t := tok1; clear tok1 _t; refine (HQa7.out _ UU.out).mono ?_; rintro e w8 ⟨rfl, u8⟩; have UV := hid (UU.out.trans u8); have e0 := u8.keep d0; have e1 := u8.keep d1; have e2 := u8.keep d2; have e3 := u8.keep d3; clear UU d0 d1 d2 d3 u8; have UU := UV; have d0 := e0; have d1 := e1; have d2 := e2; have d3 := e3; clear UV e0 e1 e2 e3) | (go_at_call 13; refine (HQb7.out _ UU.out).mono ?_; rintro e w8 ⟨rfl, u8⟩; have UV := hid (UU.out.trans u8); have e0 := u8.keep d0; have e1 := u8.keep d1; have e2 := u8.keep d2; have e3 := u8.keep d3; clear UU d0 d1 d2 d3 u8; have UU := UV; have d0 := e0; have d1 := e1; have d2 := e2; have d3 := e3; clear UV e0 e1 e2 e3))
              go_wp2
              go_ret
              exact ⟨rfl, O7.out.trans UU.out⟩
            | true =>
              obtain rfl : cP = true := HOn2.out rfl rfl
              have tok1 : True := trivial
              go_upto_region 21 with (first | (go_at_call 13; have _t := tok1; clear tok1 _t; refine (HQa7.out _ UU.out).mono ?_; rintro e w8 ⟨rfl, u8⟩; have UV := hid (UU.out.trans u8); have e0 := u8.keep d0; have e1 := u8.keep d1; have e2 := u8.keep d2; have e3 := u8.keep d3; clear UU d0 d1 d2 d3 u8; have UU := UV; have d0 := e0; have d1 := e1; have d2 := e2; have d3 := e3; clear UV e0 e1 e2 e3) | (go_at_call 13; refine (HQb7.out _ UU.out).mono ?_; rintro e w8 ⟨rfl, u8⟩; have UV := hid (UU.out.trans u8); have e0 := u8.keep d0; have e1 := u8.keep d1; have e2 := u8.keep d2; have e3 := u8.keep d3; clear UU d0 d1 d2 d3 u8; have UU := UV; have d0 := e0; have d1 := e1; have d2 := e2; have d3 := e3; clear UV e0 e1 e2 e3))
              go_wp2
              go_ret
              exact ⟨rfl, O7.out.trans UU.out⟩
end Go.Proofs.Ytcicefpcledmgaa
