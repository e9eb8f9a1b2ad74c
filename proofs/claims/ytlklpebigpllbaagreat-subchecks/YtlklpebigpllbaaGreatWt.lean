/- The document's Check at every submission; no condition. -/
import Derived.Test.YtlklpebigpllbaaGreatWr
namespace Go.Proofs.YtlklpebigpllbaaGreat
open Go.RowKit Go.Lib
set_option linter.unusedVariables false
set_option linter.unusedSimpArgs false
set_option maxRecDepth 20000
theorem ent_rsort (args : Array Value) (w : World) : (callFunc 17 args).run Tryz.prog w = .ok (.enter 17 args) w := by kernel_rfl
theorem ent_rsk (args : Array Value) (w : World) : (callFunc 16 args).run Tryz.prog w = .ok (.enter 16 args) w := by kernel_rfl
theorem ent_rnorm (args : Array Value) (w : World) : (callFunc 20 args).run Tryz.prog w = .ok (.enter 20 args) w := by kernel_rfl
theorem ent_rspans (args : Array Value) (w : World) : (callFunc 19 args).run Tryz.prog w = .ok (.enter 19 args) w := by kernel_rfl
theorem ent_rsame (args : Array Value) (w : World) : (callFunc 18 args).run Tryz.prog w = .ok (.enter 18 args) w := by kernel_rfl
theorem empty_cs (a b : Nat) (ha : Fl.W a) (hb : Fl.W b) (p q : Bool) : decide (Fl.rH a b p q < Fl.rL a b p q) = Fl.csE a b p q := by
  have hf := Fl.cs_isForm a b p q ha hb
  unfold Fl.rH Fl.rL
  cases he : Fl.csE a b p q
  · rw [he] at hf
    have := (hf.2.2.2 rfl).2.2.2.2
    simp; omega
  · simp
attribute [local go_sem] run_bits run_frombits run_store_float eqF
set_option maxHeartbeats 8000000 in
set_option maxRecDepth 20000 in
theorem refCheck_rest (s1 s2 s3 : Int) (a1 a2 a3 : Option Addr) (n1 n2 n3 c1 c2 c3 : Nat) (x1 x3 : Nat → Nat) (f2 : Nat → Sp) (w : World) (hm : misB s1 s2 s3 = false) (hc : crowdB n1 n2 n3 = false)
    (h1 : FRow w (.slice a1 n1 c1) n1 x1) (h2 : SRow w (.slice a2 n2 c2) n2 f2) (h3 : FRow w (.slice a3 n3 c3) n3 x3) :
    Calls Tryz.prog 6 #[.agg #[.int .i64 s1, .int .i64 s2, .int .i64 s3, .slice a1 n1 c1, .slice a2 n2 c2, .slice a3 n3 c3]] w fun e w' => e = .returned (.int .i64 (chkO false false (Fl.anyG (fun i => Fl.nan (x1 i)) n1 || Fl.anyG (fun i => Fl.nan (x3 i)) n3) (Fl.anyG (fun i => Fl.csE (f2 i).a (f2 i).b (f2 i).p (f2 i).q) n2) (ordF x1 n1 && ordS f2 n2 && ordF x3 n3))) ∧ Old w w' := by
  have h4 : ¬ s1 < 1 ∧ ¬ 1099511627776 < s1 ∧ ¬ s2 < 1 ∧ ¬ 1099511627776 < s2 ∧ ¬ s3 < 0 ∧ ¬ 1099511627776 < s3 := by
    unfold misB outB at hm; simp at hm; omega
  obtain ⟨t1, t2, t3, t4, t5, t6⟩ := h4
  have h5 : ¬ 16 < n1 ∧ ¬ 8 < n2 ∧ ¬ 16 < n3 := by unfold crowdB at hc; simp at hc; omega
  have b1 : n1 ≤ 16 := by omega
  have b2 : n2 ≤ 8 := by omega
  have b3 : n3 ≤ 16 := by omega
  have v1 : ¬ (16 : Int) < (n1 : Int) := by omega
  have v2 : ¬ (8 : Int) < (n2 : Int) := by omega
  have v3 : ¬ (16 : Int) < (n3 : Int) := by omega
  have hk2 := Fl.dfold_ok _ (Fl.cdl f2 n2) rfl (Fl.cdl_RV f2 n2 h2.ws)
  have hl2 : (Fl.dfold (Fl.cdl f2 n2)).length ≤ n2 := by have := hk2.2.2; have := Fl.cdl_len f2 n2; omega
  have hl1 := Fl.sortL_len x1 n1
  have hl3 := Fl.sortL_len x3 n3
  have HT1 := hid (fun (B : Nat) (W : World) v (h : FOwn B W v (Fl.sortL x1 n1)) => h.row (sortL_W x1 n1 h1.ws) (by omega))
  have HT3 := hid (fun (B : Nat) (W : World) v (h : FOwn B W v (Fl.sortL x3 n3)) => h.row (sortL_W x3 n3 h3.ws) (by omega))
  have HT2 := hid (show ∀ (B : Nat) (W : World) v, OwnS B W v ((Fl.dfold (Fl.cdl f2 n2)).map Fl.spo) → SRow W v (Fl.dfold (Fl.cdl f2 n2)).length (atS ((Fl.dfold (Fl.cdl f2 n2)).map Fl.spo)) from fun B W v h => by
    have q := h.row (fun s hs => by obtain ⟨r, hr, rfl⟩ := List.mem_map.1 hs; exact Fl.spo_W (hk2.1.2 r hr)) (by rw [List.length_map]; omega)
    rw [List.length_map] at q
    exact q)
  have HX2 := hid (fun v B W (h : OwnG B W v (Fl.dfold (Fl.cdl f2 n2))) => spans_any v B _ W h hk2.1.2 (by omega))
  have K1 := hid (fun W (hW : Old w W) => refNans_any _ _ _ W (h1.old hW))
  have K3 := hid (fun W (hW : Old w W) => refNans_any _ _ _ W (h3.old hW))
  have HSo1 := hid (fun (W : World) (u : Old w W) => sortR_any (.slice a1 n1 c1) n1 x1 (by omega) W (h1.old u))
  have HSo3 := hid (fun (W : World) (u : Old w W) => sortR_any (.slice a3 n3 c3) n3 x3 (by omega) W (h3.old u))
  have HNm := hid (fun (W : World) (u : Old w W) => refNorm_any (.slice a2 n2 c2) n2 f2 (by omega) W (h2.old u))
  have R1 := hid h1
  have R2 := hid h2
  have R3 := hid h3
  have HO1 := hid (show ordF x1 n1 = (decide (n1 = (Fl.sortL x1 n1).length) && Fl.sameU x1 (atN (Fl.sortL x1 n1)) n1) from rfl)
  have HO3 := hid (show ordF x3 n3 = (decide (n3 = (Fl.sortL x3 n3).length) && Fl.sameU x3 (atN (Fl.sortL x3 n3)) n3) from rfl)
  have HO2 := hid (show ordS f2 n2 = (decide (n2 = (Fl.dfold (Fl.cdl f2 n2)).length) && Fl.spU f2 (atS ((Fl.dfold (Fl.cdl f2 n2)).map Fl.spo)) n2) from rfl)
  have HZt := hid (fun i (hi : i < n2) (e : Fl.csE (f2 i).a (f2 i).b (f2 i).p (f2 i).q = true) => Fl.anyG_true (fun i => Fl.csE (f2 i).a (f2 i).b (f2 i).p (f2 i).q) n2 i hi e)
  have HZs := hid (Fl.anyG_step (fun i => Fl.csE (f2 i).a (f2 i).b (f2 i).p (f2 i).q))
  have HZd := hid (show Fl.anyG (fun i => Fl.csE (f2 i).a (f2 i).b (f2 i).p (f2 i).q) 0 = false from rfl)
  generalize hzg : Fl.anyG (fun i => Fl.csE (f2 i).a (f2 i).b (f2 i).p (f2 i).q) = zg at *
  clear hzg
  generalize hk1 : Fl.anyG (fun i => Fl.nan (x1 i)) n1 = k1 at *
  generalize hk3 : Fl.anyG (fun i => Fl.nan (x3 i)) n3 = k3 at *
  clear hk1 hk3 hm hc h5 h1 h2 h3 hk2 hl1 hl2 hl3 b1 b2 b3
  generalize ordF x1 n1 = o1 at *
  generalize ordF x3 n3 = o3 at *
  generalize ordS f2 n2 = o2 at *
  generalize Fl.sortL x1 n1 = L1 at *
  generalize Fl.sortL x3 n3 = L3 at *
  generalize Fl.dfold (Fl.cdl f2 n2) = D at *
  go_enter Tryz.func6, Tryz.ntmps6
  go_upto_region 1 with fail
  generalize hw1 : w.alloc (.cells #[.int .i64 s1, .int .i64 s2, .int .i64 s3, .slice a1 n1 c1, .slice a2 n2 c2, .slice a3 n3 c3] 25) = w1 at *
  generalize hsb : w.heap.size = sb at *
  obtain ⟨hS, hV⟩ := sub_new w s1 s2 s3 _ _ _ w1 hw1 sb hsb
  have HV := hid hV
  have HS := hid hS
  obtain ⟨f0, f1, f2', f3, f4, f5⟩ := hS
  clear hw1 hV hsb
  cases k1
  · cases k3
    · go_upto_region 7 with (first | (go_at_call_of 13 (Value.slice a1 n1 c1); refine (K1.out _ HV.out).mono ?_; rintro o w5 ⟨rfl, u5⟩; have U5 := hid (HV.out.trans u5); have B5 := hid (SubAt.old u5 HS.out); obtain ⟨_, _, _, g3, g4, g5⟩ := B5.out; clear u5) | (go_at_call_of 13 (Value.slice a3 n3 c3); refine (K3.out _ U5.out).mono ?_; rintro o w6 ⟨rfl, u6⟩; have U6 := hid (U5.out.trans u6); have B6 := hid (SubAt.old u6 B5.out); clear u6))
      clear f0 f1 f2' f3 f4 f5 g3 g4 g5 B5 U5 HS HV K1 K3 t1 t2 t3 t4 t5 t6 v1 v2 v3
      go_wp2
      go_loopw [3] (fun i wr => ∃ j : Nat, j ≤ n2 ∧ i = .int .i64 (j : Nat) ∧ zg j = false ∧ Old w6 wr) (fun i _ => n2 - (intOf i).toNat)
      case atStart => exact ⟨0, Nat.zero_le _, rfl, HZd.out, Old.refl _⟩
      case round =>
        obtain ⟨j, hj, rfl, hz, hu⟩ := hrel
        have HU := hid (U6.out.trans hu)
        have HU6 := hid hu
        have HZ := hid hz
        have BR := hid (SubAt.old hu B6.out)
        clear hz hu
        obtain ⟨g0, g1, g2, g3, g4, g5⟩ := BR.out
        by_cases hlt : j < n2
        · obtain ⟨_, a, c, hv, hcx⟩ := R2.out.old HU.out
          simp only [Value.slice.injEq] at hv
          obtain ⟨rfl, _, rfl⟩ := hv
          obtain ⟨b, off, ha, hWa, hWb, x0, x1', x2, x3'⟩ := hcx j hlt
          subst ha
          have HO := hid (fun W => rOf_any (f2 j).a (f2 j).b hWa hWb (f2 j).p (f2 j).q W)
          have HE0 := fun W => rEmpty_any (Fl.rL (f2 j).a (f2 j).b (f2 j).p (f2 j).q) (Fl.rH (f2 j).a (f2 j).b (f2 j).p (f2 j).q) W
          rw [empty_cs _ _ hWa hWb] at HE0
          have HE := hid HE0
          have l1 : (0 : Int) ≤ (j : Int) := by omega
          have l2 : (j : Int) < (n2 : Int) := by omega
          have HZt2 := hid (HZt.out j hlt)
          have HZs2 := hid (HZs.out j HZ.out)
          clear HE0 hcx hWa hWb
          generalize Fl.csE (f2 j).a (f2 j).b (f2 j).p (f2 j).q = ce at *
          generalize Fl.rL (f2 j).a (f2 j).b (f2 j).p (f2 j).q = RL at *
          generalize Fl.rH (f2 j).a (f2 j).b (f2 j).p (f2 j).q = RH at *
          generalize (f2 j).a = sa at *
          generalize (f2 j).b = sb' at *
          generalize (f2 j).p = sp at *
          generalize (f2 j).q = sq at *
          cases ce
          · have HZ2 := hid (HZs2.out rfl)
            clear HZs2 HZt2
            go_wp2_with (first | (go_at_call 15; refine (HO.out _).mono ?_; rintro o w7 ⟨rfl, u7⟩; have U7 := hid u7.old; clear u7) | (go_at_call 14; refine (HE.out _).mono ?_; rintro o w8 ⟨rfl, u8⟩; have U8 := hid (U7.out.trans u8.old); clear u8))
            go_roundw
            case rel => exact ⟨j + 1, hlt, by go_num, HZ2.out, HU6.out.trans U8.out⟩
            case measure => simp [intOf]; omega
          · have HZ2 := hid (HZt2.out rfl)
            clear HZs2 HZt2
            go_wp2_with (first | (go_at_call 15; refine (HO.out _).mono ?_; rintro o w7 ⟨rfl, u7⟩; have U7 := hid u7.old; clear u7) | (go_at_call 14; refine (HE.out _).mono ?_; rintro o w8 ⟨rfl, u8⟩; have U8 := hid (U7.out.trans u8.old); clear u8))
            go_ret
            exact ⟨by rw [HZ2.out]; rfl, HU.out.trans U8.out⟩
        · obtain rfl : j = n2 := by omega
          go_upto_region 12 with fail
          clear g0 g1 g2 g3 g4 g5 HZt HZs HZd
          cases o1
          · refine wp_region_noPanic ?_
            refine wp_region_held_drew (S := SubAt sb s1 s2 s3 (.slice a1 n1 c1) (.slice a2 j c2) (.slice a3 n3 c3)) (by kernel_rfl) ?_ (fun hHeld => ?_)
            · exact SubAt.old ((Old.refl wr).drew) BR.out
            (try simp only [Act.put]); (try simp only [List.setIfInBounds_toArray]); (try simp only [List.set_cons_succ]); (try simp only [List.set_cons_zero])
            clear hHeld
            refine wpAnyH_take (i := 0) (oi := { dst := some 70, op := Op.fieldAddr 25 (Operand.tmp 1) 3, type := 0, pos := "ref.go:48", after := #[], guard := none }) (v := ?vk1) rfl (by kernel_rfl) (by kernel_rfl) (by kernel_rfl) (fun _ _ _ h => h) (Or.inl ⟨by rfl, ?hk1⟩) (SubAt.old ((Old.refl wr).drew) BR.out) ?rk1
            case hk1 => (intro wz hSw; (try dsimp only at hSw); go_simp; try with_reducible rfl)
            (try simp only [Act.put]); (try simp only [List.setIfInBounds_toArray]); (try simp only [List.set_cons_succ]); (try simp only [List.set_cons_zero])
            refine wpAnyH_take (i := 1) (oi := { dst := some 71, op := Op.load 22 (Operand.tmp 70), type := 22, pos := "ref.go:48", after := #[{ on := 0, ground := Ground.data }], guard := none }) (v := ?vk2) rfl (by kernel_rfl) (by kernel_rfl) (by kernel_rfl) (fun _ _ _ h => h) (Or.inl ⟨by rfl, ?hk2⟩) (SubAt.old ((Old.refl wr).drew) BR.out) ?rk2
            case hk2 => (intro wz hSw; (try dsimp only at hSw); go_simp; try with_reducible rfl)
            (try simp only [Act.put]); (try simp only [List.setIfInBounds_toArray]); (try simp only [List.set_cons_succ]); (try simp only [List.set_cons_zero])
            refine wpAnyH_take (i := 2) (oi := { dst := some 72, op := Op.fieldAddr 25 (Operand.tmp 1) 3, type := 0, pos := "ref.go:48", after := #[], guard := none }) (v := ?vk3) rfl (by kernel_rfl) (by kernel_rfl) (by kernel_rfl) (fun _ _ _ h => h) (Or.inl ⟨by rfl, ?hk3⟩) (SubAt.old ((Old.refl wr).drew) BR.out) ?rk3
            case hk3 => (intro wz hSw; (try dsimp only at hSw); go_simp; try with_reducible rfl)
            (try simp only [Act.put]); (try simp only [List.setIfInBounds_toArray]); (try simp only [List.set_cons_succ]); (try simp only [List.set_cons_zero])
            refine wpAnyH_take (i := 3) (oi := { dst := some 73, op := Op.load 22 (Operand.tmp 72), type := 22, pos := "ref.go:48", after := #[{ on := 2, ground := Ground.data }], guard := none }) (v := ?vk4) rfl (by kernel_rfl) (by kernel_rfl) (by kernel_rfl) (fun _ _ _ h => h) (Or.inl ⟨by rfl, ?hk4⟩) (SubAt.old ((Old.refl wr).drew) BR.out) ?rk4
            case hk4 => (intro wz hSw; (try dsimp only at hSw); go_simp; try with_reducible rfl)
            (try simp only [Act.put]); (try simp only [List.setIfInBounds_toArray]); (try simp only [List.set_cons_succ]); (try simp only [List.set_cons_zero])
            refine wpAnyH_ready (rs := [4]) (by kernel_rfl) (by simp) ?_
            refine AllReadyH.cons (o := { dst := some 74, op := Op.call { callee := Callee.value (Operand.func 17), args := #[Operand.tmp 73], argTypes := #[22] }, type := 22, pos := "ref.go:48", after := #[{ on := 3, ground := Ground.data }], guard := none }) rfl (fun K hK => ?_) AllReadyH.nil
            refine wantCall1 ?_ 17 (.tmp 73) #[22] ?_ (.slice a1 n1 c1) ?_ ?_ (ent_rsort _ _) ?_
            · rfl
            · rfl
            · rfl
            · rfl
            refine (HSo1.out _ (HU.out.trans ((Old.refl wr).drew))).mono ?_
            rintro o x5 ⟨va, rfl, ra, ua⟩
            have U5 := ((Old.refl wr).drew).trans ua
            have HKa := hid (fun (W : World) (u : Old x5 W) => sameKeysG _ _ n1 L1.length x1 (atN L1) W (R1.out.old ((HU.out.trans U5).trans u)) ((HT1.out _ _ _ ra).old u))
            rw [← HO1.out] at HKa
            refine ⟨_, rfl, ?_⟩
            refine hK.out _ _ (SubAt.old U5 BR.out) (fun _ => ?_)
            clear hK K
            (try simp only [Act.put]); (try simp only [List.setIfInBounds_toArray]); (try simp only [List.set_cons_succ]); (try simp only [List.set_cons_zero])
            refine wpAnyH_ready (rs := [5]) (by kernel_rfl) (by simp) ?_
            refine AllReadyH.cons (o := { dst := some 75, op := Op.call { callee := Callee.value (Operand.func 16), args := #[Operand.tmp 71, Operand.tmp 74], argTypes := #[22, 22] }, type := 4, pos := "ref.go:48", after := #[{ on := 1, ground := Ground.data }, { on := 4, ground := Ground.data }, { on := 4, ground := Ground.chain }], guard := none }) rfl (fun K hK => ?_) AllReadyH.nil
            refine wantCall2 ?_ 16 (.tmp 71) (.tmp 74) #[22, 22] ?_ (.slice a1 n1 c1) (va) ?_ ?_ ?_ (ent_rsk _ _) ?_
            · rfl
            · rfl
            · rfl
            · rfl
            · rfl
            refine (HKa.out _ (Old.refl _)).mono ?_
            rintro o x6 ⟨rfl, b6⟩
            have U6 := U5.trans b6
            refine ⟨_, rfl, ?_⟩
            refine hK.out _ _ (SubAt.old U6 BR.out) (fun _ => ?_)
            clear hK K
            (try simp only [Act.put]); (try simp only [List.setIfInBounds_toArray]); (try simp only [List.set_cons_succ]); (try simp only [List.set_cons_zero])
            refine wpAnyH_take (i := 6) (oi := { dst := some 76, op := Op.unOp UnOp.not 4 (Operand.tmp 75), type := 4, pos := "ref.go:48", after := #[{ on := 5, ground := Ground.data }], guard := none }) (v := ?vk7) rfl (by kernel_rfl) (by kernel_rfl) (by kernel_rfl) (fun _ _ _ h => h) (Or.inl ⟨by rfl, ?hk7⟩) (SubAt.old U6 BR.out) ?rk7
            case hk7 => (intro wz hSw; (try dsimp only at hSw); go_simp; try with_reducible rfl)
            (try simp only [Act.put]); (try simp only [List.setIfInBounds_toArray]); (try simp only [List.set_cons_succ]); (try simp only [List.set_cons_zero])
            refine wpAnyH_take (i := 7) (oi := { dst := some 77, op := Op.move (Operand.tmp 76), type := 4, pos := "ref.go:48", after := #[{ on := 6, ground := Ground.data }, { on := 5, ground := Ground.chain }], guard := none }) (v := ?vk8) rfl (by kernel_rfl) (by kernel_rfl) (by kernel_rfl) (fun _ _ _ h => h) (Or.inl ⟨by rfl, ?hk8⟩) (SubAt.old U6 BR.out) ?rk8
            case hk8 => (intro wz hSw; (try dsimp only at hSw); go_simp; try with_reducible rfl)
            (try simp only [Act.put]); (try simp only [List.setIfInBounds_toArray]); (try simp only [List.set_cons_succ]); (try simp only [List.set_cons_zero])
            refine wpAnyH_take (i := 8) (oi := { dst := some 78, op := Op.fieldAddr 25 (Operand.tmp 1) 5, type := 0, pos := "ref.go:48", after := #[{ on := 7, ground := Ground.guard }], guard := some (7, false) }) (v := undef) rfl (by kernel_rfl) (by kernel_rfl) (by kernel_rfl) (fun _ _ _ h => h) (Or.inr ⟨by rfl, rfl⟩) (SubAt.old U6 BR.out) ?_
            (try simp only [Act.put]); (try simp only [List.setIfInBounds_toArray]); (try simp only [List.set_cons_succ]); (try simp only [List.set_cons_zero])
            refine wpAnyH_take (i := 9) (oi := { dst := some 79, op := Op.load 22 (Operand.tmp 78), type := 22, pos := "ref.go:48", after := #[{ on := 8, ground := Ground.data }, { on := 7, ground := Ground.guard }], guard := some (7, false) }) (v := undef) rfl (by kernel_rfl) (by kernel_rfl) (by kernel_rfl) (fun _ _ _ h => h) (Or.inr ⟨by rfl, rfl⟩) (SubAt.old U6 BR.out) ?_
            (try simp only [Act.put]); (try simp only [List.setIfInBounds_toArray]); (try simp only [List.set_cons_succ]); (try simp only [List.set_cons_zero])
            refine wpAnyH_take (i := 10) (oi := { dst := some 80, op := Op.fieldAddr 25 (Operand.tmp 1) 5, type := 0, pos := "ref.go:48", after := #[{ on := 7, ground := Ground.guard }], guard := some (7, false) }) (v := undef) rfl (by kernel_rfl) (by kernel_rfl) (by kernel_rfl) (fun _ _ _ h => h) (Or.inr ⟨by rfl, rfl⟩) (SubAt.old U6 BR.out) ?_
            (try simp only [Act.put]); (try simp only [List.setIfInBounds_toArray]); (try simp only [List.set_cons_succ]); (try simp only [List.set_cons_zero])
            refine wpAnyH_take (i := 11) (oi := { dst := some 81, op := Op.load 22 (Operand.tmp 80), type := 22, pos := "ref.go:48", after := #[{ on := 10, ground := Ground.data }, { on := 7, ground := Ground.guard }], guard := some (7, false) }) (v := undef) rfl (by kernel_rfl) (by kernel_rfl) (by kernel_rfl) (fun _ _ _ h => h) (Or.inr ⟨by rfl, rfl⟩) (SubAt.old U6 BR.out) ?_
            (try simp only [Act.put]); (try simp only [List.setIfInBounds_toArray]); (try simp only [List.set_cons_succ]); (try simp only [List.set_cons_zero])
            refine wpAnyH_take (i := 12) (oi := { dst := some 82, op := Op.call { callee := Callee.value (Operand.func 17), args := #[Operand.tmp 81], argTypes := #[22] }, type := 22, pos := "ref.go:48", after := #[{ on := 11, ground := Ground.data }, { on := 7, ground := Ground.chain }, { on := 7, ground := Ground.guard }], guard := some (7, false) }) (v := undef) rfl (by kernel_rfl) (by kernel_rfl) (by kernel_rfl) (fun _ _ _ h => h) (Or.inr ⟨by rfl, rfl⟩) (SubAt.old U6 BR.out) ?_
            (try simp only [Act.put]); (try simp only [List.setIfInBounds_toArray]); (try simp only [List.set_cons_succ]); (try simp only [List.set_cons_zero])
            refine wpAnyH_take (i := 13) (oi := { dst := some 83, op := Op.call { callee := Callee.value (Operand.func 16), args := #[Operand.tmp 79, Operand.tmp 82], argTypes := #[22, 22] }, type := 4, pos := "ref.go:48", after := #[{ on := 9, ground := Ground.data }, { on := 12, ground := Ground.data }, { on := 12, ground := Ground.chain }, { on := 7, ground := Ground.guard }], guard := some (7, false) }) (v := undef) rfl (by kernel_rfl) (by kernel_rfl) (by kernel_rfl) (fun _ _ _ h => h) (Or.inr ⟨by rfl, rfl⟩) (SubAt.old U6 BR.out) ?_
            (try simp only [Act.put]); (try simp only [List.setIfInBounds_toArray]); (try simp only [List.set_cons_succ]); (try simp only [List.set_cons_zero])
            refine wpAnyH_take (i := 14) (oi := { dst := some 84, op := Op.unOp UnOp.not 4 (Operand.tmp 83), type := 4, pos := "ref.go:48", after := #[{ on := 13, ground := Ground.data }, { on := 7, ground := Ground.guard }], guard := some (7, false) }) (v := undef) rfl (by kernel_rfl) (by kernel_rfl) (by kernel_rfl) (fun _ _ _ h => h) (Or.inr ⟨by rfl, rfl⟩) (SubAt.old U6 BR.out) ?_
            (try simp only [Act.put]); (try simp only [List.setIfInBounds_toArray]); (try simp only [List.set_cons_succ]); (try simp only [List.set_cons_zero])
            refine wpAnyH_take (i := 15) (oi := { dst := some 85, op := Op.pick (Operand.tmp 77) (Operand.const (Value.bool true)) (Operand.tmp 84), type := 4, pos := "ref.go:48", after := #[{ on := 7, ground := Ground.data }, { on := 14, ground := Ground.data }], guard := none }) (v := ?vk9) rfl (by kernel_rfl) (by kernel_rfl) (by kernel_rfl) (fun _ _ _ h => h) (Or.inl ⟨by rfl, ?hk9⟩) (SubAt.old U6 BR.out) ?rk9
            case hk9 => (intro wz hSw; (try dsimp only at hSw); go_simp; try with_reducible rfl)
            (try simp only [Act.put]); (try simp only [List.setIfInBounds_toArray]); (try simp only [List.set_cons_succ]); (try simp only [List.set_cons_zero])
            refine wpAnyH_take (i := 16) (oi := { dst := some 86, op := Op.move (Operand.tmp 85), type := 4, pos := "ref.go:48", after := #[{ on := 15, ground := Ground.data }, { on := 13, ground := Ground.chain }], guard := none }) (v := ?vk10) rfl (by kernel_rfl) (by kernel_rfl) (by kernel_rfl) (fun _ _ _ h => h) (Or.inl ⟨by rfl, ?hk10⟩) (SubAt.old U6 BR.out) ?rk10
            case hk10 => (intro wz hSw; (try dsimp only at hSw); go_simp; try with_reducible rfl)
            (try simp only [Act.put]); (try simp only [List.setIfInBounds_toArray]); (try simp only [List.set_cons_succ]); (try simp only [List.set_cons_zero])
            refine wpAnyH_take (i := 17) (oi := { dst := some 87, op := Op.fieldAddr 25 (Operand.tmp 1) 4, type := 0, pos := "ref.go:48", after := #[{ on := 16, ground := Ground.guard }], guard := some (16, false) }) (v := undef) rfl (by kernel_rfl) (by kernel_rfl) (by kernel_rfl) (fun _ _ _ h => h) (Or.inr ⟨by rfl, rfl⟩) (SubAt.old U6 BR.out) ?_
            (try simp only [Act.put]); (try simp only [List.setIfInBounds_toArray]); (try simp only [List.set_cons_succ]); (try simp only [List.set_cons_zero])
            refine wpAnyH_take (i := 18) (oi := { dst := some 88, op := Op.load 23 (Operand.tmp 87), type := 23, pos := "ref.go:48", after := #[{ on := 17, ground := Ground.data }, { on := 16, ground := Ground.guard }], guard := some (16, false) }) (v := undef) rfl (by kernel_rfl) (by kernel_rfl) (by kernel_rfl) (fun _ _ _ h => h) (Or.inr ⟨by rfl, rfl⟩) (SubAt.old U6 BR.out) ?_
            (try simp only [Act.put]); (try simp only [List.setIfInBounds_toArray]); (try simp only [List.set_cons_succ]); (try simp only [List.set_cons_zero])
            refine wpAnyH_take (i := 19) (oi := { dst := some 89, op := Op.fieldAddr 25 (Operand.tmp 1) 4, type := 0, pos := "ref.go:48", after := #[{ on := 16, ground := Ground.guard }], guard := some (16, false) }) (v := undef) rfl (by kernel_rfl) (by kernel_rfl) (by kernel_rfl) (fun _ _ _ h => h) (Or.inr ⟨by rfl, rfl⟩) (SubAt.old U6 BR.out) ?_
            (try simp only [Act.put]); (try simp only [List.setIfInBounds_toArray]); (try simp only [List.set_cons_succ]); (try simp only [List.set_cons_zero])
            refine wpAnyH_take (i := 20) (oi := { dst := some 90, op := Op.load 23 (Operand.tmp 89), type := 23, pos := "ref.go:48", after := #[{ on := 19, ground := Ground.data }, { on := 16, ground := Ground.guard }], guard := some (16, false) }) (v := undef) rfl (by kernel_rfl) (by kernel_rfl) (by kernel_rfl) (fun _ _ _ h => h) (Or.inr ⟨by rfl, rfl⟩) (SubAt.old U6 BR.out) ?_
            (try simp only [Act.put]); (try simp only [List.setIfInBounds_toArray]); (try simp only [List.set_cons_succ]); (try simp only [List.set_cons_zero])
            refine wpAnyH_take (i := 21) (oi := { dst := some 91, op := Op.call { callee := Callee.value (Operand.func 20), args := #[Operand.tmp 90], argTypes := #[23] }, type := 46, pos := "ref.go:48", after := #[{ on := 20, ground := Ground.data }, { on := 16, ground := Ground.chain }, { on := 16, ground := Ground.guard }], guard := some (16, false) }) (v := undef) rfl (by kernel_rfl) (by kernel_rfl) (by kernel_rfl) (fun _ _ _ h => h) (Or.inr ⟨by rfl, rfl⟩) (SubAt.old U6 BR.out) ?_
            (try simp only [Act.put]); (try simp only [List.setIfInBounds_toArray]); (try simp only [List.set_cons_succ]); (try simp only [List.set_cons_zero])
            refine wpAnyH_take (i := 22) (oi := { dst := some 92, op := Op.call { callee := Callee.value (Operand.func 19), args := #[Operand.tmp 91], argTypes := #[46] }, type := 23, pos := "ref.go:48", after := #[{ on := 21, ground := Ground.data }, { on := 21, ground := Ground.chain }, { on := 16, ground := Ground.guard }], guard := some (16, false) }) (v := undef) rfl (by kernel_rfl) (by kernel_rfl) (by kernel_rfl) (fun _ _ _ h => h) (Or.inr ⟨by rfl, rfl⟩) (SubAt.old U6 BR.out) ?_
            (try simp only [Act.put]); (try simp only [List.setIfInBounds_toArray]); (try simp only [List.set_cons_succ]); (try simp only [List.set_cons_zero])
            refine wpAnyH_take (i := 23) (oi := { dst := some 93, op := Op.call { callee := Callee.value (Operand.func 18), args := #[Operand.tmp 88, Operand.tmp 92], argTypes := #[23, 23] }, type := 4, pos := "ref.go:48", after := #[{ on := 18, ground := Ground.data }, { on := 22, ground := Ground.data }, { on := 22, ground := Ground.chain }, { on := 16, ground := Ground.guard }], guard := some (16, false) }) (v := undef) rfl (by kernel_rfl) (by kernel_rfl) (by kernel_rfl) (fun _ _ _ h => h) (Or.inr ⟨by rfl, rfl⟩) (SubAt.old U6 BR.out) ?_
            (try simp only [Act.put]); (try simp only [List.setIfInBounds_toArray]); (try simp only [List.set_cons_succ]); (try simp only [List.set_cons_zero])
            refine wpAnyH_take (i := 24) (oi := { dst := some 94, op := Op.unOp UnOp.not 4 (Operand.tmp 93), type := 4, pos := "ref.go:48", after := #[{ on := 23, ground := Ground.data }, { on := 16, ground := Ground.guard }], guard := some (16, false) }) (v := undef) rfl (by kernel_rfl) (by kernel_rfl) (by kernel_rfl) (fun _ _ _ h => h) (Or.inr ⟨by rfl, rfl⟩) (SubAt.old U6 BR.out) ?_
            (try simp only [Act.put]); (try simp only [List.setIfInBounds_toArray]); (try simp only [List.set_cons_succ]); (try simp only [List.set_cons_zero])
            refine wpAnyH_take (i := 25) (oi := { dst := some 95, op := Op.pick (Operand.tmp 86) (Operand.const (Value.bool true)) (Operand.tmp 94), type := 4, pos := "ref.go:48", after := #[{ on := 16, ground := Ground.data }, { on := 24, ground := Ground.data }], guard := none }) (v := ?vk11) rfl (by kernel_rfl) (by kernel_rfl) (by kernel_rfl) (fun _ _ _ h => h) (Or.inl ⟨by rfl, ?hk11⟩) (SubAt.old U6 BR.out) ?rk11
            case hk11 => (intro wz hSw; (try dsimp only at hSw); go_simp; try with_reducible rfl)
            (try simp only [Act.put]); (try simp only [List.setIfInBounds_toArray]); (try simp only [List.set_cons_succ]); (try simp only [List.set_cons_zero])
            refine wpAnyH_done (by kernel_rfl) ?_ _
            refine NoPanic.normal ?_
            have U9 := hid U6
            go_wp2
            go_ret
            exact ⟨by rw [HZ.out]; first | rfl | (rw [Bool.and_false]; rfl), HU.out.trans U9.out⟩
          · cases o3
            · refine wp_region_noPanic ?_
              refine wp_region_held_drew (S := SubAt sb s1 s2 s3 (.slice a1 n1 c1) (.slice a2 j c2) (.slice a3 n3 c3)) (by kernel_rfl) ?_ (fun hHeld => ?_)
              · exact SubAt.old ((Old.refl wr).drew) BR.out
              (try simp only [Act.put]); (try simp only [List.setIfInBounds_toArray]); (try simp only [List.set_cons_succ]); (try simp only [List.set_cons_zero])
              clear hHeld
              refine wpAnyH_take (i := 0) (oi := { dst := some 70, op := Op.fieldAddr 25 (Operand.tmp 1) 3, type := 0, pos := "ref.go:48", after := #[], guard := none }) (v := ?vk12) rfl (by kernel_rfl) (by kernel_rfl) (by kernel_rfl) (fun _ _ _ h => h) (Or.inl ⟨by rfl, ?hk12⟩) (SubAt.old ((Old.refl wr).drew) BR.out) ?rk12
              case hk12 => (intro wz hSw; (try dsimp only at hSw); go_simp; try with_reducible rfl)
              (try simp only [Act.put]); (try simp only [List.setIfInBounds_toArray]); (try simp only [List.set_cons_succ]); (try simp only [List.set_cons_zero])
              refine wpAnyH_take (i := 1) (oi := { dst := some 71, op := Op.load 22 (Operand.tmp 70), type := 22, pos := "ref.go:48", after := #[{ on := 0, ground := Ground.data }], guard := none }) (v := ?vk13) rfl (by kernel_rfl) (by kernel_rfl) (by kernel_rfl) (fun _ _ _ h => h) (Or.inl ⟨by rfl, ?hk13⟩) (SubAt.old ((Old.refl wr).drew) BR.out) ?rk13
              case hk13 => (intro wz hSw; (try dsimp only at hSw); go_simp; try with_reducible rfl)
              (try simp only [Act.put]); (try simp only [List.setIfInBounds_toArray]); (try simp only [List.set_cons_succ]); (try simp only [List.set_cons_zero])
              refine wpAnyH_take (i := 2) (oi := { dst := some 72, op := Op.fieldAddr 25 (Operand.tmp 1) 3, type := 0, pos := "ref.go:48", after := #[], guard := none }) (v := ?vk14) rfl (by kernel_rfl) (by kernel_rfl) (by kernel_rfl) (fun _ _ _ h => h) (Or.inl ⟨by rfl, ?hk14⟩) (SubAt.old ((Old.refl wr).drew) BR.out) ?rk14
              case hk14 => (intro wz hSw; (try dsimp only at hSw); go_simp; try with_reducible rfl)
              (try simp only [Act.put]); (try simp only [List.setIfInBounds_toArray]); (try simp only [List.set_cons_succ]); (try simp only [List.set_cons_zero])
              refine wpAnyH_take (i := 3) (oi := { dst := some 73, op := Op.load 22 (Operand.tmp 72), type := 22, pos := "ref.go:48", after := #[{ on := 2, ground := Ground.data }], guard := none }) (v := ?vk15) rfl (by kernel_rfl) (by kernel_rfl) (by kernel_rfl) (fun _ _ _ h => h) (Or.inl ⟨by rfl, ?hk15⟩) (SubAt.old ((Old.refl wr).drew) BR.out) ?rk15
              case hk15 => (intro wz hSw; (try dsimp only at hSw); go_simp; try with_reducible rfl)
              (try simp only [Act.put]); (try simp only [List.setIfInBounds_toArray]); (try simp only [List.set_cons_succ]); (try simp only [List.set_cons_zero])
              refine wpAnyH_ready (rs := [4]) (by kernel_rfl) (by simp) ?_
              refine AllReadyH.cons (o := { dst := some 74, op := Op.call { callee := Callee.value (Operand.func 17), args := #[Operand.tmp 73], argTypes := #[22] }, type := 22, pos := "ref.go:48", after := #[{ on := 3, ground := Ground.data }], guard := none }) rfl (fun K hK => ?_) AllReadyH.nil
              refine wantCall1 ?_ 17 (.tmp 73) #[22] ?_ (.slice a1 n1 c1) ?_ ?_ (ent_rsort _ _) ?_
              · rfl
              · rfl
              · rfl
              · rfl
              refine (HSo1.out _ (HU.out.trans ((Old.refl wr).drew))).mono ?_
              rintro o x16 ⟨va, rfl, ra, ua⟩
              have U16 := ((Old.refl wr).drew).trans ua
              have HKa := hid (fun (W : World) (u : Old x16 W) => sameKeysG _ _ n1 L1.length x1 (atN L1) W (R1.out.old ((HU.out.trans U16).trans u)) ((HT1.out _ _ _ ra).old u))
              rw [← HO1.out] at HKa
              refine ⟨_, rfl, ?_⟩
              refine hK.out _ _ (SubAt.old U16 BR.out) (fun _ => ?_)
              clear hK K
              (try simp only [Act.put]); (try simp only [List.setIfInBounds_toArray]); (try simp only [List.set_cons_succ]); (try simp only [List.set_cons_zero])
              refine wpAnyH_ready (rs := [5]) (by kernel_rfl) (by simp) ?_
              refine AllReadyH.cons (o := { dst := some 75, op := Op.call { callee := Callee.value (Operand.func 16), args := #[Operand.tmp 71, Operand.tmp 74], argTypes := #[22, 22] }, type := 4, pos := "ref.go:48", after := #[{ on := 1, ground := Ground.data }, { on := 4, ground := Ground.data }, { on := 4, ground := Ground.chain }], guard := none }) rfl (fun K hK => ?_) AllReadyH.nil
              refine wantCall2 ?_ 16 (.tmp 71) (.tmp 74) #[22, 22] ?_ (.slice a1 n1 c1) (va) ?_ ?_ ?_ (ent_rsk _ _) ?_
              · rfl
              · rfl
              · rfl
              · rfl
              · rfl
              refine (HKa.out _ (Old.refl _)).mono ?_
              rintro o x17 ⟨rfl, b17⟩
              have U17 := U16.trans b17
              refine ⟨_, rfl, ?_⟩
              refine hK.out _ _ (SubAt.old U17 BR.out) (fun _ => ?_)
              clear hK K
              (try simp only [Act.put]); (try simp only [List.setIfInBounds_toArray]); (try simp only [List.set_cons_succ]); (try simp only [List.set_cons_zero])
              refine wpAnyH_take (i := 6) (oi := { dst := some 76, op := Op.unOp UnOp.not 4 (Operand.tmp 75), type := 4, pos := "ref.go:48", after := #[{ on := 5, ground := Ground.data }], guard := none }) (v := ?vk18) rfl (by kernel_rfl) (by kernel_rfl) (by kernel_rfl) (fun _ _ _ h => h) (Or.inl ⟨by rfl, ?hk18⟩) (SubAt.old U17 BR.out) ?rk18
              case hk18 => (intro wz hSw; (try dsimp only at hSw); go_simp; try with_reducible rfl)
              (try simp only [Act.put]); (try simp only [List.setIfInBounds_toArray]); (try simp only [List.set_cons_succ]); (try simp only [List.set_cons_zero])
              refine wpAnyH_take (i := 7) (oi := { dst := some 77, op := Op.move (Operand.tmp 76), type := 4, pos := "ref.go:48", after := #[{ on := 6, ground := Ground.data }, { on := 5, ground := Ground.chain }], guard := none }) (v := ?vk19) rfl (by kernel_rfl) (by kernel_rfl) (by kernel_rfl) (fun _ _ _ h => h) (Or.inl ⟨by rfl, ?hk19⟩) (SubAt.old U17 BR.out) ?rk19
              case hk19 => (intro wz hSw; (try dsimp only at hSw); go_simp; try with_reducible rfl)
              (try simp only [Act.put]); (try simp only [List.setIfInBounds_toArray]); (try simp only [List.set_cons_succ]); (try simp only [List.set_cons_zero])
              refine wpAnyH_take (i := 8) (oi := { dst := some 78, op := Op.fieldAddr 25 (Operand.tmp 1) 5, type := 0, pos := "ref.go:48", after := #[{ on := 7, ground := Ground.guard }], guard := some (7, false) }) (v := ?vk20) rfl (by kernel_rfl) (by kernel_rfl) (by kernel_rfl) (fun _ _ _ h => h) (Or.inl ⟨by rfl, ?hk20⟩) (SubAt.old U17 BR.out) ?rk20
              case hk20 => (intro wz hSw; (try dsimp only at hSw); go_simp; try with_reducible rfl)
              (try simp only [Act.put]); (try simp only [List.setIfInBounds_toArray]); (try simp only [List.set_cons_succ]); (try simp only [List.set_cons_zero])
              refine wpAnyH_take (i := 9) (oi := { dst := some 79, op := Op.load 22 (Operand.tmp 78), type := 22, pos := "ref.go:48", after := #[{ on := 8, ground := Ground.data }, { on := 7, ground := Ground.guard }], guard := some (7, false) }) (v := ?vk21) rfl (by kernel_rfl) (by kernel_rfl) (by kernel_rfl) (fun _ _ _ h => h) (Or.inl ⟨by rfl, ?hk21⟩) (SubAt.old U17 BR.out) ?rk21
              case hk21 => (intro wz hSw; (try dsimp only at hSw); go_simp; try with_reducible rfl)
              (try simp only [Act.put]); (try simp only [List.setIfInBounds_toArray]); (try simp only [List.set_cons_succ]); (try simp only [List.set_cons_zero])
              refine wpAnyH_take (i := 10) (oi := { dst := some 80, op := Op.fieldAddr 25 (Operand.tmp 1) 5, type := 0, pos := "ref.go:48", after := #[{ on := 7, ground := Ground.guard }], guard := some (7, false) }) (v := ?vk22) rfl (by kernel_rfl) (by kernel_rfl) (by kernel_rfl) (fun _ _ _ h => h) (Or.inl ⟨by rfl, ?hk22⟩) (SubAt.old U17 BR.out) ?rk22
              case hk22 => (intro wz hSw; (try dsimp only at hSw); go_simp; try with_reducible rfl)
              (try simp only [Act.put]); (try simp only [List.setIfInBounds_toArray]); (try simp only [List.set_cons_succ]); (try simp only [List.set_cons_zero])
              refine wpAnyH_take (i := 11) (oi := { dst := some 81, op := Op.load 22 (Operand.tmp 80), type := 22, pos := "ref.go:48", after := #[{ on := 10, ground := Ground.data }, { on := 7, ground := Ground.guard }], guard := some (7, false) }) (v := ?vk23) rfl (by kernel_rfl) (by kernel_rfl) (by kernel_rfl) (fun _ _ _ h => h) (Or.inl ⟨by rfl, ?hk23⟩) (SubAt.old U17 BR.out) ?rk23
              case hk23 => (intro wz hSw; (try dsimp only at hSw); go_simp; try with_reducible rfl)
              (try simp only [Act.put]); (try simp only [List.setIfInBounds_toArray]); (try simp only [List.set_cons_succ]); (try simp only [List.set_cons_zero])
              refine wpAnyH_ready (rs := [12]) (by kernel_rfl) (by simp) ?_
              refine AllReadyH.cons (o := { dst := some 82, op := Op.call { callee := Callee.value (Operand.func 17), args := #[Operand.tmp 81], argTypes := #[22] }, type := 22, pos := "ref.go:48", after := #[{ on := 11, ground := Ground.data }, { on := 7, ground := Ground.chain }, { on := 7, ground := Ground.guard }], guard := some (7, false) }) rfl (fun K hK => ?_) AllReadyH.nil
              refine wantCall1 ?_ 17 (.tmp 81) #[22] ?_ (.slice a3 n3 c3) ?_ ?_ (ent_rsort _ _) ?_
              · rfl
              · rfl
              · rfl
              · rfl
              refine (HSo3.out _ (HU.out.trans U17)).mono ?_
              rintro o x24 ⟨vd, rfl, rd, ud⟩
              have U24 := U17.trans ud
              have HKd := hid (fun (W : World) (u : Old x24 W) => sameKeysG _ _ n3 L3.length x3 (atN L3) W (R3.out.old ((HU.out.trans U24).trans u)) ((HT3.out _ _ _ rd).old u))
              rw [← HO3.out] at HKd
              refine ⟨_, rfl, ?_⟩
              refine hK.out _ _ (SubAt.old U24 BR.out) (fun _ => ?_)
              clear hK K
              (try simp only [Act.put]); (try simp only [List.setIfInBounds_toArray]); (try simp only [List.set_cons_succ]); (try simp only [List.set_cons_zero])
              refine wpAnyH_ready (rs := [13]) (by kernel_rfl) (by simp) ?_
              refine AllReadyH.cons (o := { dst := some 83, op := Op.call { callee := Callee.value (Operand.func 16), args := #[Operand.tmp 79, Operand.tmp 82], argTypes := #[22, 22] }, type := 4, pos := "ref.go:48", after := #[{ on := 9, ground := Ground.data }, { on := 12, ground := Ground.data }, { on := 12, ground := Ground.chain }, { on := 7, ground := Ground.guard }], guard := some (7, false) }) rfl (fun K hK => ?_) AllReadyH.nil
              refine wantCall2 ?_ 16 (.tmp 79) (.tmp 82) #[22, 22] ?_ (.slice a3 n3 c3) (vd) ?_ ?_ ?_ (ent_rsk _ _) ?_
              · rfl
              · rfl
              · rfl
              · rfl
              · rfl
              refine (HKd.out _ (Old.refl _)).mono ?_
              rintro o x25 ⟨rfl, b25⟩
              have U25 := U24.trans b25
              refine ⟨_, rfl, ?_⟩
              refine hK.out _ _ (SubAt.old U25 BR.out) (fun _ => ?_)
              clear hK K
              (try simp only [Act.put]); (try simp only [List.setIfInBounds_toArray]); (try simp only [List.set_cons_succ]); (try simp only [List.set_cons_zero])
              refine wpAnyH_take (i := 14) (oi := { dst := some 84, op := Op.unOp UnOp.not 4 (Operand.tmp 83), type := 4, pos := "ref.go:48", after := #[{ on := 13, ground := Ground.data }, { on := 7, ground := Ground.guard }], guard := some (7, false) }) (v := ?vk26) rfl (by kernel_rfl) (by kernel_rfl) (by kernel_rfl) (fun _ _ _ h => h) (Or.inl ⟨by rfl, ?hk26⟩) (SubAt.old U25 BR.out) ?rk26
              case hk26 => (intro wz hSw; (try dsimp only at hSw); go_simp; try with_reducible rfl)
              (try simp only [Act.put]); (try simp only [List.setIfInBounds_toArray]); (try simp only [List.set_cons_succ]); (try simp only [List.set_cons_zero])
              refine wpAnyH_take (i := 15) (oi := { dst := some 85, op := Op.pick (Operand.tmp 77) (Operand.const (Value.bool true)) (Operand.tmp 84), type := 4, pos := "ref.go:48", after := #[{ on := 7, ground := Ground.data }, { on := 14, ground := Ground.data }], guard := none }) (v := ?vk27) rfl (by kernel_rfl) (by kernel_rfl) (by kernel_rfl) (fun _ _ _ h => h) (Or.inl ⟨by rfl, ?hk27⟩) (SubAt.old U25 BR.out) ?rk27
              case hk27 => (intro wz hSw; (try dsimp only at hSw); go_simp; try with_reducible rfl)
              (try simp only [Act.put]); (try simp only [List.setIfInBounds_toArray]); (try simp only [List.set_cons_succ]); (try simp only [List.set_cons_zero])
              refine wpAnyH_take (i := 16) (oi := { dst := some 86, op := Op.move (Operand.tmp 85), type := 4, pos := "ref.go:48", after := #[{ on := 15, ground := Ground.data }, { on := 13, ground := Ground.chain }], guard := none }) (v := ?vk28) rfl (by kernel_rfl) (by kernel_rfl) (by kernel_rfl) (fun _ _ _ h => h) (Or.inl ⟨by rfl, ?hk28⟩) (SubAt.old U25 BR.out) ?rk28
              case hk28 => (intro wz hSw; (try dsimp only at hSw); go_simp; try with_reducible rfl)
              (try simp only [Act.put]); (try simp only [List.setIfInBounds_toArray]); (try simp only [List.set_cons_succ]); (try simp only [List.set_cons_zero])
              refine wpAnyH_take (i := 17) (oi := { dst := some 87, op := Op.fieldAddr 25 (Operand.tmp 1) 4, type := 0, pos := "ref.go:48", after := #[{ on := 16, ground := Ground.guard }], guard := some (16, false) }) (v := undef) rfl (by kernel_rfl) (by kernel_rfl) (by kernel_rfl) (fun _ _ _ h => h) (Or.inr ⟨by rfl, rfl⟩) (SubAt.old U25 BR.out) ?_
              (try simp only [Act.put]); (try simp only [List.setIfInBounds_toArray]); (try simp only [List.set_cons_succ]); (try simp only [List.set_cons_zero])
              refine wpAnyH_take (i := 18) (oi := { dst := some 88, op := Op.load 23 (Operand.tmp 87), type := 23, pos := "ref.go:48", after := #[{ on := 17, ground := Ground.data }, { on := 16, ground := Ground.guard }], guard := some (16, false) }) (v := undef) rfl (by kernel_rfl) (by kernel_rfl) (by kernel_rfl) (fun _ _ _ h => h) (Or.inr ⟨by rfl, rfl⟩) (SubAt.old U25 BR.out) ?_
              (try simp only [Act.put]); (try simp only [List.setIfInBounds_toArray]); (try simp only [List.set_cons_succ]); (try simp only [List.set_cons_zero])
              refine wpAnyH_take (i := 19) (oi := { dst := some 89, op := Op.fieldAddr 25 (Operand.tmp 1) 4, type := 0, pos := "ref.go:48", after := #[{ on := 16, ground := Ground.guard }], guard := some (16, false) }) (v := undef) rfl (by kernel_rfl) (by kernel_rfl) (by kernel_rfl) (fun _ _ _ h => h) (Or.inr ⟨by rfl, rfl⟩) (SubAt.old U25 BR.out) ?_
              (try simp only [Act.put]); (try simp only [List.setIfInBounds_toArray]); (try simp only [List.set_cons_succ]); (try simp only [List.set_cons_zero])
              refine wpAnyH_take (i := 20) (oi := { dst := some 90, op := Op.load 23 (Operand.tmp 89), type := 23, pos := "ref.go:48", after := #[{ on := 19, ground := Ground.data }, { on := 16, ground := Ground.guard }], guard := some (16, false) }) (v := undef) rfl (by kernel_rfl) (by kernel_rfl) (by kernel_rfl) (fun _ _ _ h => h) (Or.inr ⟨by rfl, rfl⟩) (SubAt.old U25 BR.out) ?_
              (try simp only [Act.put]); (try simp only [List.setIfInBounds_toArray]); (try simp only [List.set_cons_succ]); (try simp only [List.set_cons_zero])
              refine wpAnyH_take (i := 21) (oi := { dst := some 91, op := Op.call { callee := Callee.value (Operand.func 20), args := #[Operand.tmp 90], argTypes := #[23] }, type := 46, pos := "ref.go:48", after := #[{ on := 20, ground := Ground.data }, { on := 16, ground := Ground.chain }, { on := 16, ground := Ground.guard }], guard := some (16, false) }) (v := undef) rfl (by kernel_rfl) (by kernel_rfl) (by kernel_rfl) (fun _ _ _ h => h) (Or.inr ⟨by rfl, rfl⟩) (SubAt.old U25 BR.out) ?_
              (try simp only [Act.put]); (try simp only [List.setIfInBounds_toArray]); (try simp only [List.set_cons_succ]); (try simp only [List.set_cons_zero])
              refine wpAnyH_take (i := 22) (oi := { dst := some 92, op := Op.call { callee := Callee.value (Operand.func 19), args := #[Operand.tmp 91], argTypes := #[46] }, type := 23, pos := "ref.go:48", after := #[{ on := 21, ground := Ground.data }, { on := 21, ground := Ground.chain }, { on := 16, ground := Ground.guard }], guard := some (16, false) }) (v := undef) rfl (by kernel_rfl) (by kernel_rfl) (by kernel_rfl) (fun _ _ _ h => h) (Or.inr ⟨by rfl, rfl⟩) (SubAt.old U25 BR.out) ?_
              (try simp only [Act.put]); (try simp only [List.setIfInBounds_toArray]); (try simp only [List.set_cons_succ]); (try simp only [List.set_cons_zero])
              refine wpAnyH_take (i := 23) (oi := { dst := some 93, op := Op.call { callee := Callee.value (Operand.func 18), args := #[Operand.tmp 88, Operand.tmp 92], argTypes := #[23, 23] }, type := 4, pos := "ref.go:48", after := #[{ on := 18, ground := Ground.data }, { on := 22, ground := Ground.data }, { on := 22, ground := Ground.chain }, { on := 16, ground := Ground.guard }], guard := some (16, false) }) (v := undef) rfl (by kernel_rfl) (by kernel_rfl) (by kernel_rfl) (fun _ _ _ h => h) (Or.inr ⟨by rfl, rfl⟩) (SubAt.old U25 BR.out) ?_
              (try simp only [Act.put]); (try simp only [List.setIfInBounds_toArray]); (try simp only [List.set_cons_succ]); (try simp only [List.set_cons_zero])
              refine wpAnyH_take (i := 24) (oi := { dst := some 94, op := Op.unOp UnOp.not 4 (Operand.tmp 93), type := 4, pos := "ref.go:48", after := #[{ on := 23, ground := Ground.data }, { on := 16, ground := Ground.guard }], guard := some (16, false) }) (v := undef) rfl (by kernel_rfl) (by kernel_rfl) (by kernel_rfl) (fun _ _ _ h => h) (Or.inr ⟨by rfl, rfl⟩) (SubAt.old U25 BR.out) ?_
              (try simp only [Act.put]); (try simp only [List.setIfInBounds_toArray]); (try simp only [List.set_cons_succ]); (try simp only [List.set_cons_zero])
              refine wpAnyH_take (i := 25) (oi := { dst := some 95, op := Op.pick (Operand.tmp 86) (Operand.const (Value.bool true)) (Operand.tmp 94), type := 4, pos := "ref.go:48", after := #[{ on := 16, ground := Ground.data }, { on := 24, ground := Ground.data }], guard := none }) (v := ?vk29) rfl (by kernel_rfl) (by kernel_rfl) (by kernel_rfl) (fun _ _ _ h => h) (Or.inl ⟨by rfl, ?hk29⟩) (SubAt.old U25 BR.out) ?rk29
              case hk29 => (intro wz hSw; (try dsimp only at hSw); go_simp; try with_reducible rfl)
              (try simp only [Act.put]); (try simp only [List.setIfInBounds_toArray]); (try simp only [List.set_cons_succ]); (try simp only [List.set_cons_zero])
              refine wpAnyH_done (by kernel_rfl) ?_ _
              refine NoPanic.normal ?_
              have U9 := hid U25
              go_wp2
              go_ret
              exact ⟨by rw [HZ.out]; first | rfl | (rw [Bool.and_false]; rfl), HU.out.trans U9.out⟩
            · cases o2
              · refine wp_region_noPanic ?_
                refine wp_region_held_drew (S := SubAt sb s1 s2 s3 (.slice a1 n1 c1) (.slice a2 j c2) (.slice a3 n3 c3)) (by kernel_rfl) ?_ (fun hHeld => ?_)
                · exact SubAt.old ((Old.refl wr).drew) BR.out
                (try simp only [Act.put]); (try simp only [List.setIfInBounds_toArray]); (try simp only [List.set_cons_succ]); (try simp only [List.set_cons_zero])
                clear hHeld
                refine wpAnyH_take (i := 0) (oi := { dst := some 70, op := Op.fieldAddr 25 (Operand.tmp 1) 3, type := 0, pos := "ref.go:48", after := #[], guard := none }) (v := ?vk30) rfl (by kernel_rfl) (by kernel_rfl) (by kernel_rfl) (fun _ _ _ h => h) (Or.inl ⟨by rfl, ?hk30⟩) (SubAt.old ((Old.refl wr).drew) BR.out) ?rk30
                case hk30 => (intro wz hSw; (try dsimp only at hSw); go_simp; try with_reducible rfl)
                (try simp only [Act.put]); (try simp only [List.setIfInBounds_toArray]); (try simp only [List.set_cons_succ]); (try simp only [List.set_cons_zero])
                refine wpAnyH_take (i := 1) (oi := { dst := some 71, op := Op.load 22 (Operand.tmp 70), type := 22, pos := "ref.go:48", after := #[{ on := 0, ground := Ground.data }], guard := none }) (v := ?vk31) rfl (by kernel_rfl) (by kernel_rfl) (by kernel_rfl) (fun _ _ _ h => h) (Or.inl ⟨by rfl, ?hk31⟩) (SubAt.old ((Old.refl wr).drew) BR.out) ?rk31
                case hk31 => (intro wz hSw; (try dsimp only at hSw); go_simp; try with_reducible rfl)
                (try simp only [Act.put]); (try simp only [List.setIfInBounds_toArray]); (try simp only [List.set_cons_succ]); (try simp only [List.set_cons_zero])
                refine wpAnyH_take (i := 2) (oi := { dst := some 72, op := Op.fieldAddr 25 (Operand.tmp 1) 3, type := 0, pos := "ref.go:48", after := #[], guard := none }) (v := ?vk32) rfl (by kernel_rfl) (by kernel_rfl) (by kernel_rfl) (fun _ _ _ h => h) (Or.inl ⟨by rfl, ?hk32⟩) (SubAt.old ((Old.refl wr).drew) BR.out) ?rk32
                case hk32 => (intro wz hSw; (try dsimp only at hSw); go_simp; try with_reducible rfl)
                (try simp only [Act.put]); (try simp only [List.setIfInBounds_toArray]); (try simp only [List.set_cons_succ]); (try simp only [List.set_cons_zero])
                refine wpAnyH_take (i := 3) (oi := { dst := some 73, op := Op.load 22 (Operand.tmp 72), type := 22, pos := "ref.go:48", after := #[{ on := 2, ground := Ground.data }], guard := none }) (v := ?vk33) rfl (by kernel_rfl) (by kernel_rfl) (by kernel_rfl) (fun _ _ _ h => h) (Or.inl ⟨by rfl, ?hk33⟩) (SubAt.old ((Old.refl wr).drew) BR.out) ?rk33
                case hk33 => (intro wz hSw; (try dsimp only at hSw); go_simp; try with_reducible rfl)
                (try simp only [Act.put]); (try simp only [List.setIfInBounds_toArray]); (try simp only [List.set_cons_succ]); (try simp only [List.set_cons_zero])
                refine wpAnyH_ready (rs := [4]) (by kernel_rfl) (by simp) ?_
                refine AllReadyH.cons (o := { dst := some 74, op := Op.call { callee := Callee.value (Operand.func 17), args := #[Operand.tmp 73], argTypes := #[22] }, type := 22, pos := "ref.go:48", after := #[{ on := 3, ground := Ground.data }], guard := none }) rfl (fun K hK => ?_) AllReadyH.nil
                refine wantCall1 ?_ 17 (.tmp 73) #[22] ?_ (.slice a1 n1 c1) ?_ ?_ (ent_rsort _ _) ?_
                · rfl
                · rfl
                · rfl
                · rfl
                refine (HSo1.out _ (HU.out.trans ((Old.refl wr).drew))).mono ?_
                rintro o x34 ⟨va, rfl, ra, ua⟩
                have U34 := ((Old.refl wr).drew).trans ua
                have HKa := hid (fun (W : World) (u : Old x34 W) => sameKeysG _ _ n1 L1.length x1 (atN L1) W (R1.out.old ((HU.out.trans U34).trans u)) ((HT1.out _ _ _ ra).old u))
                rw [← HO1.out] at HKa
                refine ⟨_, rfl, ?_⟩
                refine hK.out _ _ (SubAt.old U34 BR.out) (fun _ => ?_)
                clear hK K
                (try simp only [Act.put]); (try simp only [List.setIfInBounds_toArray]); (try simp only [List.set_cons_succ]); (try simp only [List.set_cons_zero])
                refine wpAnyH_ready (rs := [5]) (by kernel_rfl) (by simp) ?_
                refine AllReadyH.cons (o := { dst := some 75, op := Op.call { callee := Callee.value (Operand.func 16), args := #[Operand.tmp 71, Operand.tmp 74], argTypes := #[22, 22] }, type := 4, pos := "ref.go:48", after := #[{ on := 1, ground := Ground.data }, { on := 4, ground := Ground.data }, { on := 4, ground := Ground.chain }], guard := none }) rfl (fun K hK => ?_) AllReadyH.nil
                refine wantCall2 ?_ 16 (.tmp 71) (.tmp 74) #[22, 22] ?_ (.slice a1 n1 c1) (va) ?_ ?_ ?_ (ent_rsk _ _) ?_
                · rfl
                · rfl
                · rfl
                · rfl
                · rfl
                refine (HKa.out _ (Old.refl _)).mono ?_
                rintro o x35 ⟨rfl, b35⟩
                have U35 := U34.trans b35
                refine ⟨_, rfl, ?_⟩
                refine hK.out _ _ (SubAt.old U35 BR.out) (fun _ => ?_)
                clear hK K
                (try simp only [Act.put]); (try simp only [List.setIfInBounds_toArray]); (try simp only [List.set_cons_succ]); (try simp only [List.set_cons_zero])
                refine wpAnyH_take (i := 6) (oi := { dst := some 76, op := Op.unOp UnOp.not 4 (Operand.tmp 75), type := 4, pos := "ref.go:48", after := #[{ on := 5, ground := Ground.data }], guard := none }) (v := ?vk36) rfl (by kernel_rfl) (by kernel_rfl) (by kernel_rfl) (fun _ _ _ h => h) (Or.inl ⟨by rfl, ?hk36⟩) (SubAt.old U35 BR.out) ?rk36
                case hk36 => (intro wz hSw; (try dsimp only at hSw); go_simp; try with_reducible rfl)
                (try simp only [Act.put]); (try simp only [List.setIfInBounds_toArray]); (try simp only [List.set_cons_succ]); (try simp only [List.set_cons_zero])
                refine wpAnyH_take (i := 7) (oi := { dst := some 77, op := Op.move (Operand.tmp 76), type := 4, pos := "ref.go:48", after := #[{ on := 6, ground := Ground.data }, { on := 5, ground := Ground.chain }], guard := none }) (v := ?vk37) rfl (by kernel_rfl) (by kernel_rfl) (by kernel_rfl) (fun _ _ _ h => h) (Or.inl ⟨by rfl, ?hk37⟩) (SubAt.old U35 BR.out) ?rk37
                case hk37 => (intro wz hSw; (try dsimp only at hSw); go_simp; try with_reducible rfl)
                (try simp only [Act.put]); (try simp only [List.setIfInBounds_toArray]); (try simp only [List.set_cons_succ]); (try simp only [List.set_cons_zero])
                refine wpAnyH_take (i := 8) (oi := { dst := some 78, op := Op.fieldAddr 25 (Operand.tmp 1) 5, type := 0, pos := "ref.go:48", after := #[{ on := 7, ground := Ground.guard }], guard := some (7, false) }) (v := ?vk38) rfl (by kernel_rfl) (by kernel_rfl) (by kernel_rfl) (fun _ _ _ h => h) (Or.inl ⟨by rfl, ?hk38⟩) (SubAt.old U35 BR.out) ?rk38
                case hk38 => (intro wz hSw; (try dsimp only at hSw); go_simp; try with_reducible rfl)
                (try simp only [Act.put]); (try simp only [List.setIfInBounds_toArray]); (try simp only [List.set_cons_succ]); (try simp only [List.set_cons_zero])
                refine wpAnyH_take (i := 9) (oi := { dst := some 79, op := Op.load 22 (Operand.tmp 78), type := 22, pos := "ref.go:48", after := #[{ on := 8, ground := Ground.data }, { on := 7, ground := Ground.guard }], guard := some (7, false) }) (v := ?vk39) rfl (by kernel_rfl) (by kernel_rfl) (by kernel_rfl) (fun _ _ _ h => h) (Or.inl ⟨by rfl, ?hk39⟩) (SubAt.old U35 BR.out) ?rk39
                case hk39 => (intro wz hSw; (try dsimp only at hSw); go_simp; try with_reducible rfl)
                (try simp only [Act.put]); (try simp only [List.setIfInBounds_toArray]); (try simp only [List.set_cons_succ]); (try simp only [List.set_cons_zero])
                refine wpAnyH_take (i := 10) (oi := { dst := some 80, op := Op.fieldAddr 25 (Operand.tmp 1) 5, type := 0, pos := "ref.go:48", after := #[{ on := 7, ground := Ground.guard }], guard := some (7, false) }) (v := ?vk40) rfl (by kernel_rfl) (by kernel_rfl) (by kernel_rfl) (fun _ _ _ h => h) (Or.inl ⟨by rfl, ?hk40⟩) (SubAt.old U35 BR.out) ?rk40
                case hk40 => (intro wz hSw; (try dsimp only at hSw); go_simp; try with_reducible rfl)
                (try simp only [Act.put]); (try simp only [List.setIfInBounds_toArray]); (try simp only [List.set_cons_succ]); (try simp only [List.set_cons_zero])
                refine wpAnyH_take (i := 11) (oi := { dst := some 81, op := Op.load 22 (Operand.tmp 80), type := 22, pos := "ref.go:48", after := #[{ on := 10, ground := Ground.data }, { on := 7, ground := Ground.guard }], guard := some (7, false) }) (v := ?vk41) rfl (by kernel_rfl) (by kernel_rfl) (by kernel_rfl) (fun _ _ _ h => h) (Or.inl ⟨by rfl, ?hk41⟩) (SubAt.old U35 BR.out) ?rk41
                case hk41 => (intro wz hSw; (try dsimp only at hSw); go_simp; try with_reducible rfl)
                (try simp only [Act.put]); (try simp only [List.setIfInBounds_toArray]); (try simp only [List.set_cons_succ]); (try simp only [List.set_cons_zero])
                refine wpAnyH_ready (rs := [12]) (by kernel_rfl) (by simp) ?_
                refine AllReadyH.cons (o := { dst := some 82, op := Op.call { callee := Callee.value (Operand.func 17), args := #[Operand.tmp 81], argTypes := #[22] }, type := 22, pos := "ref.go:48", after := #[{ on := 11, ground := Ground.data }, { on := 7, ground := Ground.chain }, { on := 7, ground := Ground.guard }], guard := some (7, false) }) rfl (fun K hK => ?_) AllReadyH.nil
                refine wantCall1 ?_ 17 (.tmp 81) #[22] ?_ (.slice a3 n3 c3) ?_ ?_ (ent_rsort _ _) ?_
                · rfl
                · rfl
                · rfl
                · rfl
                refine (HSo3.out _ (HU.out.trans U35)).mono ?_
                rintro o x42 ⟨vd, rfl, rd, ud⟩
                have U42 := U35.trans ud
                have HKd := hid (fun (W : World) (u : Old x42 W) => sameKeysG _ _ n3 L3.length x3 (atN L3) W (R3.out.old ((HU.out.trans U42).trans u)) ((HT3.out _ _ _ rd).old u))
                rw [← HO3.out] at HKd
                refine ⟨_, rfl, ?_⟩
                refine hK.out _ _ (SubAt.old U42 BR.out) (fun _ => ?_)
                clear hK K
                (try simp only [Act.put]); (try simp only [List.setIfInBounds_toArray]); (try simp only [List.set_cons_succ]); (try simp only [List.set_cons_zero])
                refine wpAnyH_ready (rs := [13]) (by kernel_rfl) (by simp) ?_
                refine AllReadyH.cons (o := { dst := some 83, op := Op.call { callee := Callee.value (Operand.func 16), args := #[Operand.tmp 79, Operand.tmp 82], argTypes := #[22, 22] }, type := 4, pos := "ref.go:48", after := #[{ on := 9, ground := Ground.data }, { on := 12, ground := Ground.data }, { on := 12, ground := Ground.chain }, { on := 7, ground := Ground.guard }], guard := some (7, false) }) rfl (fun K hK => ?_) AllReadyH.nil
                refine wantCall2 ?_ 16 (.tmp 79) (.tmp 82) #[22, 22] ?_ (.slice a3 n3 c3) (vd) ?_ ?_ ?_ (ent_rsk _ _) ?_
                · rfl
                · rfl
                · rfl
                · rfl
                · rfl
                refine (HKd.out _ (Old.refl _)).mono ?_
                rintro o x43 ⟨rfl, b43⟩
                have U43 := U42.trans b43
                refine ⟨_, rfl, ?_⟩
                refine hK.out _ _ (SubAt.old U43 BR.out) (fun _ => ?_)
                clear hK K
                (try simp only [Act.put]); (try simp only [List.setIfInBounds_toArray]); (try simp only [List.set_cons_succ]); (try simp only [List.set_cons_zero])
                refine wpAnyH_take (i := 14) (oi := { dst := some 84, op := Op.unOp UnOp.not 4 (Operand.tmp 83), type := 4, pos := "ref.go:48", after := #[{ on := 13, ground := Ground.data }, { on := 7, ground := Ground.guard }], guard := some (7, false) }) (v := ?vk44) rfl (by kernel_rfl) (by kernel_rfl) (by kernel_rfl) (fun _ _ _ h => h) (Or.inl ⟨by rfl, ?hk44⟩) (SubAt.old U43 BR.out) ?rk44
                case hk44 => (intro wz hSw; (try dsimp only at hSw); go_simp; try with_reducible rfl)
                (try simp only [Act.put]); (try simp only [List.setIfInBounds_toArray]); (try simp only [List.set_cons_succ]); (try simp only [List.set_cons_zero])
                refine wpAnyH_take (i := 15) (oi := { dst := some 85, op := Op.pick (Operand.tmp 77) (Operand.const (Value.bool true)) (Operand.tmp 84), type := 4, pos := "ref.go:48", after := #[{ on := 7, ground := Ground.data }, { on := 14, ground := Ground.data }], guard := none }) (v := ?vk45) rfl (by kernel_rfl) (by kernel_rfl) (by kernel_rfl) (fun _ _ _ h => h) (Or.inl ⟨by rfl, ?hk45⟩) (SubAt.old U43 BR.out) ?rk45
                case hk45 => (intro wz hSw; (try dsimp only at hSw); go_simp; try with_reducible rfl)
                (try simp only [Act.put]); (try simp only [List.setIfInBounds_toArray]); (try simp only [List.set_cons_succ]); (try simp only [List.set_cons_zero])
                refine wpAnyH_take (i := 16) (oi := { dst := some 86, op := Op.move (Operand.tmp 85), type := 4, pos := "ref.go:48", after := #[{ on := 15, ground := Ground.data }, { on := 13, ground := Ground.chain }], guard := none }) (v := ?vk46) rfl (by kernel_rfl) (by kernel_rfl) (by kernel_rfl) (fun _ _ _ h => h) (Or.inl ⟨by rfl, ?hk46⟩) (SubAt.old U43 BR.out) ?rk46
                case hk46 => (intro wz hSw; (try dsimp only at hSw); go_simp; try with_reducible rfl)
                (try simp only [Act.put]); (try simp only [List.setIfInBounds_toArray]); (try simp only [List.set_cons_succ]); (try simp only [List.set_cons_zero])
                refine wpAnyH_take (i := 17) (oi := { dst := some 87, op := Op.fieldAddr 25 (Operand.tmp 1) 4, type := 0, pos := "ref.go:48", after := #[{ on := 16, ground := Ground.guard }], guard := some (16, false) }) (v := ?vk47) rfl (by kernel_rfl) (by kernel_rfl) (by kernel_rfl) (fun _ _ _ h => h) (Or.inl ⟨by rfl, ?hk47⟩) (SubAt.old U43 BR.out) ?rk47
                case hk47 => (intro wz hSw; (try dsimp only at hSw); go_simp; try with_reducible rfl)
                (try simp only [Act.put]); (try simp only [List.setIfInBounds_toArray]); (try simp only [List.set_cons_succ]); (try simp only [List.set_cons_zero])
                refine wpAnyH_take (i := 18) (oi := { dst := some 88, op := Op.load 23 (Operand.tmp 87), type := 23, pos := "ref.go:48", after := #[{ on := 17, ground := Ground.data }, { on := 16, ground := Ground.guard }], guard := some (16, false) }) (v := ?vk48) rfl (by kernel_rfl) (by kernel_rfl) (by kernel_rfl) (fun _ _ _ h => h) (Or.inl ⟨by rfl, ?hk48⟩) (SubAt.old U43 BR.out) ?rk48
                case hk48 => (intro wz hSw; (try dsimp only at hSw); go_simp; try with_reducible rfl)
                (try simp only [Act.put]); (try simp only [List.setIfInBounds_toArray]); (try simp only [List.set_cons_succ]); (try simp only [List.set_cons_zero])
                refine wpAnyH_take (i := 19) (oi := { dst := some 89, op := Op.fieldAddr 25 (Operand.tmp 1) 4, type := 0, pos := "ref.go:48", after := #[{ on := 16, ground := Ground.guard }], guard := some (16, false) }) (v := ?vk49) rfl (by kernel_rfl) (by kernel_rfl) (by kernel_rfl) (fun _ _ _ h => h) (Or.inl ⟨by rfl, ?hk49⟩) (SubAt.old U43 BR.out) ?rk49
                case hk49 => (intro wz hSw; (try dsimp only at hSw); go_simp; try with_reducible rfl)
                (try simp only [Act.put]); (try simp only [List.setIfInBounds_toArray]); (try simp only [List.set_cons_succ]); (try simp only [List.set_cons_zero])
                refine wpAnyH_take (i := 20) (oi := { dst := some 90, op := Op.load 23 (Operand.tmp 89), type := 23, pos := "ref.go:48", after := #[{ on := 19, ground := Ground.data }, { on := 16, ground := Ground.guard }], guard := some (16, false) }) (v := ?vk50) rfl (by kernel_rfl) (by kernel_rfl) (by kernel_rfl) (fun _ _ _ h => h) (Or.inl ⟨by rfl, ?hk50⟩) (SubAt.old U43 BR.out) ?rk50
                case hk50 => (intro wz hSw; (try dsimp only at hSw); go_simp; try with_reducible rfl)
                (try simp only [Act.put]); (try simp only [List.setIfInBounds_toArray]); (try simp only [List.set_cons_succ]); (try simp only [List.set_cons_zero])
                refine wpAnyH_ready (rs := [21]) (by kernel_rfl) (by simp) ?_
                refine AllReadyH.cons (o := { dst := some 91, op := Op.call { callee := Callee.value (Operand.func 20), args := #[Operand.tmp 90], argTypes := #[23] }, type := 46, pos := "ref.go:48", after := #[{ on := 20, ground := Ground.data }, { on := 16, ground := Ground.chain }, { on := 16, ground := Ground.guard }], guard := some (16, false) }) rfl (fun K hK => ?_) AllReadyH.nil
                refine wantCall1 ?_ 20 (.tmp 90) #[23] ?_ (.slice a2 j c2) ?_ ?_ (ent_rnorm _ _) ?_
                · rfl
                · rfl
                · rfl
                · rfl
                refine (HNm.out _ (HU.out.trans U43)).mono ?_
                rintro o x51 ⟨vf, rfl, rf, uf⟩
                have U51 := U43.trans uf
                have HSf := hid (fun (W : World) (u : Old x51 W) => HX2.out vf _ W (rf.old u))
                refine ⟨_, rfl, ?_⟩
                refine hK.out _ _ (SubAt.old U51 BR.out) (fun _ => ?_)
                clear hK K
                (try simp only [Act.put]); (try simp only [List.setIfInBounds_toArray]); (try simp only [List.set_cons_succ]); (try simp only [List.set_cons_zero])
                refine wpAnyH_ready (rs := [22]) (by kernel_rfl) (by simp) ?_
                refine AllReadyH.cons (o := { dst := some 92, op := Op.call { callee := Callee.value (Operand.func 19), args := #[Operand.tmp 91], argTypes := #[46] }, type := 23, pos := "ref.go:48", after := #[{ on := 21, ground := Ground.data }, { on := 21, ground := Ground.chain }, { on := 16, ground := Ground.guard }], guard := some (16, false) }) rfl (fun K hK => ?_) AllReadyH.nil
                refine wantCall1 ?_ 19 (.tmp 91) #[46] ?_ (vf) ?_ ?_ (ent_rspans _ _) ?_
                · rfl
                · rfl
                · rfl
                · rfl
                refine (HSf.out _ (Old.refl _)).mono ?_
                rintro o x52 ⟨vg, rfl, rg, ug⟩
                have U52 := U51.trans ug
                have HSg := hid (fun (W : World) (u : Old x52 W) => sameSpansG _ _ j D.length f2 (atS (D.map Fl.spo)) W (R2.out.old ((HU.out.trans U52).trans u)) ((HT2.out _ _ _ rg).old u))
                rw [← HO2.out] at HSg
                refine ⟨_, rfl, ?_⟩
                refine hK.out _ _ (SubAt.old U52 BR.out) (fun _ => ?_)
                clear hK K
                (try simp only [Act.put]); (try simp only [List.setIfInBounds_toArray]); (try simp only [List.set_cons_succ]); (try simp only [List.set_cons_zero])
                refine wpAnyH_ready (rs := [23]) (by kernel_rfl) (by simp) ?_
                refine AllReadyH.cons (o := { dst := some 93, op := Op.call { callee := Callee.value (Operand.func 18), args := #[Operand.tmp 88, Operand.tmp 92], argTypes := #[23, 23] }, type := 4, pos := "ref.go:48", after := #[{ on := 18, ground := Ground.data }, { on := 22, ground := Ground.data }, { on := 22, ground := Ground.chain }, { on := 16, ground := Ground.guard }], guard := some (16, false) }) rfl (fun K hK => ?_) AllReadyH.nil
                refine wantCall2 ?_ 18 (.tmp 88) (.tmp 92) #[23, 23] ?_ (.slice a2 j c2) (vg) ?_ ?_ ?_ (ent_rsame _ _) ?_
                · rfl
                · rfl
                · rfl
                · rfl
                · rfl
                refine (HSg.out _ (Old.refl _)).mono ?_
                rintro o x53 ⟨rfl, b53⟩
                have U53 := U52.trans b53
                refine ⟨_, rfl, ?_⟩
                refine hK.out _ _ (SubAt.old U53 BR.out) (fun _ => ?_)
                clear hK K
                (try simp only [Act.put]); (try simp only [List.setIfInBounds_toArray]); (try simp only [List.set_cons_succ]); (try simp only [List.set_cons_zero])
                refine wpAnyH_take (i := 24) (oi := { dst := some 94, op := Op.unOp UnOp.not 4 (Operand.tmp 93), type := 4, pos := "ref.go:48", after := #[{ on := 23, ground := Ground.data }, { on := 16, ground := Ground.guard }], guard := some (16, false) }) (v := ?vk54) rfl (by kernel_rfl) (by kernel_rfl) (by kernel_rfl) (fun _ _ _ h => h) (Or.inl ⟨by rfl, ?hk54⟩) (SubAt.old U53 BR.out) ?rk54
                case hk54 => (intro wz hSw; (try dsimp only at hSw); go_simp; try with_reducible rfl)
                (try simp only [Act.put]); (try simp only [List.setIfInBounds_toArray]); (try simp only [List.set_cons_succ]); (try simp only [List.set_cons_zero])
                refine wpAnyH_take (i := 25) (oi := { dst := some 95, op := Op.pick (Operand.tmp 86) (Operand.const (Value.bool true)) (Operand.tmp 94), type := 4, pos := "ref.go:48", after := #[{ on := 16, ground := Ground.data }, { on := 24, ground := Ground.data }], guard := none }) (v := ?vk55) rfl (by kernel_rfl) (by kernel_rfl) (by kernel_rfl) (fun _ _ _ h => h) (Or.inl ⟨by rfl, ?hk55⟩) (SubAt.old U53 BR.out) ?rk55
                case hk55 => (intro wz hSw; (try dsimp only at hSw); go_simp; try with_reducible rfl)
                (try simp only [Act.put]); (try simp only [List.setIfInBounds_toArray]); (try simp only [List.set_cons_succ]); (try simp only [List.set_cons_zero])
                refine wpAnyH_done (by kernel_rfl) ?_ _
                refine NoPanic.normal ?_
                have U9 := hid U53
                go_wp2
                go_ret
                exact ⟨by rw [HZ.out]; first | rfl | (rw [Bool.and_false]; rfl), HU.out.trans U9.out⟩
              · refine wp_region_noPanic ?_
                refine wp_region_held_drew (S := SubAt sb s1 s2 s3 (.slice a1 n1 c1) (.slice a2 j c2) (.slice a3 n3 c3)) (by kernel_rfl) ?_ (fun hHeld => ?_)
                · exact SubAt.old ((Old.refl wr).drew) BR.out
                (try simp only [Act.put]); (try simp only [List.setIfInBounds_toArray]); (try simp only [List.set_cons_succ]); (try simp only [List.set_cons_zero])
                clear hHeld
                refine wpAnyH_take (i := 0) (oi := { dst := some 70, op := Op.fieldAddr 25 (Operand.tmp 1) 3, type := 0, pos := "ref.go:48", after := #[], guard := none }) (v := ?vk56) rfl (by kernel_rfl) (by kernel_rfl) (by kernel_rfl) (fun _ _ _ h => h) (Or.inl ⟨by rfl, ?hk56⟩) (SubAt.old ((Old.refl wr).drew) BR.out) ?rk56
                case hk56 => (intro wz hSw; (try dsimp only at hSw); go_simp; try with_reducible rfl)
                (try simp only [Act.put]); (try simp only [List.setIfInBounds_toArray]); (try simp only [List.set_cons_succ]); (try simp only [List.set_cons_zero])
                refine wpAnyH_take (i := 1) (oi := { dst := some 71, op := Op.load 22 (Operand.tmp 70), type := 22, pos := "ref.go:48", after := #[{ on := 0, ground := Ground.data }], guard := none }) (v := ?vk57) rfl (by kernel_rfl) (by kernel_rfl) (by kernel_rfl) (fun _ _ _ h => h) (Or.inl ⟨by rfl, ?hk57⟩) (SubAt.old ((Old.refl wr).drew) BR.out) ?rk57
                case hk57 => (intro wz hSw; (try dsimp only at hSw); go_simp; try with_reducible rfl)
                (try simp only [Act.put]); (try simp only [List.setIfInBounds_toArray]); (try simp only [List.set_cons_succ]); (try simp only [List.set_cons_zero])
                refine wpAnyH_take (i := 2) (oi := { dst := some 72, op := Op.fieldAddr 25 (Operand.tmp 1) 3, type := 0, pos := "ref.go:48", after := #[], guard := none }) (v := ?vk58) rfl (by kernel_rfl) (by kernel_rfl) (by kernel_rfl) (fun _ _ _ h => h) (Or.inl ⟨by rfl, ?hk58⟩) (SubAt.old ((Old.refl wr).drew) BR.out) ?rk58
                case hk58 => (intro wz hSw; (try dsimp only at hSw); go_simp; try with_reducible rfl)
                (try simp only [Act.put]); (try simp only [List.setIfInBounds_toArray]); (try simp only [List.set_cons_succ]); (try simp only [List.set_cons_zero])
                refine wpAnyH_take (i := 3) (oi := { dst := some 73, op := Op.load 22 (Operand.tmp 72), type := 22, pos := "ref.go:48", after := #[{ on := 2, ground := Ground.data }], guard := none }) (v := ?vk59) rfl (by kernel_rfl) (by kernel_rfl) (by kernel_rfl) (fun _ _ _ h => h) (Or.inl ⟨by rfl, ?hk59⟩) (SubAt.old ((Old.refl wr).drew) BR.out) ?rk59
                case hk59 => (intro wz hSw; (try dsimp only at hSw); go_simp; try with_reducible rfl)
                (try simp only [Act.put]); (try simp only [List.setIfInBounds_toArray]); (try simp only [List.set_cons_succ]); (try simp only [List.set_cons_zero])
                refine wpAnyH_ready (rs := [4]) (by kernel_rfl) (by simp) ?_
                refine AllReadyH.cons (o := { dst := some 74, op := Op.call { callee := Callee.value (Operand.func 17), args := #[Operand.tmp 73], argTypes := #[22] }, type := 22, pos := "ref.go:48", after := #[{ on := 3, ground := Ground.data }], guard := none }) rfl (fun K hK => ?_) AllReadyH.nil
                refine wantCall1 ?_ 17 (.tmp 73) #[22] ?_ (.slice a1 n1 c1) ?_ ?_ (ent_rsort _ _) ?_
                · rfl
                · rfl
                · rfl
                · rfl
                refine (HSo1.out _ (HU.out.trans ((Old.refl wr).drew))).mono ?_
                rintro o x60 ⟨va, rfl, ra, ua⟩
                have U60 := ((Old.refl wr).drew).trans ua
                have HKa := hid (fun (W : World) (u : Old x60 W) => sameKeysG _ _ n1 L1.length x1 (atN L1) W (R1.out.old ((HU.out.trans U60).trans u)) ((HT1.out _ _ _ ra).old u))
                rw [← HO1.out] at HKa
                refine ⟨_, rfl, ?_⟩
                refine hK.out _ _ (SubAt.old U60 BR.out) (fun _ => ?_)
                clear hK K
                (try simp only [Act.put]); (try simp only [List.setIfInBounds_toArray]); (try simp only [List.set_cons_succ]); (try simp only [List.set_cons_zero])
                refine wpAnyH_ready (rs := [5]) (by kernel_rfl) (by simp) ?_
                refine AllReadyH.cons (o := { dst := some 75, op := Op.call { callee := Callee.value (Operand.func 16), args := #[Operand.tmp 71, Operand.tmp 74], argTypes := #[22, 22] }, type := 4, pos := "ref.go:48", after := #[{ on := 1, ground := Ground.data }, { on := 4, ground := Ground.data }, { on := 4, ground := Ground.chain }], guard := none }) rfl (fun K hK => ?_) AllReadyH.nil
                refine wantCall2 ?_ 16 (.tmp 71) (.tmp 74) #[22, 22] ?_ (.slice a1 n1 c1) (va) ?_ ?_ ?_ (ent_rsk _ _) ?_
                · rfl
                · rfl
                · rfl
                · rfl
                · rfl
                refine (HKa.out _ (Old.refl _)).mono ?_
                rintro o x61 ⟨rfl, b61⟩
                have U61 := U60.trans b61
                refine ⟨_, rfl, ?_⟩
                refine hK.out _ _ (SubAt.old U61 BR.out) (fun _ => ?_)
                clear hK K
                (try simp only [Act.put]); (try simp only [List.setIfInBounds_toArray]); (try simp only [List.set_cons_succ]); (try simp only [List.set_cons_zero])
                refine wpAnyH_take (i := 6) (oi := { dst := some 76, op := Op.unOp UnOp.not 4 (Operand.tmp 75), type := 4, pos := "ref.go:48", after := #[{ on := 5, ground := Ground.data }], guard := none }) (v := ?vk62) rfl (by kernel_rfl) (by kernel_rfl) (by kernel_rfl) (fun _ _ _ h => h) (Or.inl ⟨by rfl, ?hk62⟩) (SubAt.old U61 BR.out) ?rk62
                case hk62 => (intro wz hSw; (try dsimp only at hSw); go_simp; try with_reducible rfl)
                (try simp only [Act.put]); (try simp only [List.setIfInBounds_toArray]); (try simp only [List.set_cons_succ]); (try simp only [List.set_cons_zero])
                refine wpAnyH_take (i := 7) (oi := { dst := some 77, op := Op.move (Operand.tmp 76), type := 4, pos := "ref.go:48", after := #[{ on := 6, ground := Ground.data }, { on := 5, ground := Ground.chain }], guard := none }) (v := ?vk63) rfl (by kernel_rfl) (by kernel_rfl) (by kernel_rfl) (fun _ _ _ h => h) (Or.inl ⟨by rfl, ?hk63⟩) (SubAt.old U61 BR.out) ?rk63
                case hk63 => (intro wz hSw; (try dsimp only at hSw); go_simp; try with_reducible rfl)
                (try simp only [Act.put]); (try simp only [List.setIfInBounds_toArray]); (try simp only [List.set_cons_succ]); (try simp only [List.set_cons_zero])
                refine wpAnyH_take (i := 8) (oi := { dst := some 78, op := Op.fieldAddr 25 (Operand.tmp 1) 5, type := 0, pos := "ref.go:48", after := #[{ on := 7, ground := Ground.guard }], guard := some (7, false) }) (v := ?vk64) rfl (by kernel_rfl) (by kernel_rfl) (by kernel_rfl) (fun _ _ _ h => h) (Or.inl ⟨by rfl, ?hk64⟩) (SubAt.old U61 BR.out) ?rk64
                case hk64 => (intro wz hSw; (try dsimp only at hSw); go_simp; try with_reducible rfl)
                (try simp only [Act.put]); (try simp only [List.setIfInBounds_toArray]); (try simp only [List.set_cons_succ]); (try simp only [List.set_cons_zero])
                refine wpAnyH_take (i := 9) (oi := { dst := some 79, op := Op.load 22 (Operand.tmp 78), type := 22, pos := "ref.go:48", after := #[{ on := 8, ground := Ground.data }, { on := 7, ground := Ground.guard }], guard := some (7, false) }) (v := ?vk65) rfl (by kernel_rfl) (by kernel_rfl) (by kernel_rfl) (fun _ _ _ h => h) (Or.inl ⟨by rfl, ?hk65⟩) (SubAt.old U61 BR.out) ?rk65
                case hk65 => (intro wz hSw; (try dsimp only at hSw); go_simp; try with_reducible rfl)
                (try simp only [Act.put]); (try simp only [List.setIfInBounds_toArray]); (try simp only [List.set_cons_succ]); (try simp only [List.set_cons_zero])
                refine wpAnyH_take (i := 10) (oi := { dst := some 80, op := Op.fieldAddr 25 (Operand.tmp 1) 5, type := 0, pos := "ref.go:48", after := #[{ on := 7, ground := Ground.guard }], guard := some (7, false) }) (v := ?vk66) rfl (by kernel_rfl) (by kernel_rfl) (by kernel_rfl) (fun _ _ _ h => h) (Or.inl ⟨by rfl, ?hk66⟩) (SubAt.old U61 BR.out) ?rk66
                case hk66 => (intro wz hSw; (try dsimp only at hSw); go_simp; try with_reducible rfl)
                (try simp only [Act.put]); (try simp only [List.setIfInBounds_toArray]); (try simp only [List.set_cons_succ]); (try simp only [List.set_cons_zero])
                refine wpAnyH_take (i := 11) (oi := { dst := some 81, op := Op.load 22 (Operand.tmp 80), type := 22, pos := "ref.go:48", after := #[{ on := 10, ground := Ground.data }, { on := 7, ground := Ground.guard }], guard := some (7, false) }) (v := ?vk67) rfl (by kernel_rfl) (by kernel_rfl) (by kernel_rfl) (fun _ _ _ h => h) (Or.inl ⟨by rfl, ?hk67⟩) (SubAt.old U61 BR.out) ?rk67
                case hk67 => (intro wz hSw; (try dsimp only at hSw); go_simp; try with_reducible rfl)
                (try simp only [Act.put]); (try simp only [List.setIfInBounds_toArray]); (try simp only [List.set_cons_succ]); (try simp only [List.set_cons_zero])
                refine wpAnyH_ready (rs := [12]) (by kernel_rfl) (by simp) ?_
                refine AllReadyH.cons (o := { dst := some 82, op := Op.call { callee := Callee.value (Operand.func 17), args := #[Operand.tmp 81], argTypes := #[22] }, type := 22, pos := "ref.go:48", after := #[{ on := 11, ground := Ground.data }, { on := 7, ground := Ground.chain }, { on := 7, ground := Ground.guard }], guard := some (7, false) }) rfl (fun K hK => ?_) AllReadyH.nil
                refine wantCall1 ?_ 17 (.tmp 81) #[22] ?_ (.slice a3 n3 c3) ?_ ?_ (ent_rsort _ _) ?_
                · rfl
                · rfl
                · rfl
                · rfl
                refine (HSo3.out _ (HU.out.trans U61)).mono ?_
                rintro o x68 ⟨vd, rfl, rd, ud⟩
                have U68 := U61.trans ud
                have HKd := hid (fun (W : World) (u : Old x68 W) => sameKeysG _ _ n3 L3.length x3 (atN L3) W (R3.out.old ((HU.out.trans U68).trans u)) ((HT3.out _ _ _ rd).old u))
                rw [← HO3.out] at HKd
                refine ⟨_, rfl, ?_⟩
                refine hK.out _ _ (SubAt.old U68 BR.out) (fun _ => ?_)
                clear hK K
                (try simp only [Act.put]); (try simp only [List.setIfInBounds_toArray]); (try simp only [List.set_cons_succ]); (try simp only [List.set_cons_zero])
                refine wpAnyH_ready (rs := [13]) (by kernel_rfl) (by simp) ?_
                refine AllReadyH.cons (o := { dst := some 83, op := Op.call { callee := Callee.value (Operand.func 16), args := #[Operand.tmp 79, Operand.tmp 82], argTypes := #[22, 22] }, type := 4, pos := "ref.go:48", after := #[{ on := 9, ground := Ground.data }, { on := 12, ground := Ground.data }, { on := 12, ground := Ground.chain }, { on := 7, ground := Ground.guard }], guard := some (7, false) }) rfl (fun K hK => ?_) AllReadyH.nil
                refine wantCall2 ?_ 16 (.tmp 79) (.tmp 82) #[22, 22] ?_ (.slice a3 n3 c3) (vd) ?_ ?_ ?_ (ent_rsk _ _) ?_
                · rfl
                · rfl
                · rfl
                · rfl
                · rfl
                refine (HKd.out _ (Old.refl _)).mono ?_
                rintro o x69 ⟨rfl, b69⟩
                have U69 := U68.trans b69
                refine ⟨_, rfl, ?_⟩
                refine hK.out _ _ (SubAt.old U69 BR.out) (fun _ => ?_)
                clear hK K
                (try simp only [Act.put]); (try simp only [List.setIfInBounds_toArray]); (try simp only [List.set_cons_succ]); (try simp only [List.set_cons_zero])
                refine wpAnyH_take (i := 14) (oi := { dst := some 84, op := Op.unOp UnOp.not 4 (Operand.tmp 83), type := 4, pos := "ref.go:48", after := #[{ on := 13, ground := Ground.data }, { on := 7, ground := Ground.guard }], guard := some (7, false) }) (v := ?vk70) rfl (by kernel_rfl) (by kernel_rfl) (by kernel_rfl) (fun _ _ _ h => h) (Or.inl ⟨by rfl, ?hk70⟩) (SubAt.old U69 BR.out) ?rk70
                case hk70 => (intro wz hSw; (try dsimp only at hSw); go_simp; try with_reducible rfl)
                (try simp only [Act.put]); (try simp only [List.setIfInBounds_toArray]); (try simp only [List.set_cons_succ]); (try simp only [List.set_cons_zero])
                refine wpAnyH_take (i := 15) (oi := { dst := some 85, op := Op.pick (Operand.tmp 77) (Operand.const (Value.bool true)) (Operand.tmp 84), type := 4, pos := "ref.go:48", after := #[{ on := 7, ground := Ground.data }, { on := 14, ground := Ground.data }], guard := none }) (v := ?vk71) rfl (by kernel_rfl) (by kernel_rfl) (by kernel_rfl) (fun _ _ _ h => h) (Or.inl ⟨by rfl, ?hk71⟩) (SubAt.old U69 BR.out) ?rk71
                case hk71 => (intro wz hSw; (try dsimp only at hSw); go_simp; try with_reducible rfl)
                (try simp only [Act.put]); (try simp only [List.setIfInBounds_toArray]); (try simp only [List.set_cons_succ]); (try simp only [List.set_cons_zero])
                refine wpAnyH_take (i := 16) (oi := { dst := some 86, op := Op.move (Operand.tmp 85), type := 4, pos := "ref.go:48", after := #[{ on := 15, ground := Ground.data }, { on := 13, ground := Ground.chain }], guard := none }) (v := ?vk72) rfl (by kernel_rfl) (by kernel_rfl) (by kernel_rfl) (fun _ _ _ h => h) (Or.inl ⟨by rfl, ?hk72⟩) (SubAt.old U69 BR.out) ?rk72
                case hk72 => (intro wz hSw; (try dsimp only at hSw); go_simp; try with_reducible rfl)
                (try simp only [Act.put]); (try simp only [List.setIfInBounds_toArray]); (try simp only [List.set_cons_succ]); (try simp only [List.set_cons_zero])
                refine wpAnyH_take (i := 17) (oi := { dst := some 87, op := Op.fieldAddr 25 (Operand.tmp 1) 4, type := 0, pos := "ref.go:48", after := #[{ on := 16, ground := Ground.guard }], guard := some (16, false) }) (v := ?vk73) rfl (by kernel_rfl) (by kernel_rfl) (by kernel_rfl) (fun _ _ _ h => h) (Or.inl ⟨by rfl, ?hk73⟩) (SubAt.old U69 BR.out) ?rk73
                case hk73 => (intro wz hSw; (try dsimp only at hSw); go_simp; try with_reducible rfl)
                (try simp only [Act.put]); (try simp only [List.setIfInBounds_toArray]); (try simp only [List.set_cons_succ]); (try simp only [List.set_cons_zero])
                refine wpAnyH_take (i := 18) (oi := { dst := some 88, op := Op.load 23 (Operand.tmp 87), type := 23, pos := "ref.go:48", after := #[{ on := 17, ground := Ground.data }, { on := 16, ground := Ground.guard }], guard := some (16, false) }) (v := ?vk74) rfl (by kernel_rfl) (by kernel_rfl) (by kernel_rfl) (fun _ _ _ h => h) (Or.inl ⟨by rfl, ?hk74⟩) (SubAt.old U69 BR.out) ?rk74
                case hk74 => (intro wz hSw; (try dsimp only at hSw); go_simp; try with_reducible rfl)
                (try simp only [Act.put]); (try simp only [List.setIfInBounds_toArray]); (try simp only [List.set_cons_succ]); (try simp only [List.set_cons_zero])
                refine wpAnyH_take (i := 19) (oi := { dst := some 89, op := Op.fieldAddr 25 (Operand.tmp 1) 4, type := 0, pos := "ref.go:48", after := #[{ on := 16, ground := Ground.guard }], guard := some (16, false) }) (v := ?vk75) rfl (by kernel_rfl) (by kernel_rfl) (by kernel_rfl) (fun _ _ _ h => h) (Or.inl ⟨by rfl, ?hk75⟩) (SubAt.old U69 BR.out) ?rk75
                case hk75 => (intro wz hSw; (try dsimp only at hSw); go_simp; try with_reducible rfl)
                (try simp only [Act.put]); (try simp only [List.setIfInBounds_toArray]); (try simp only [List.set_cons_succ]); (try simp only [List.set_cons_zero])
                refine wpAnyH_take (i := 20) (oi := { dst := some 90, op := Op.load 23 (Operand.tmp 89), type := 23, pos := "ref.go:48", after := #[{ on := 19, ground := Ground.data }, { on := 16, ground := Ground.guard }], guard := some (16, false) }) (v := ?vk76) rfl (by kernel_rfl) (by kernel_rfl) (by kernel_rfl) (fun _ _ _ h => h) (Or.inl ⟨by rfl, ?hk76⟩) (SubAt.old U69 BR.out) ?rk76
                case hk76 => (intro wz hSw; (try dsimp only at hSw); go_simp; try with_reducible rfl)
                (try simp only [Act.put]); (try simp only [List.setIfInBounds_toArray]); (try simp only [List.set_cons_succ]); (try simp only [List.set_cons_zero])
                refine wpAnyH_ready (rs := [21]) (by kernel_rfl) (by simp) ?_
                refine AllReadyH.cons (o := { dst := some 91, op := Op.call { callee := Callee.value (Operand.func 20), args := #[Operand.tmp 90], argTypes := #[23] }, type := 46, pos := "ref.go:48", after := #[{ on := 20, ground := Ground.data }, { on := 16, ground := Ground.chain }, { on := 16, ground := Ground.guard }], guard := some (16, false) }) rfl (fun K hK => ?_) AllReadyH.nil
                refine wantCall1 ?_ 20 (.tmp 90) #[23] ?_ (.slice a2 j c2) ?_ ?_ (ent_rnorm _ _) ?_
                · rfl
                · rfl
                · rfl
                · rfl
                refine (HNm.out _ (HU.out.trans U69)).mono ?_
                rintro o x77 ⟨vf, rfl, rf, uf⟩
                have U77 := U69.trans uf
                have HSf := hid (fun (W : World) (u : Old x77 W) => HX2.out vf _ W (rf.old u))
                refine ⟨_, rfl, ?_⟩
                refine hK.out _ _ (SubAt.old U77 BR.out) (fun _ => ?_)
                clear hK K
                (try simp only [Act.put]); (try simp only [List.setIfInBounds_toArray]); (try simp only [List.set_cons_succ]); (try simp only [List.set_cons_zero])
                refine wpAnyH_ready (rs := [22]) (by kernel_rfl) (by simp) ?_
                refine AllReadyH.cons (o := { dst := some 92, op := Op.call { callee := Callee.value (Operand.func 19), args := #[Operand.tmp 91], argTypes := #[46] }, type := 23, pos := "ref.go:48", after := #[{ on := 21, ground := Ground.data }, { on := 21, ground := Ground.chain }, { on := 16, ground := Ground.guard }], guard := some (16, false) }) rfl (fun K hK => ?_) AllReadyH.nil
                refine wantCall1 ?_ 19 (.tmp 91) #[46] ?_ (vf) ?_ ?_ (ent_rspans _ _) ?_
                · rfl
                · rfl
                · rfl
                · rfl
                refine (HSf.out _ (Old.refl _)).mono ?_
                rintro o x78 ⟨vg, rfl, rg, ug⟩
                have U78 := U77.trans ug
                have HSg := hid (fun (W : World) (u : Old x78 W) => sameSpansG _ _ j D.length f2 (atS (D.map Fl.spo)) W (R2.out.old ((HU.out.trans U78).trans u)) ((HT2.out _ _ _ rg).old u))
                rw [← HO2.out] at HSg
                refine ⟨_, rfl, ?_⟩
                refine hK.out _ _ (SubAt.old U78 BR.out) (fun _ => ?_)
                clear hK K
                (try simp only [Act.put]); (try simp only [List.setIfInBounds_toArray]); (try simp only [List.set_cons_succ]); (try simp only [List.set_cons_zero])
                refine wpAnyH_ready (rs := [23]) (by kernel_rfl) (by simp) ?_
                refine AllReadyH.cons (o := { dst := some 93, op := Op.call { callee := Callee.value (Operand.func 18), args := #[Operand.tmp 88, Operand.tmp 92], argTypes := #[23, 23] }, type := 4, pos := "ref.go:48", after := #[{ on := 18, ground := Ground.data }, { on := 22, ground := Ground.data }, { on := 22, ground := Ground.chain }, { on := 16, ground := Ground.guard }], guard := some (16, false) }) rfl (fun K hK => ?_) AllReadyH.nil
                refine wantCall2 ?_ 18 (.tmp 88) (.tmp 92) #[23, 23] ?_ (.slice a2 j c2) (vg) ?_ ?_ ?_ (ent_rsame _ _) ?_
                · rfl
                · rfl
                · rfl
                · rfl
                · rfl
                refine (HSg.out _ (Old.refl _)).mono ?_
                rintro o x79 ⟨rfl, b79⟩
                have U79 := U78.trans b79
                refine ⟨_, rfl, ?_⟩
                refine hK.out _ _ (SubAt.old U79 BR.out) (fun _ => ?_)
                clear hK K
                (try simp only [Act.put]); (try simp only [List.setIfInBounds_toArray]); (try simp only [List.set_cons_succ]); (try simp only [List.set_cons_zero])
                refine wpAnyH_take (i := 24) (oi := { dst := some 94, op := Op.unOp UnOp.not 4 (Operand.tmp 93), type := 4, pos := "ref.go:48", after := #[{ on := 23, ground := Ground.data }, { on := 16, ground := Ground.guard }], guard := some (16, false) }) (v := ?vk80) rfl (by kernel_rfl) (by kernel_rfl) (by kernel_rfl) (fun _ _ _ h => h) (Or.inl ⟨by rfl, ?hk80⟩) (SubAt.old U79 BR.out) ?rk80
                case hk80 => (intro wz hSw; (try dsimp only at hSw); go_simp; try with_reducible rfl)
                (try simp only [Act.put]); (try simp only [List.setIfInBounds_toArray]); (try simp only [List.set_cons_succ]); (try simp only [List.set_cons_zero])
                refine wpAnyH_take (i := 25) (oi := { dst := some 95, op := Op.pick (Operand.tmp 86) (Operand.const (Value.bool true)) (Operand.tmp 94), type := 4, pos := "ref.go:48", after := #[{ on := 16, ground := Ground.data }, { on := 24, ground := Ground.data }], guard := none }) (v := ?vk81) rfl (by kernel_rfl) (by kernel_rfl) (by kernel_rfl) (fun _ _ _ h => h) (Or.inl ⟨by rfl, ?hk81⟩) (SubAt.old U79 BR.out) ?rk81
                case hk81 => (intro wz hSw; (try dsimp only at hSw); go_simp; try with_reducible rfl)
                (try simp only [Act.put]); (try simp only [List.setIfInBounds_toArray]); (try simp only [List.set_cons_succ]); (try simp only [List.set_cons_zero])
                refine wpAnyH_done (by kernel_rfl) ?_ _
                refine NoPanic.normal ?_
                have U9 := hid U79
                go_wp2
                go_ret
                exact ⟨by rw [HZ.out]; first | rfl | (rw [Bool.and_false]; rfl), HU.out.trans U9.out⟩
    · go_wp2_with (first | (go_at_call_of 13 (Value.slice a1 n1 c1); refine (K1.out _ HV.out).mono ?_; rintro o w5 ⟨rfl, u5⟩; have U5 := hid (HV.out.trans u5); have B5 := hid (SubAt.old u5 HS.out); obtain ⟨_, _, _, g3, g4, g5⟩ := B5.out; clear u5) | (go_at_call_of 13 (Value.slice a3 n3 c3); refine (K3.out _ U5.out).mono ?_; rintro o w6 ⟨rfl, u6⟩; have U6 := hid (U5.out.trans u6); have B6 := hid (SubAt.old u6 B5.out); clear u6))
      go_ret
      exact ⟨rfl, U6.out⟩
  · go_wp2_with (first | (go_at_call_of 13 (Value.slice a1 n1 c1); refine (K1.out _ HV.out).mono ?_; rintro o w5 ⟨rfl, u5⟩; have U5 := hid (HV.out.trans u5); have B5 := hid (SubAt.old u5 HS.out); obtain ⟨_, _, _, g3, g4, g5⟩ := B5.out; clear u5))
    go_ret
    exact ⟨rfl, U5.out⟩
theorem refChk_any (s1 s2 s3 : Int) (a1 a2 a3 : Option Addr) (n1 n2 n3 c1 c2 c3 : Nat) (x1 x3 : Nat → Nat) (f2 : Nat → Sp) (w : World)
    (h1 : FRow w (.slice a1 n1 c1) n1 x1) (h2 : SRow w (.slice a2 n2 c2) n2 f2) (h3 : FRow w (.slice a3 n3 c3) n3 x3) :
    Calls Tryz.prog 6 #[.agg #[.int .i64 s1, .int .i64 s2, .int .i64 s3, .slice a1 n1 c1, .slice a2 n2 c2, .slice a3 n3 c3]] w fun e w' => e = .returned (.int .i64 (chkV s1 s2 s3 n1 n2 n3 x1 x3 f2)) ∧ Old w w' := by
  cases hm : misB s1 s2 s3
  · cases hc : crowdB n1 n2 n3
    · have q := refCheck_rest s1 s2 s3 a1 a2 a3 n1 n2 n3 c1 c2 c3 x1 x3 f2 w hm hc h1 h2 h3
      unfold chkV
      rw [hm, hc]
      exact q
    · have q := refCheck_early s1 s2 s3 a1 a2 a3 n1 n2 n3 c1 c2 c3 w (.inr ⟨hm, hc⟩)
      unfold chkV
      rw [hm, hc]
      rw [hm] at q
      exact q
  · have q := refCheck_early s1 s2 s3 a1 a2 a3 n1 n2 n3 c1 c2 c3 w (.inl hm)
    unfold chkV
    rw [hm]
    rw [hm] at q
    exact q
end Go.Proofs.YtlklpebigpllbaaGreat
