/- The law HardWhole's walk; conditions: the table is laid. -/
import Derived.Test.YtdjlkmghdpmdiaaDoorG7l
namespace Go.Proofs.YtdjlkmghdpmdiaaDoor
open Go.RowKit Go.Lib Go.ChangeShapes Go.WideShapes
set_option linter.unusedVariables false
set_option linter.unusedSimpArgs false
set_option maxRecDepth 20000
theorem box5 (w : World) (k1 t1 v1 n1 k2 t2 v2 n2 : Int) (c1 c2 : Value) : let W := (w.alloc (.cells #[.int .i64 k1, .int .i64 t1, .int .i64 v1, .int .i64 n1, c1] 36)).alloc (.cells #[.int .i64 k2, .int .i64 t2, .int .i64 v2, .int .i64 n2, c2] 36)
    W.cell? ⟨w.heap.size, 1, none⟩ = some (.int .i64 t1) ∧ W.cell? ⟨w.heap.size, 2, none⟩ = some (.int .i64 v1) ∧ W.cell? ⟨w.heap.size + 1, 1, none⟩ = some (.int .i64 t2) ∧ W.cell? ⟨w.heap.size + 1, 2, none⟩ = some (.int .i64 v2) := by
  intro W
  have h1 : W.heap[w.heap.size]? = some (.cells #[.int .i64 k1, .int .i64 t1, .int .i64 v1, .int .i64 n1, c1] 36) := by
    show ((w.heap.push _).push _)[w.heap.size]? = _
    rw [Array.getElem?_push, if_neg (by simp), Array.getElem?_push, if_pos rfl]
  have h2 : W.heap[w.heap.size + 1]? = some (.cells #[.int .i64 k2, .int .i64 t2, .int .i64 v2, .int .i64 n2, c2] 36) := by
    show ((w.heap.push _).push _)[w.heap.size + 1]? = _
    rw [Array.getElem?_push, if_pos (by simp)]
  exact ⟨by rw [Go.Joins.cell_of_block h1]; rfl, by rw [Go.Joins.cell_of_block h1]; rfl, by rw [Go.Joins.cell_of_block h2]; rfl, by rw [Go.Joins.cell_of_block h2]; rfl⟩
theorem C4.old {a b : Nat} {x y z u : Value} {w w' : World} (o : Old w w') (h : w.cell? ⟨a, 1, none⟩ = some x ∧ w.cell? ⟨a, 2, none⟩ = some y ∧ w.cell? ⟨b, 1, none⟩ = some z ∧ w.cell? ⟨b, 2, none⟩ = some u) : w'.cell? ⟨a, 1, none⟩ = some x ∧ w'.cell? ⟨a, 2, none⟩ = some y ∧ w'.cell? ⟨b, 1, none⟩ = some z ∧ w'.cell? ⟨b, 2, none⟩ = some u := ⟨o.keep h.1, o.keep h.2.1, o.keep h.2.2.1, o.keep h.2.2.2⟩
theorem C4.one {a b : Nat} {x y z u : Value} {w : World} (h : w.cell? ⟨a, 1, none⟩ = some x ∧ w.cell? ⟨a, 2, none⟩ = some y ∧ w.cell? ⟨b, 1, none⟩ = some z ∧ w.cell? ⟨b, 2, none⟩ = some u) : w.cell? ⟨a, 1, none⟩ = some x ∧ w.cell? ⟨a, 2, none⟩ = some y := ⟨h.1, h.2.1⟩
theorem C4.two {a b : Nat} {x y z u : Value} {w : World} (h : w.cell? ⟨a, 1, none⟩ = some x ∧ w.cell? ⟨a, 2, none⟩ = some y ∧ w.cell? ⟨b, 1, none⟩ = some z ∧ w.cell? ⟨b, 2, none⟩ = some u) : w.cell? ⟨b, 1, none⟩ = some z ∧ w.cell? ⟨b, 2, none⟩ = some u := h.2.2
theorem S2.old {a : Nat} {x y : Value} {w w' : World} (o : Old w w') (h : w.cell? ⟨a, 1, none⟩ = some x ∧ w.cell? ⟨a, 2, none⟩ = some y) : w'.cell? ⟨a, 1, none⟩ = some x ∧ w'.cell? ⟨a, 2, none⟩ = some y := ⟨o.keep h.1, o.keep h.2⟩
set_option maxHeartbeats 16000000 in
set_option maxRecDepth 20000 in
theorem wholeLaw (k1 t1 v1 n1 k2 t2 v2 n2 n0 : Int) (c1 c2 vk : Value) (kp : List Bool) (w : World) (ht : Pk.Tab w) (hK : BArg w vk kp) (r1 : -9223372036854775808 ≤ t1 ∧ t1 ≤ 9223372036854775807) (r2 : -9223372036854775808 ≤ v1 ∧ v1 ≤ 9223372036854775807) (r3 : -9223372036854775808 ≤ t2 ∧ t2 ≤ 9223372036854775807) (r4 : -9223372036854775808 ≤ v2 ∧ v2 ≤ 9223372036854775807) : Calls Tryd.prog 4 #[.agg #[.int .i64 k1, .int .i64 t1, .int .i64 v1, .int .i64 n1, c1], .agg #[.int .i64 k2, .int .i64 t2, .int .i64 v2, .int .i64 n2, c2], .int .i64 n0, vk] w fun e w' => e = .returned (.bool true) ∧ Old w w' := by
  have HTw := hid ht
  have HK := hid hK
  have HR := hid (And.intro r1 (And.intro r2 (And.intro r3 r4)))
  have HA := hid op_zero
  obtain ⟨M, hM, eM⟩ := and_mask n0 7 (by omega)
  have eM : bits .and .i64 n0 7 = (M : Int) := eM
  have HMb := hid hM
  have HMx := hid (show max (0 : Int) (M : Int) = (M : Int) from by omega)
  clear ht hK r1 r2 r3 r4 hM
  cases hr : rgt t1 v1 with
  | false =>
    have HS := hid (st_wrong (p := pd0) (t := t1) (v := v1) (t0 := 0) (v0 := 0) hr)
    clear hr
    go_enter Tryd.func4, Tryd.ntmps4
    go_upto_region 1 with (fail)
    obtain ⟨W0, hW⟩ : ∃ W0, W0 = (w.alloc (.cells #[.int .i64 k1, .int .i64 t1, .int .i64 v1, .int .i64 n1, c1] 36)).alloc (.cells #[.int .i64 k2, .int .i64 t2, .int .i64 v2, .int .i64 n2, c2] 36) := ⟨_, rfl⟩
    have HC := hid (box5 w k1 t1 v1 n1 k2 t2 v2 n2 c1 c2)
    have U0 := hid (((Old.refl w).alloc (.cells #[.int .i64 k1, .int .i64 t1, .int .i64 v1, .int .i64 n1, c1] 36)).alloc (.cells #[.int .i64 k2, .int .i64 t2, .int .i64 v2, .int .i64 n2, c2] 36))
    rw [← hW] at HC U0 ⊢
    have HT := hid (HTw.out.up U0.out)
    clear hW HTw
    generalize w.heap.size = g at *
    go_upto_region 5 with (first | (go_at_call 6; refine (newD W0 _ (Old.refl _)).mono ?_; rintro e w1 ⟨db, rfl, dd1, _⟩; have D1 := hid dd1; clear dd1) | (go_at_call 7; refine (alive_any _ (HT.out.up D1.out.base)).mono ?_; rintro e w1b ⟨rfl, u1⟩; have D1b := hid (D1.out.old u1); clear u1) | (go_at_call 8; refine (open_ok W0 _ db pd0 [] D1b.out HT.out HA.out.1).mono ?_; rintro e w2 ⟨hb, rfl, d2, b2, l2, -⟩; rw [HA.out.2.1] at d2; rw [HA.out.2.2] at b2; have D2 := hid d2; have B2 := hid b2; have L2 := hid l2; clear d2 b2 l2))
    go_upto_region 7 with (fail)
    clear D1 D1b
    obtain ⟨x1, x2, -, -⟩ := C4.old D2.out.base HC.out
    go_wp2_with (first | (go_at_call 10; refine (save_any W0 _ db hb pd0 ([] ++ [hb]) t1 v1 0 0 D2.out (by simp) B2.out L2.out HT.out HR.out.1 HR.out.2.1).mono ?_; rintro e w3 ⟨rfl, d3, b3⟩; rw [HS.out.1]; rw [HS.out.2.1] at d3; rw [HS.out.2.2] at b3; have D3 := hid d3; have B3 := hid b3; clear d3 b3) | (go_at_call 12; refine (term_any hb _ 0 0 _ B3.out).mono ?_; rintro e w8 ⟨rfl, hw⟩; have hw2 := hw.symm; subst hw2; clear hw) | (go_at_call 13; refine (vote_any hb _ 0 0 _ B3.out).mono ?_; rintro e w8 ⟨rfl, hw⟩; have hw2 := hw.symm; subst hw2; clear hw))
    go_ret
    exact ⟨rfl, U0.out.trans D3.out.base⟩
  | true =>
    obtain ⟨fs, e1, e2, e3, hT, hl, hh⟩ := whole1 hr
    have HS := hid (And.intro e1 (And.intro e2 e3))
    have e4 := whole2 hT hl hh t2 v2 (M : Int) (by omega)
    clear hr e1 e2 e3 hT hl hh
    rcases e4 with ⟨e4, hg⟩ | ⟨e4, hg⟩ | ⟨e4, hg⟩
    · skip
      have H4 := hid e4
      have HG := hid hg
      clear e4 hg
      go_enter Tryd.func4, Tryd.ntmps4
      go_upto_region 1 with (fail)
      obtain ⟨W0, hW⟩ : ∃ W0, W0 = (w.alloc (.cells #[.int .i64 k1, .int .i64 t1, .int .i64 v1, .int .i64 n1, c1] 36)).alloc (.cells #[.int .i64 k2, .int .i64 t2, .int .i64 v2, .int .i64 n2, c2] 36) := ⟨_, rfl⟩
      have HC := hid (box5 w k1 t1 v1 n1 k2 t2 v2 n2 c1 c2)
      have U0 := hid (((Old.refl w).alloc (.cells #[.int .i64 k1, .int .i64 t1, .int .i64 v1, .int .i64 n1, c1] 36)).alloc (.cells #[.int .i64 k2, .int .i64 t2, .int .i64 v2, .int .i64 n2, c2] 36))
      rw [← hW] at HC U0 ⊢
      have HT := hid (HTw.out.up U0.out)
      clear hW HTw
      generalize w.heap.size = g at *
      go_upto_region 5 with (first | (go_at_call 6; refine (newD W0 _ (Old.refl _)).mono ?_; rintro e w1 ⟨db, rfl, dd1, _⟩; have D1 := hid dd1; clear dd1) | (go_at_call 7; refine (alive_any _ (HT.out.up D1.out.base)).mono ?_; rintro e w1b ⟨rfl, u1⟩; have D1b := hid (D1.out.old u1); clear u1) | (go_at_call 8; refine (open_ok W0 _ db pd0 [] D1b.out HT.out HA.out.1).mono ?_; rintro e w2 ⟨hb, rfl, d2, b2, l2, -⟩; rw [HA.out.2.1] at d2; rw [HA.out.2.2] at b2; have D2 := hid d2; have B2 := hid b2; have L2 := hid l2; clear d2 b2 l2))
      go_upto_region 7 with (fail)
      clear D1 D1b
      obtain ⟨x1, x2, -, -⟩ := C4.old D2.out.base HC.out
      go_upto_region 9 with (go_at_call 10; refine (save_any W0 _ db hb pd0 ([] ++ [hb]) t1 v1 0 0 D2.out (by simp) B2.out L2.out HT.out HR.out.1 HR.out.2.1).mono ?_; rintro e w3 ⟨rfl, d3, b3⟩; rw [HS.out.1]; rw [HS.out.2.1] at d3; rw [HS.out.2.2] at b3; have D3 := hid d3; have B3 := hid b3; clear d3 b3)
      clear x1 x2 D2 B2 HS
      go_upto_region 10 with (go_at_call 9; refine (failD W0 _ db _ _ _ D3.out (by have := HMb.out; omega)).mono ?_; rintro e w4 ⟨rfl, d4, k4⟩; rw [HMx.out] at d4; have D4 := hid (show Dsk W0 w4 db ⟨fs, false, (M : Int)⟩ ([] ++ [hb]) from d4); have B4 := hid (k4.at (by simp) B3.out); clear d4 k4)
      clear D3 B3
      obtain ⟨-, -, x3, x4⟩ := C4.old D4.out.base HC.out
      go_upto_region 11 with (go_at_call 10; refine (save_any W0 _ db hb _ ([] ++ [hb]) t2 v2 t1 v1 D4.out (by simp) B4.out L2.out HT.out HR.out.2.2.1 HR.out.2.2.2).mono ?_; rintro e w5 ⟨rfl, d5, -⟩; rw [H4.out]; have D5 := hid d5; clear d5)
      clear x3 x4 D4 B4 H4
      generalize saveP ⟨fs, false, (M : Int)⟩ t2 v2 t1 v1 = q0 at *
      go_upto_region 12 with (go_at_call 14; refine (crashD W0 _ db q0 ([] ++ [hb]) _ kp D5.out (HK.out.1.old (U0.out.trans D5.out.base)) HK.out.2.1 (fun h0 g e => .inl (Nat.lt_of_lt_of_le (HK.out.2.2 h0 g e) U0.out.size))).mono ?_; rintro e w6 ⟨rfl, S, -, -, d6, -⟩; have D6 := hid d6; have HE := hid (HG.out S kp).1; have HV := hid (HG.out S kp).2; clear d6)
      clear D5 HG
      generalize crashP q0 S kp = q at *
      go_upto_region 15 with (go_at_call 8; refine (open_ok W0 _ db q ([] ++ [hb]) D6.out HT.out HE.out).mono ?_; rintro e w7 ⟨hb2, rfl, d7, b7, -, -⟩; rw [HV.out] at b7; have U7 := hid (d7.base); have B7 := hid b7; clear d7 b7)
      clear D6 HE HV HT L2 HK HR HA
      have HTm := hid (fun (W : World) (u : Old w7 W) => term_any hb2 _ t1 v1 W ((Below.block u hb2 (heap_lt B7.out)).trans B7.out))
      have HVt := hid (fun (W : World) (u : Old w7 W) => vote_any hb2 _ t1 v1 W ((Below.block u hb2 (heap_lt B7.out)).trans B7.out))
      have UD := hid ((Old.refl w7).drew)
      clear B7
      by_cases z1 : t1 = t2
      · subst z1
        by_cases z2 : v1 = v2
        · subst z2
          refine wp_region_noPanic ?_
          refine wp_region_held_drew (S := fun wz => wz.cell? ⟨g, 1, none⟩ = some (.int .i64 t1) ∧ wz.cell? ⟨g, 2, none⟩ = some (.int .i64 v1)) (by kernel_rfl) ?_ (fun hHeld => ?_)
          · exact (S2.old ((Old.refl w7).drew) (C4.one (C4.old U7.out HC.out)))
          (try simp only [Act.put]); (try simp only [List.setIfInBounds_toArray]); (try simp only [List.set_cons_succ]); (try simp only [List.set_cons_zero])
          clear hHeld
          refine wpAnyH_take (i := 0) (oi := { dst := some 74, op := Op.move (Operand.tmp 13), type := 25, pos := "law.go:112", after := #[], guard := none }) (v := ?vk1) rfl (by kernel_rfl) (by kernel_rfl) (by kernel_rfl) (fun _ _ _ h => h) (Or.inl ⟨by rfl, ?hk1⟩) (S2.old ((Old.refl w7).drew) (C4.one (C4.old U7.out HC.out))) ?rk1
          case hk1 => (intro wz hSw; (try dsimp only at hSw); go_simp; try with_reducible rfl)
          (try simp only [Act.put]); (try simp only [List.setIfInBounds_toArray]); (try simp only [List.set_cons_succ]); (try simp only [List.set_cons_zero])
          refine wpAnyH_take (i := 2) (oi := { dst := some 76, op := Op.fieldAddr 36 (Operand.tmp 4) 1, type := 0, pos := "law.go:112", after := #[], guard := none }) (v := ?vk2) rfl (by kernel_rfl) (by kernel_rfl) (by kernel_rfl) (fun _ _ _ h => h) (Or.inl ⟨by rfl, ?hk2⟩) (S2.old ((Old.refl w7).drew) (C4.one (C4.old U7.out HC.out))) ?rk2
          case hk2 => (intro wz hSw; (try dsimp only at hSw); go_simp; try with_reducible rfl)
          (try simp only [Act.put]); (try simp only [List.setIfInBounds_toArray]); (try simp only [List.set_cons_succ]); (try simp only [List.set_cons_zero])
          refine wpAnyH_take (i := 3) (oi := { dst := some 77, op := Op.load 2 (Operand.tmp 76), type := 2, pos := "law.go:112", after := #[{ on := 2, ground := Ground.data }], guard := none }) (v := ?vk3) rfl (by kernel_rfl) (by kernel_rfl) (by kernel_rfl) (fun _ _ _ h => h) (Or.inl ⟨by rfl, ?hk3⟩) (S2.old ((Old.refl w7).drew) (C4.one (C4.old U7.out HC.out))) ?rk3
          case hk3 => (intro wz hSw; (try dsimp only at hSw); go_simp; try with_reducible rfl)
          (try simp only [Act.put]); (try simp only [List.setIfInBounds_toArray]); (try simp only [List.set_cons_succ]); (try simp only [List.set_cons_zero])
          refine wpAnyH_ready (rs := [1]) (by kernel_rfl) (by simp) ?_
          refine AllReadyH.cons (o := { dst := some 75, op := Op.call { callee := Callee.value (Operand.func 12), args := #[Operand.tmp 74], argTypes := #[25] }, type := 2, pos := "law.go:112", after := #[{ on := 0, ground := Ground.data }], guard := none }) rfl (fun K hK => ?_) AllReadyH.nil
          refine wantCall1 ?_ 12 (.tmp 74) #[25] ?_ (.pointer (some ⟨hb2, 0, none⟩)) ?_ ?_ ((enters_of Tryd.func12 (by kernel_rfl) rfl) _ _) ?_
          · rfl
          · rfl
          · rfl
          · rfl
          refine (HTm.out _ ((Old.refl w7).drew)).mono ?_
          rintro o x4 ⟨rfl, hx4⟩
          subst hx4
          refine ⟨_, rfl, ?_⟩
          refine hK.out _ _ (S2.old ((Old.refl w7).drew) (C4.one (C4.old U7.out HC.out))) (fun _ => ?_)
          clear hK K
          (try simp only [Act.put]); (try simp only [List.setIfInBounds_toArray]); (try simp only [List.set_cons_succ]); (try simp only [List.set_cons_zero])
          refine wpAnyH_take (i := 4) (oi := { dst := some 78, op := Op.binOp BinOp.eql 2 (Operand.tmp 75) (Operand.tmp 77) 2, type := 4, pos := "law.go:112", after := #[{ on := 1, ground := Ground.data }, { on := 3, ground := Ground.data }], guard := none }) (v := ?vk5) rfl (by kernel_rfl) (by kernel_rfl) (by kernel_rfl) (fun _ _ _ h => h) (Or.inl ⟨by rfl, ?hk5⟩) (S2.old ((Old.refl w7).drew) (C4.one (C4.old U7.out HC.out))) ?rk5
          case hk5 => (intro wz hSw; (try dsimp only at hSw); go_simp; try with_reducible rfl)
          (try simp only [Act.put]); (try simp only [List.setIfInBounds_toArray]); (try simp only [List.set_cons_succ]); (try simp only [List.set_cons_zero])
          refine wpAnyH_take (i := 5) (oi := { dst := some 79, op := Op.move (Operand.tmp 78), type := 4, pos := "law.go:112", after := #[{ on := 4, ground := Ground.data }, { on := 1, ground := Ground.chain }], guard := none }) (v := ?vk6) rfl (by kernel_rfl) (by kernel_rfl) (by kernel_rfl) (fun _ _ _ h => h) (Or.inl ⟨by rfl, ?hk6⟩) (S2.old ((Old.refl w7).drew) (C4.one (C4.old U7.out HC.out))) ?rk6
          case hk6 => (intro wz hSw; (try dsimp only at hSw); go_simp; try with_reducible rfl)
          (try simp only [Act.put]); (try simp only [List.setIfInBounds_toArray]); (try simp only [List.set_cons_succ]); (try simp only [List.set_cons_zero])
          refine wpAnyH_take (i := 6) (oi := { dst := some 80, op := Op.move (Operand.tmp 13), type := 25, pos := "law.go:112", after := #[{ on := 5, ground := Ground.guard }], guard := some (5, true) }) (v := ?vk7) rfl (by kernel_rfl) (by kernel_rfl) (by kernel_rfl) (fun _ _ _ h => h) (Or.inl ⟨by rfl, ?hk7⟩) (S2.old ((Old.refl w7).drew) (C4.one (C4.old U7.out HC.out))) ?rk7
          case hk7 => (intro wz hSw; (try dsimp only at hSw); go_simp; try with_reducible rfl)
          (try simp only [Act.put]); (try simp only [List.setIfInBounds_toArray]); (try simp only [List.set_cons_succ]); (try simp only [List.set_cons_zero])
          refine wpAnyH_take (i := 8) (oi := { dst := some 82, op := Op.fieldAddr 36 (Operand.tmp 4) 2, type := 0, pos := "law.go:112", after := #[{ on := 5, ground := Ground.guard }], guard := some (5, true) }) (v := ?vk8) rfl (by kernel_rfl) (by kernel_rfl) (by kernel_rfl) (fun _ _ _ h => h) (Or.inl ⟨by rfl, ?hk8⟩) (S2.old ((Old.refl w7).drew) (C4.one (C4.old U7.out HC.out))) ?rk8
          case hk8 => (intro wz hSw; (try dsimp only at hSw); go_simp; try with_reducible rfl)
          (try simp only [Act.put]); (try simp only [List.setIfInBounds_toArray]); (try simp only [List.set_cons_succ]); (try simp only [List.set_cons_zero])
          refine wpAnyH_take (i := 9) (oi := { dst := some 83, op := Op.load 3 (Operand.tmp 82), type := 3, pos := "law.go:112", after := #[{ on := 8, ground := Ground.data }, { on := 5, ground := Ground.guard }], guard := some (5, true) }) (v := ?vk9) rfl (by kernel_rfl) (by kernel_rfl) (by kernel_rfl) (fun _ _ _ h => h) (Or.inl ⟨by rfl, ?hk9⟩) (S2.old ((Old.refl w7).drew) (C4.one (C4.old U7.out HC.out))) ?rk9
          case hk9 => (intro wz hSw; (try dsimp only at hSw); go_simp; try with_reducible rfl)
          (try simp only [Act.put]); (try simp only [List.setIfInBounds_toArray]); (try simp only [List.set_cons_succ]); (try simp only [List.set_cons_zero])
          refine wpAnyH_ready (rs := [7]) (by kernel_rfl) (by simp) ?_
          refine AllReadyH.cons (o := { dst := some 81, op := Op.call { callee := Callee.value (Operand.func 13), args := #[Operand.tmp 80], argTypes := #[25] }, type := 3, pos := "law.go:112", after := #[{ on := 6, ground := Ground.data }, { on := 5, ground := Ground.chain }, { on := 5, ground := Ground.guard }], guard := some (5, true) }) rfl (fun K hK => ?_) AllReadyH.nil
          refine wantCall1 ?_ 13 (.tmp 80) #[25] ?_ (.pointer (some ⟨hb2, 0, none⟩)) ?_ ?_ ((enters_of Tryd.func13 (by kernel_rfl) rfl) _ _) ?_
          · rfl
          · rfl
          · rfl
          · rfl
          refine (HVt.out _ ((Old.refl w7).drew)).mono ?_
          rintro o x10 ⟨rfl, hx10⟩
          subst hx10
          refine ⟨_, rfl, ?_⟩
          refine hK.out _ _ (S2.old ((Old.refl w7).drew) (C4.one (C4.old U7.out HC.out))) (fun _ => ?_)
          clear hK K
          (try simp only [Act.put]); (try simp only [List.setIfInBounds_toArray]); (try simp only [List.set_cons_succ]); (try simp only [List.set_cons_zero])
          refine wpAnyH_take (i := 10) (oi := { dst := some 84, op := Op.binOp BinOp.eql 3 (Operand.tmp 81) (Operand.tmp 83) 3, type := 4, pos := "law.go:112", after := #[{ on := 7, ground := Ground.data }, { on := 9, ground := Ground.data }, { on := 5, ground := Ground.guard }], guard := some (5, true) }) (v := ?vk11) rfl (by kernel_rfl) (by kernel_rfl) (by kernel_rfl) (fun _ _ _ h => h) (Or.inl ⟨by rfl, ?hk11⟩) (S2.old ((Old.refl w7).drew) (C4.one (C4.old U7.out HC.out))) ?rk11
          case hk11 => (intro wz hSw; (try dsimp only at hSw); go_simp; try with_reducible rfl)
          (try simp only [Act.put]); (try simp only [List.setIfInBounds_toArray]); (try simp only [List.set_cons_succ]); (try simp only [List.set_cons_zero])
          refine wpAnyH_take (i := 11) (oi := { dst := some 85, op := Op.pick (Operand.tmp 79) (Operand.tmp 84) (Operand.const (Value.bool false)), type := 4, pos := "law.go:112", after := #[{ on := 5, ground := Ground.data }, { on := 10, ground := Ground.data }], guard := none }) (v := ?vk12) rfl (by kernel_rfl) (by kernel_rfl) (by kernel_rfl) (fun _ _ _ h => h) (Or.inl ⟨by rfl, ?hk12⟩) (S2.old ((Old.refl w7).drew) (C4.one (C4.old U7.out HC.out))) ?rk12
          case hk12 => (intro wz hSw; (try dsimp only at hSw); go_simp; try with_reducible rfl)
          (try simp only [Act.put]); (try simp only [List.setIfInBounds_toArray]); (try simp only [List.set_cons_succ]); (try simp only [List.set_cons_zero])
          refine wpAnyH_ready (rs := [12]) (by kernel_rfl) (by simp) ?_
          refine AllReadyH.cons (o := { dst := some 15, op := Op.assign (Operand.tmp 85), type := 4, pos := "law.go:112", after := #[{ on := 11, ground := Ground.data }, { on := 7, ground := Ground.chain }, { on := 0, ground := Ground.phase }, { on := 1, ground := Ground.phase }, { on := 2, ground := Ground.phase }, { on := 3, ground := Ground.phase }, { on := 4, ground := Ground.phase }, { on := 5, ground := Ground.phase }, { on := 6, ground := Ground.phase }, { on := 7, ground := Ground.phase }, { on := 8, ground := Ground.phase }, { on := 9, ground := Ground.phase }, { on := 10, ground := Ground.phase }, { on := 11, ground := Ground.phase }], guard := none }) rfl (fun K hK => ?_) AllReadyH.nil
          go_simp
          refine hK.out _ _ (S2.old ((Old.refl w7).drew) (C4.one (C4.old U7.out HC.out))) (fun _ => ?_)
          clear hK K
          (try simp only [Act.put]); (try simp only [List.setIfInBounds_toArray]); (try simp only [List.set_cons_succ]); (try simp only [List.set_cons_zero])
          refine wpAnyH_done (by kernel_rfl) ?_ _
          refine NoPanic.normal ?_
          generalize World.drew w7 = w9 at *
          have UE := hid ((Old.refl w9).drew)
          go_upto_region 16 with (fail)
          refine wp_region_noPanic ?_
          refine wp_region_held_drew (S := fun wz => wz.cell? ⟨(g + 1), 1, none⟩ = some (.int .i64 t1) ∧ wz.cell? ⟨(g + 1), 2, none⟩ = some (.int .i64 v1)) (by kernel_rfl) ?_ (fun hHeld => ?_)
          · exact (S2.old ((Old.refl w9).drew) (C4.two (C4.old (U7.out.trans UD.out) HC.out)))
          (try simp only [Act.put]); (try simp only [List.setIfInBounds_toArray]); (try simp only [List.set_cons_succ]); (try simp only [List.set_cons_zero])
          clear hHeld
          refine wpAnyH_take (i := 0) (oi := { dst := some 86, op := Op.move (Operand.tmp 13), type := 25, pos := "law.go:113", after := #[], guard := none }) (v := ?vk13) rfl (by kernel_rfl) (by kernel_rfl) (by kernel_rfl) (fun _ _ _ h => h) (Or.inl ⟨by rfl, ?hk13⟩) (S2.old ((Old.refl w9).drew) (C4.two (C4.old (U7.out.trans UD.out) HC.out))) ?rk13
          case hk13 => (intro wz hSw; (try dsimp only at hSw); go_simp; try with_reducible rfl)
          (try simp only [Act.put]); (try simp only [List.setIfInBounds_toArray]); (try simp only [List.set_cons_succ]); (try simp only [List.set_cons_zero])
          refine wpAnyH_take (i := 2) (oi := { dst := some 88, op := Op.fieldAddr 36 (Operand.tmp 5) 1, type := 0, pos := "law.go:113", after := #[], guard := none }) (v := ?vk14) rfl (by kernel_rfl) (by kernel_rfl) (by kernel_rfl) (fun _ _ _ h => h) (Or.inl ⟨by rfl, ?hk14⟩) (S2.old ((Old.refl w9).drew) (C4.two (C4.old (U7.out.trans UD.out) HC.out))) ?rk14
          case hk14 => (intro wz hSw; (try dsimp only at hSw); go_simp; try with_reducible rfl)
          (try simp only [Act.put]); (try simp only [List.setIfInBounds_toArray]); (try simp only [List.set_cons_succ]); (try simp only [List.set_cons_zero])
          refine wpAnyH_take (i := 3) (oi := { dst := some 89, op := Op.load 2 (Operand.tmp 88), type := 2, pos := "law.go:113", after := #[{ on := 2, ground := Ground.data }], guard := none }) (v := ?vk15) rfl (by kernel_rfl) (by kernel_rfl) (by kernel_rfl) (fun _ _ _ h => h) (Or.inl ⟨by rfl, ?hk15⟩) (S2.old ((Old.refl w9).drew) (C4.two (C4.old (U7.out.trans UD.out) HC.out))) ?rk15
          case hk15 => (intro wz hSw; (try dsimp only at hSw); go_simp; try with_reducible rfl)
          (try simp only [Act.put]); (try simp only [List.setIfInBounds_toArray]); (try simp only [List.set_cons_succ]); (try simp only [List.set_cons_zero])
          refine wpAnyH_ready (rs := [1]) (by kernel_rfl) (by simp) ?_
          refine AllReadyH.cons (o := { dst := some 87, op := Op.call { callee := Callee.value (Operand.func 12), args := #[Operand.tmp 86], argTypes := #[25] }, type := 2, pos := "law.go:113", after := #[{ on := 0, ground := Ground.data }], guard := none }) rfl (fun K hK => ?_) AllReadyH.nil
          refine wantCall1 ?_ 12 (.tmp 86) #[25] ?_ (.pointer (some ⟨hb2, 0, none⟩)) ?_ ?_ ((enters_of Tryd.func12 (by kernel_rfl) rfl) _ _) ?_
          · rfl
          · rfl
          · rfl
          · rfl
          refine (HTm.out _ (UD.out.drew)).mono ?_
          rintro o x16 ⟨rfl, hx16⟩
          subst hx16
          refine ⟨_, rfl, ?_⟩
          refine hK.out _ _ (S2.old ((Old.refl w9).drew) (C4.two (C4.old (U7.out.trans UD.out) HC.out))) (fun _ => ?_)
          clear hK K
          (try simp only [Act.put]); (try simp only [List.setIfInBounds_toArray]); (try simp only [List.set_cons_succ]); (try simp only [List.set_cons_zero])
          refine wpAnyH_take (i := 4) (oi := { dst := some 90, op := Op.binOp BinOp.eql 2 (Operand.tmp 87) (Operand.tmp 89) 2, type := 4, pos := "law.go:113", after := #[{ on := 1, ground := Ground.data }, { on := 3, ground := Ground.data }], guard := none }) (v := ?vk17) rfl (by kernel_rfl) (by kernel_rfl) (by kernel_rfl) (fun _ _ _ h => h) (Or.inl ⟨by rfl, ?hk17⟩) (S2.old ((Old.refl w9).drew) (C4.two (C4.old (U7.out.trans UD.out) HC.out))) ?rk17
          case hk17 => (intro wz hSw; (try dsimp only at hSw); go_simp; try with_reducible rfl)
          (try simp only [Act.put]); (try simp only [List.setIfInBounds_toArray]); (try simp only [List.set_cons_succ]); (try simp only [List.set_cons_zero])
          refine wpAnyH_take (i := 5) (oi := { dst := some 91, op := Op.move (Operand.tmp 90), type := 4, pos := "law.go:113", after := #[{ on := 4, ground := Ground.data }, { on := 1, ground := Ground.chain }], guard := none }) (v := ?vk18) rfl (by kernel_rfl) (by kernel_rfl) (by kernel_rfl) (fun _ _ _ h => h) (Or.inl ⟨by rfl, ?hk18⟩) (S2.old ((Old.refl w9).drew) (C4.two (C4.old (U7.out.trans UD.out) HC.out))) ?rk18
          case hk18 => (intro wz hSw; (try dsimp only at hSw); go_simp; try with_reducible rfl)
          (try simp only [Act.put]); (try simp only [List.setIfInBounds_toArray]); (try simp only [List.set_cons_succ]); (try simp only [List.set_cons_zero])
          refine wpAnyH_take (i := 6) (oi := { dst := some 92, op := Op.move (Operand.tmp 13), type := 25, pos := "law.go:113", after := #[{ on := 5, ground := Ground.guard }], guard := some (5, true) }) (v := ?vk19) rfl (by kernel_rfl) (by kernel_rfl) (by kernel_rfl) (fun _ _ _ h => h) (Or.inl ⟨by rfl, ?hk19⟩) (S2.old ((Old.refl w9).drew) (C4.two (C4.old (U7.out.trans UD.out) HC.out))) ?rk19
          case hk19 => (intro wz hSw; (try dsimp only at hSw); go_simp; try with_reducible rfl)
          (try simp only [Act.put]); (try simp only [List.setIfInBounds_toArray]); (try simp only [List.set_cons_succ]); (try simp only [List.set_cons_zero])
          refine wpAnyH_take (i := 8) (oi := { dst := some 94, op := Op.fieldAddr 36 (Operand.tmp 5) 2, type := 0, pos := "law.go:113", after := #[{ on := 5, ground := Ground.guard }], guard := some (5, true) }) (v := ?vk20) rfl (by kernel_rfl) (by kernel_rfl) (by kernel_rfl) (fun _ _ _ h => h) (Or.inl ⟨by rfl, ?hk20⟩) (S2.old ((Old.refl w9).drew) (C4.two (C4.old (U7.out.trans UD.out) HC.out))) ?rk20
          case hk20 => (intro wz hSw; (try dsimp only at hSw); go_simp; try with_reducible rfl)
          (try simp only [Act.put]); (try simp only [List.setIfInBounds_toArray]); (try simp only [List.set_cons_succ]); (try simp only [List.set_cons_zero])
          refine wpAnyH_take (i := 9) (oi := { dst := some 95, op := Op.load 3 (Operand.tmp 94), type := 3, pos := "law.go:113", after := #[{ on := 8, ground := Ground.data }, { on := 5, ground := Ground.guard }], guard := some (5, true) }) (v := ?vk21) rfl (by kernel_rfl) (by kernel_rfl) (by kernel_rfl) (fun _ _ _ h => h) (Or.inl ⟨by rfl, ?hk21⟩) (S2.old ((Old.refl w9).drew) (C4.two (C4.old (U7.out.trans UD.out) HC.out))) ?rk21
          case hk21 => (intro wz hSw; (try dsimp only at hSw); go_simp; try with_reducible rfl)
          (try simp only [Act.put]); (try simp only [List.setIfInBounds_toArray]); (try simp only [List.set_cons_succ]); (try simp only [List.set_cons_zero])
          refine wpAnyH_ready (rs := [7]) (by kernel_rfl) (by simp) ?_
          refine AllReadyH.cons (o := { dst := some 93, op := Op.call { callee := Callee.value (Operand.func 13), args := #[Operand.tmp 92], argTypes := #[25] }, type := 3, pos := "law.go:113", after := #[{ on := 6, ground := Ground.data }, { on := 5, ground := Ground.chain }, { on := 5, ground := Ground.guard }], guard := some (5, true) }) rfl (fun K hK => ?_) AllReadyH.nil
          refine wantCall1 ?_ 13 (.tmp 92) #[25] ?_ (.pointer (some ⟨hb2, 0, none⟩)) ?_ ?_ ((enters_of Tryd.func13 (by kernel_rfl) rfl) _ _) ?_
          · rfl
          · rfl
          · rfl
          · rfl
          refine (HVt.out _ (UD.out.drew)).mono ?_
          rintro o x22 ⟨rfl, hx22⟩
          subst hx22
          refine ⟨_, rfl, ?_⟩
          refine hK.out _ _ (S2.old ((Old.refl w9).drew) (C4.two (C4.old (U7.out.trans UD.out) HC.out))) (fun _ => ?_)
          clear hK K
          (try simp only [Act.put]); (try simp only [List.setIfInBounds_toArray]); (try simp only [List.set_cons_succ]); (try simp only [List.set_cons_zero])
          refine wpAnyH_take (i := 10) (oi := { dst := some 96, op := Op.binOp BinOp.eql 3 (Operand.tmp 93) (Operand.tmp 95) 3, type := 4, pos := "law.go:113", after := #[{ on := 7, ground := Ground.data }, { on := 9, ground := Ground.data }, { on := 5, ground := Ground.guard }], guard := some (5, true) }) (v := ?vk23) rfl (by kernel_rfl) (by kernel_rfl) (by kernel_rfl) (fun _ _ _ h => h) (Or.inl ⟨by rfl, ?hk23⟩) (S2.old ((Old.refl w9).drew) (C4.two (C4.old (U7.out.trans UD.out) HC.out))) ?rk23
          case hk23 => (intro wz hSw; (try dsimp only at hSw); go_simp; try with_reducible rfl)
          (try simp only [Act.put]); (try simp only [List.setIfInBounds_toArray]); (try simp only [List.set_cons_succ]); (try simp only [List.set_cons_zero])
          refine wpAnyH_take (i := 11) (oi := { dst := some 97, op := Op.pick (Operand.tmp 91) (Operand.tmp 96) (Operand.const (Value.bool false)), type := 4, pos := "law.go:113", after := #[{ on := 5, ground := Ground.data }, { on := 10, ground := Ground.data }], guard := none }) (v := ?vk24) rfl (by kernel_rfl) (by kernel_rfl) (by kernel_rfl) (fun _ _ _ h => h) (Or.inl ⟨by rfl, ?hk24⟩) (S2.old ((Old.refl w9).drew) (C4.two (C4.old (U7.out.trans UD.out) HC.out))) ?rk24
          case hk24 => (intro wz hSw; (try dsimp only at hSw); go_simp; try with_reducible rfl)
          (try simp only [Act.put]); (try simp only [List.setIfInBounds_toArray]); (try simp only [List.set_cons_succ]); (try simp only [List.set_cons_zero])
          refine wpAnyH_ready (rs := [12]) (by kernel_rfl) (by simp) ?_
          refine AllReadyH.cons (o := { dst := some 16, op := Op.assign (Operand.tmp 97), type := 4, pos := "law.go:113", after := #[{ on := 11, ground := Ground.data }, { on := 7, ground := Ground.chain }, { on := 0, ground := Ground.phase }, { on := 1, ground := Ground.phase }, { on := 2, ground := Ground.phase }, { on := 3, ground := Ground.phase }, { on := 4, ground := Ground.phase }, { on := 5, ground := Ground.phase }, { on := 6, ground := Ground.phase }, { on := 7, ground := Ground.phase }, { on := 8, ground := Ground.phase }, { on := 9, ground := Ground.phase }, { on := 10, ground := Ground.phase }, { on := 11, ground := Ground.phase }], guard := none }) rfl (fun K hK => ?_) AllReadyH.nil
          go_simp
          refine hK.out _ _ (S2.old ((Old.refl w9).drew) (C4.two (C4.old (U7.out.trans UD.out) HC.out))) (fun _ => ?_)
          clear hK K
          (try simp only [Act.put]); (try simp only [List.setIfInBounds_toArray]); (try simp only [List.set_cons_succ]); (try simp only [List.set_cons_zero])
          refine wpAnyH_done (by kernel_rfl) ?_ _
          refine NoPanic.normal ?_
          generalize World.drew w9 = w10 at *
          go_wp2
          go_ret
          exact ⟨rfl, U0.out.trans (U7.out.trans (UD.out.trans UE.out))⟩
        · have d2 : (v1 == v2) = false := by rw [beq_eq_false_iff_ne]; exact z2
          refine wp_region_noPanic ?_
          refine wp_region_held_drew (S := fun wz => wz.cell? ⟨g, 1, none⟩ = some (.int .i64 t1) ∧ wz.cell? ⟨g, 2, none⟩ = some (.int .i64 v1)) (by kernel_rfl) ?_ (fun hHeld => ?_)
          · exact (S2.old ((Old.refl w7).drew) (C4.one (C4.old U7.out HC.out)))
          (try simp only [Act.put]); (try simp only [List.setIfInBounds_toArray]); (try simp only [List.set_cons_succ]); (try simp only [List.set_cons_zero])
          clear hHeld
          refine wpAnyH_take (i := 0) (oi := { dst := some 74, op := Op.move (Operand.tmp 13), type := 25, pos := "law.go:112", after := #[], guard := none }) (v := ?vk25) rfl (by kernel_rfl) (by kernel_rfl) (by kernel_rfl) (fun _ _ _ h => h) (Or.inl ⟨by rfl, ?hk25⟩) (S2.old ((Old.refl w7).drew) (C4.one (C4.old U7.out HC.out))) ?rk25
          case hk25 => (intro wz hSw; (try dsimp only at hSw); go_simp; try with_reducible rfl)
          (try simp only [Act.put]); (try simp only [List.setIfInBounds_toArray]); (try simp only [List.set_cons_succ]); (try simp only [List.set_cons_zero])
          refine wpAnyH_take (i := 2) (oi := { dst := some 76, op := Op.fieldAddr 36 (Operand.tmp 4) 1, type := 0, pos := "law.go:112", after := #[], guard := none }) (v := ?vk26) rfl (by kernel_rfl) (by kernel_rfl) (by kernel_rfl) (fun _ _ _ h => h) (Or.inl ⟨by rfl, ?hk26⟩) (S2.old ((Old.refl w7).drew) (C4.one (C4.old U7.out HC.out))) ?rk26
          case hk26 => (intro wz hSw; (try dsimp only at hSw); go_simp; try with_reducible rfl)
          (try simp only [Act.put]); (try simp only [List.setIfInBounds_toArray]); (try simp only [List.set_cons_succ]); (try simp only [List.set_cons_zero])
          refine wpAnyH_take (i := 3) (oi := { dst := some 77, op := Op.load 2 (Operand.tmp 76), type := 2, pos := "law.go:112", after := #[{ on := 2, ground := Ground.data }], guard := none }) (v := ?vk27) rfl (by kernel_rfl) (by kernel_rfl) (by kernel_rfl) (fun _ _ _ h => h) (Or.inl ⟨by rfl, ?hk27⟩) (S2.old ((Old.refl w7).drew) (C4.one (C4.old U7.out HC.out))) ?rk27
          case hk27 => (intro wz hSw; (try dsimp only at hSw); go_simp; try with_reducible rfl)
          (try simp only [Act.put]); (try simp only [List.setIfInBounds_toArray]); (try simp only [List.set_cons_succ]); (try simp only [List.set_cons_zero])
          refine wpAnyH_ready (rs := [1]) (by kernel_rfl) (by simp) ?_
          refine AllReadyH.cons (o := { dst := some 75, op := Op.call { callee := Callee.value (Operand.func 12), args := #[Operand.tmp 74], argTypes := #[25] }, type := 2, pos := "law.go:112", after := #[{ on := 0, ground := Ground.data }], guard := none }) rfl (fun K hK => ?_) AllReadyH.nil
          refine wantCall1 ?_ 12 (.tmp 74) #[25] ?_ (.pointer (some ⟨hb2, 0, none⟩)) ?_ ?_ ((enters_of Tryd.func12 (by kernel_rfl) rfl) _ _) ?_
          · rfl
          · rfl
          · rfl
          · rfl
          refine (HTm.out _ ((Old.refl w7).drew)).mono ?_
          rintro o x28 ⟨rfl, hx28⟩
          subst hx28
          refine ⟨_, rfl, ?_⟩
          refine hK.out _ _ (S2.old ((Old.refl w7).drew) (C4.one (C4.old U7.out HC.out))) (fun _ => ?_)
          clear hK K
          (try simp only [Act.put]); (try simp only [List.setIfInBounds_toArray]); (try simp only [List.set_cons_succ]); (try simp only [List.set_cons_zero])
          refine wpAnyH_take (i := 4) (oi := { dst := some 78, op := Op.binOp BinOp.eql 2 (Operand.tmp 75) (Operand.tmp 77) 2, type := 4, pos := "law.go:112", after := #[{ on := 1, ground := Ground.data }, { on := 3, ground := Ground.data }], guard := none }) (v := ?vk29) rfl (by kernel_rfl) (by kernel_rfl) (by kernel_rfl) (fun _ _ _ h => h) (Or.inl ⟨by rfl, ?hk29⟩) (S2.old ((Old.refl w7).drew) (C4.one (C4.old U7.out HC.out))) ?rk29
          case hk29 => (intro wz hSw; (try dsimp only at hSw); go_simp; try with_reducible rfl)
          (try simp only [Act.put]); (try simp only [List.setIfInBounds_toArray]); (try simp only [List.set_cons_succ]); (try simp only [List.set_cons_zero])
          refine wpAnyH_take (i := 5) (oi := { dst := some 79, op := Op.move (Operand.tmp 78), type := 4, pos := "law.go:112", after := #[{ on := 4, ground := Ground.data }, { on := 1, ground := Ground.chain }], guard := none }) (v := ?vk30) rfl (by kernel_rfl) (by kernel_rfl) (by kernel_rfl) (fun _ _ _ h => h) (Or.inl ⟨by rfl, ?hk30⟩) (S2.old ((Old.refl w7).drew) (C4.one (C4.old U7.out HC.out))) ?rk30
          case hk30 => (intro wz hSw; (try dsimp only at hSw); go_simp; try with_reducible rfl)
          (try simp only [Act.put]); (try simp only [List.setIfInBounds_toArray]); (try simp only [List.set_cons_succ]); (try simp only [List.set_cons_zero])
          refine wpAnyH_take (i := 6) (oi := { dst := some 80, op := Op.move (Operand.tmp 13), type := 25, pos := "law.go:112", after := #[{ on := 5, ground := Ground.guard }], guard := some (5, true) }) (v := ?vk31) rfl (by kernel_rfl) (by kernel_rfl) (by kernel_rfl) (fun _ _ _ h => h) (Or.inl ⟨by rfl, ?hk31⟩) (S2.old ((Old.refl w7).drew) (C4.one (C4.old U7.out HC.out))) ?rk31
          case hk31 => (intro wz hSw; (try dsimp only at hSw); go_simp; try with_reducible rfl)
          (try simp only [Act.put]); (try simp only [List.setIfInBounds_toArray]); (try simp only [List.set_cons_succ]); (try simp only [List.set_cons_zero])
          refine wpAnyH_take (i := 8) (oi := { dst := some 82, op := Op.fieldAddr 36 (Operand.tmp 4) 2, type := 0, pos := "law.go:112", after := #[{ on := 5, ground := Ground.guard }], guard := some (5, true) }) (v := ?vk32) rfl (by kernel_rfl) (by kernel_rfl) (by kernel_rfl) (fun _ _ _ h => h) (Or.inl ⟨by rfl, ?hk32⟩) (S2.old ((Old.refl w7).drew) (C4.one (C4.old U7.out HC.out))) ?rk32
          case hk32 => (intro wz hSw; (try dsimp only at hSw); go_simp; try with_reducible rfl)
          (try simp only [Act.put]); (try simp only [List.setIfInBounds_toArray]); (try simp only [List.set_cons_succ]); (try simp only [List.set_cons_zero])
          refine wpAnyH_take (i := 9) (oi := { dst := some 83, op := Op.load 3 (Operand.tmp 82), type := 3, pos := "law.go:112", after := #[{ on := 8, ground := Ground.data }, { on := 5, ground := Ground.guard }], guard := some (5, true) }) (v := ?vk33) rfl (by kernel_rfl) (by kernel_rfl) (by kernel_rfl) (fun _ _ _ h => h) (Or.inl ⟨by rfl, ?hk33⟩) (S2.old ((Old.refl w7).drew) (C4.one (C4.old U7.out HC.out))) ?rk33
          case hk33 => (intro wz hSw; (try dsimp only at hSw); go_simp; try with_reducible rfl)
          (try simp only [Act.put]); (try simp only [List.setIfInBounds_toArray]); (try simp only [List.set_cons_succ]); (try simp only [List.set_cons_zero])
          refine wpAnyH_ready (rs := [7]) (by kernel_rfl) (by simp) ?_
          refine AllReadyH.cons (o := { dst := some 81, op := Op.call { callee := Callee.value (Operand.func 13), args := #[Operand.tmp 80], argTypes := #[25] }, type := 3, pos := "law.go:112", after := #[{ on := 6, ground := Ground.data }, { on := 5, ground := Ground.chain }, { on := 5, ground := Ground.guard }], guard := some (5, true) }) rfl (fun K hK => ?_) AllReadyH.nil
          refine wantCall1 ?_ 13 (.tmp 80) #[25] ?_ (.pointer (some ⟨hb2, 0, none⟩)) ?_ ?_ ((enters_of Tryd.func13 (by kernel_rfl) rfl) _ _) ?_
          · rfl
          · rfl
          · rfl
          · rfl
          refine (HVt.out _ ((Old.refl w7).drew)).mono ?_
          rintro o x34 ⟨rfl, hx34⟩
          subst hx34
          refine ⟨_, rfl, ?_⟩
          refine hK.out _ _ (S2.old ((Old.refl w7).drew) (C4.one (C4.old U7.out HC.out))) (fun _ => ?_)
          clear hK K
          (try simp only [Act.put]); (try simp only [List.setIfInBounds_toArray]); (try simp only [List.set_cons_succ]); (try simp only [List.set_cons_zero])
          refine wpAnyH_take (i := 10) (oi := { dst := some 84, op := Op.binOp BinOp.eql 3 (Operand.tmp 81) (Operand.tmp 83) 3, type := 4, pos := "law.go:112", after := #[{ on := 7, ground := Ground.data }, { on := 9, ground := Ground.data }, { on := 5, ground := Ground.guard }], guard := some (5, true) }) (v := ?vk35) rfl (by kernel_rfl) (by kernel_rfl) (by kernel_rfl) (fun _ _ _ h => h) (Or.inl ⟨by rfl, ?hk35⟩) (S2.old ((Old.refl w7).drew) (C4.one (C4.old U7.out HC.out))) ?rk35
          case hk35 => (intro wz hSw; (try dsimp only at hSw); go_simp; try with_reducible rfl)
          (try simp only [Act.put]); (try simp only [List.setIfInBounds_toArray]); (try simp only [List.set_cons_succ]); (try simp only [List.set_cons_zero])
          refine wpAnyH_take (i := 11) (oi := { dst := some 85, op := Op.pick (Operand.tmp 79) (Operand.tmp 84) (Operand.const (Value.bool false)), type := 4, pos := "law.go:112", after := #[{ on := 5, ground := Ground.data }, { on := 10, ground := Ground.data }], guard := none }) (v := ?vk36) rfl (by kernel_rfl) (by kernel_rfl) (by kernel_rfl) (fun _ _ _ h => h) (Or.inl ⟨by rfl, ?hk36⟩) (S2.old ((Old.refl w7).drew) (C4.one (C4.old U7.out HC.out))) ?rk36
          case hk36 => (intro wz hSw; (try dsimp only at hSw); go_simp; try with_reducible rfl)
          (try simp only [Act.put]); (try simp only [List.setIfInBounds_toArray]); (try simp only [List.set_cons_succ]); (try simp only [List.set_cons_zero])
          refine wpAnyH_ready (rs := [12]) (by kernel_rfl) (by simp) ?_
          refine AllReadyH.cons (o := { dst := some 15, op := Op.assign (Operand.tmp 85), type := 4, pos := "law.go:112", after := #[{ on := 11, ground := Ground.data }, { on := 7, ground := Ground.chain }, { on := 0, ground := Ground.phase }, { on := 1, ground := Ground.phase }, { on := 2, ground := Ground.phase }, { on := 3, ground := Ground.phase }, { on := 4, ground := Ground.phase }, { on := 5, ground := Ground.phase }, { on := 6, ground := Ground.phase }, { on := 7, ground := Ground.phase }, { on := 8, ground := Ground.phase }, { on := 9, ground := Ground.phase }, { on := 10, ground := Ground.phase }, { on := 11, ground := Ground.phase }], guard := none }) rfl (fun K hK => ?_) AllReadyH.nil
          go_simp
          refine hK.out _ _ (S2.old ((Old.refl w7).drew) (C4.one (C4.old U7.out HC.out))) (fun _ => ?_)
          clear hK K
          (try simp only [Act.put]); (try simp only [List.setIfInBounds_toArray]); (try simp only [List.set_cons_succ]); (try simp only [List.set_cons_zero])
          refine wpAnyH_done (by kernel_rfl) ?_ _
          refine NoPanic.normal ?_
          generalize World.drew w7 = w9 at *
          have UE := hid ((Old.refl w9).drew)
          go_upto_region 16 with (fail)
          refine wp_region_noPanic ?_
          refine wp_region_held_drew (S := fun wz => wz.cell? ⟨(g + 1), 1, none⟩ = some (.int .i64 t1) ∧ wz.cell? ⟨(g + 1), 2, none⟩ = some (.int .i64 v2)) (by kernel_rfl) ?_ (fun hHeld => ?_)
          · exact (S2.old ((Old.refl w9).drew) (C4.two (C4.old (U7.out.trans UD.out) HC.out)))
          (try simp only [Act.put]); (try simp only [List.setIfInBounds_toArray]); (try simp only [List.set_cons_succ]); (try simp only [List.set_cons_zero])
          clear hHeld
          refine wpAnyH_take (i := 0) (oi := { dst := some 86, op := Op.move (Operand.tmp 13), type := 25, pos := "law.go:113", after := #[], guard := none }) (v := ?vk37) rfl (by kernel_rfl) (by kernel_rfl) (by kernel_rfl) (fun _ _ _ h => h) (Or.inl ⟨by rfl, ?hk37⟩) (S2.old ((Old.refl w9).drew) (C4.two (C4.old (U7.out.trans UD.out) HC.out))) ?rk37
          case hk37 => (intro wz hSw; (try dsimp only at hSw); go_simp; try with_reducible rfl)
          (try simp only [Act.put]); (try simp only [List.setIfInBounds_toArray]); (try simp only [List.set_cons_succ]); (try simp only [List.set_cons_zero])
          refine wpAnyH_take (i := 2) (oi := { dst := some 88, op := Op.fieldAddr 36 (Operand.tmp 5) 1, type := 0, pos := "law.go:113", after := #[], guard := none }) (v := ?vk38) rfl (by kernel_rfl) (by kernel_rfl) (by kernel_rfl) (fun _ _ _ h => h) (Or.inl ⟨by rfl, ?hk38⟩) (S2.old ((Old.refl w9).drew) (C4.two (C4.old (U7.out.trans UD.out) HC.out))) ?rk38
          case hk38 => (intro wz hSw; (try dsimp only at hSw); go_simp; try with_reducible rfl)
          (try simp only [Act.put]); (try simp only [List.setIfInBounds_toArray]); (try simp only [List.set_cons_succ]); (try simp only [List.set_cons_zero])
          refine wpAnyH_take (i := 3) (oi := { dst := some 89, op := Op.load 2 (Operand.tmp 88), type := 2, pos := "law.go:113", after := #[{ on := 2, ground := Ground.data }], guard := none }) (v := ?vk39) rfl (by kernel_rfl) (by kernel_rfl) (by kernel_rfl) (fun _ _ _ h => h) (Or.inl ⟨by rfl, ?hk39⟩) (S2.old ((Old.refl w9).drew) (C4.two (C4.old (U7.out.trans UD.out) HC.out))) ?rk39
          case hk39 => (intro wz hSw; (try dsimp only at hSw); go_simp; try with_reducible rfl)
          (try simp only [Act.put]); (try simp only [List.setIfInBounds_toArray]); (try simp only [List.set_cons_succ]); (try simp only [List.set_cons_zero])
          refine wpAnyH_ready (rs := [1]) (by kernel_rfl) (by simp) ?_
          refine AllReadyH.cons (o := { dst := some 87, op := Op.call { callee := Callee.value (Operand.func 12), args := #[Operand.tmp 86], argTypes := #[25] }, type := 2, pos := "law.go:113", after := #[{ on := 0, ground := Ground.data }], guard := none }) rfl (fun K hK => ?_) AllReadyH.nil
          refine wantCall1 ?_ 12 (.tmp 86) #[25] ?_ (.pointer (some ⟨hb2, 0, none⟩)) ?_ ?_ ((enters_of Tryd.func12 (by kernel_rfl) rfl) _ _) ?_
          · rfl
          · rfl
          · rfl
          · rfl
          refine (HTm.out _ (UD.out.drew)).mono ?_
          rintro o x40 ⟨rfl, hx40⟩
          subst hx40
          refine ⟨_, rfl, ?_⟩
          refine hK.out _ _ (S2.old ((Old.refl w9).drew) (C4.two (C4.old (U7.out.trans UD.out) HC.out))) (fun _ => ?_)
          clear hK K
          (try simp only [Act.put]); (try simp only [List.setIfInBounds_toArray]); (try simp only [List.set_cons_succ]); (try simp only [List.set_cons_zero])
          refine wpAnyH_take (i := 4) (oi := { dst := some 90, op := Op.binOp BinOp.eql 2 (Operand.tmp 87) (Operand.tmp 89) 2, type := 4, pos := "law.go:113", after := #[{ on := 1, ground := Ground.data }, { on := 3, ground := Ground.data }], guard := none }) (v := ?vk41) rfl (by kernel_rfl) (by kernel_rfl) (by kernel_rfl) (fun _ _ _ h => h) (Or.inl ⟨by rfl, ?hk41⟩) (S2.old ((Old.refl w9).drew) (C4.two (C4.old (U7.out.trans UD.out) HC.out))) ?rk41
          case hk41 => (intro wz hSw; (try dsimp only at hSw); go_simp; try with_reducible rfl)
          (try simp only [Act.put]); (try simp only [List.setIfInBounds_toArray]); (try simp only [List.set_cons_succ]); (try simp only [List.set_cons_zero])
          refine wpAnyH_take (i := 5) (oi := { dst := some 91, op := Op.move (Operand.tmp 90), type := 4, pos := "law.go:113", after := #[{ on := 4, ground := Ground.data }, { on := 1, ground := Ground.chain }], guard := none }) (v := ?vk42) rfl (by kernel_rfl) (by kernel_rfl) (by kernel_rfl) (fun _ _ _ h => h) (Or.inl ⟨by rfl, ?hk42⟩) (S2.old ((Old.refl w9).drew) (C4.two (C4.old (U7.out.trans UD.out) HC.out))) ?rk42
          case hk42 => (intro wz hSw; (try dsimp only at hSw); go_simp; try with_reducible rfl)
          (try simp only [Act.put]); (try simp only [List.setIfInBounds_toArray]); (try simp only [List.set_cons_succ]); (try simp only [List.set_cons_zero])
          refine wpAnyH_take (i := 6) (oi := { dst := some 92, op := Op.move (Operand.tmp 13), type := 25, pos := "law.go:113", after := #[{ on := 5, ground := Ground.guard }], guard := some (5, true) }) (v := ?vk43) rfl (by kernel_rfl) (by kernel_rfl) (by kernel_rfl) (fun _ _ _ h => h) (Or.inl ⟨by rfl, ?hk43⟩) (S2.old ((Old.refl w9).drew) (C4.two (C4.old (U7.out.trans UD.out) HC.out))) ?rk43
          case hk43 => (intro wz hSw; (try dsimp only at hSw); go_simp; try with_reducible rfl)
          (try simp only [Act.put]); (try simp only [List.setIfInBounds_toArray]); (try simp only [List.set_cons_succ]); (try simp only [List.set_cons_zero])
          refine wpAnyH_take (i := 8) (oi := { dst := some 94, op := Op.fieldAddr 36 (Operand.tmp 5) 2, type := 0, pos := "law.go:113", after := #[{ on := 5, ground := Ground.guard }], guard := some (5, true) }) (v := ?vk44) rfl (by kernel_rfl) (by kernel_rfl) (by kernel_rfl) (fun _ _ _ h => h) (Or.inl ⟨by rfl, ?hk44⟩) (S2.old ((Old.refl w9).drew) (C4.two (C4.old (U7.out.trans UD.out) HC.out))) ?rk44
          case hk44 => (intro wz hSw; (try dsimp only at hSw); go_simp; try with_reducible rfl)
          (try simp only [Act.put]); (try simp only [List.setIfInBounds_toArray]); (try simp only [List.set_cons_succ]); (try simp only [List.set_cons_zero])
          refine wpAnyH_take (i := 9) (oi := { dst := some 95, op := Op.load 3 (Operand.tmp 94), type := 3, pos := "law.go:113", after := #[{ on := 8, ground := Ground.data }, { on := 5, ground := Ground.guard }], guard := some (5, true) }) (v := ?vk45) rfl (by kernel_rfl) (by kernel_rfl) (by kernel_rfl) (fun _ _ _ h => h) (Or.inl ⟨by rfl, ?hk45⟩) (S2.old ((Old.refl w9).drew) (C4.two (C4.old (U7.out.trans UD.out) HC.out))) ?rk45
          case hk45 => (intro wz hSw; (try dsimp only at hSw); go_simp; try with_reducible rfl)
          (try simp only [Act.put]); (try simp only [List.setIfInBounds_toArray]); (try simp only [List.set_cons_succ]); (try simp only [List.set_cons_zero])
          refine wpAnyH_ready (rs := [7]) (by kernel_rfl) (by simp) ?_
          refine AllReadyH.cons (o := { dst := some 93, op := Op.call { callee := Callee.value (Operand.func 13), args := #[Operand.tmp 92], argTypes := #[25] }, type := 3, pos := "law.go:113", after := #[{ on := 6, ground := Ground.data }, { on := 5, ground := Ground.chain }, { on := 5, ground := Ground.guard }], guard := some (5, true) }) rfl (fun K hK => ?_) AllReadyH.nil
          refine wantCall1 ?_ 13 (.tmp 92) #[25] ?_ (.pointer (some ⟨hb2, 0, none⟩)) ?_ ?_ ((enters_of Tryd.func13 (by kernel_rfl) rfl) _ _) ?_
          · rfl
          · rfl
          · rfl
          · rfl
          refine (HVt.out _ (UD.out.drew)).mono ?_
          rintro o x46 ⟨rfl, hx46⟩
          subst hx46
          refine ⟨_, rfl, ?_⟩
          refine hK.out _ _ (S2.old ((Old.refl w9).drew) (C4.two (C4.old (U7.out.trans UD.out) HC.out))) (fun _ => ?_)
          clear hK K
          (try simp only [Act.put]); (try simp only [List.setIfInBounds_toArray]); (try simp only [List.set_cons_succ]); (try simp only [List.set_cons_zero])
          refine wpAnyH_take (i := 10) (oi := { dst := some 96, op := Op.binOp BinOp.eql 3 (Operand.tmp 93) (Operand.tmp 95) 3, type := 4, pos := "law.go:113", after := #[{ on := 7, ground := Ground.data }, { on := 9, ground := Ground.data }, { on := 5, ground := Ground.guard }], guard := some (5, true) }) (v := ?vk47) rfl (by kernel_rfl) (by kernel_rfl) (by kernel_rfl) (fun _ _ _ h => h) (Or.inl ⟨by rfl, ?hk47⟩) (S2.old ((Old.refl w9).drew) (C4.two (C4.old (U7.out.trans UD.out) HC.out))) ?rk47
          case hk47 => (intro wz hSw; (try dsimp only at hSw); go_simp; try with_reducible rfl)
          (try simp only [Act.put]); (try simp only [List.setIfInBounds_toArray]); (try simp only [List.set_cons_succ]); (try simp only [List.set_cons_zero])
          refine wpAnyH_take (i := 11) (oi := { dst := some 97, op := Op.pick (Operand.tmp 91) (Operand.tmp 96) (Operand.const (Value.bool false)), type := 4, pos := "law.go:113", after := #[{ on := 5, ground := Ground.data }, { on := 10, ground := Ground.data }], guard := none }) (v := ?vk48) rfl (by kernel_rfl) (by kernel_rfl) (by kernel_rfl) (fun _ _ _ h => h) (Or.inl ⟨by rfl, ?hk48⟩) (S2.old ((Old.refl w9).drew) (C4.two (C4.old (U7.out.trans UD.out) HC.out))) ?rk48
          case hk48 => (intro wz hSw; (try dsimp only at hSw); go_simp; try with_reducible rfl)
          (try simp only [Act.put]); (try simp only [List.setIfInBounds_toArray]); (try simp only [List.set_cons_succ]); (try simp only [List.set_cons_zero])
          refine wpAnyH_ready (rs := [12]) (by kernel_rfl) (by simp) ?_
          refine AllReadyH.cons (o := { dst := some 16, op := Op.assign (Operand.tmp 97), type := 4, pos := "law.go:113", after := #[{ on := 11, ground := Ground.data }, { on := 7, ground := Ground.chain }, { on := 0, ground := Ground.phase }, { on := 1, ground := Ground.phase }, { on := 2, ground := Ground.phase }, { on := 3, ground := Ground.phase }, { on := 4, ground := Ground.phase }, { on := 5, ground := Ground.phase }, { on := 6, ground := Ground.phase }, { on := 7, ground := Ground.phase }, { on := 8, ground := Ground.phase }, { on := 9, ground := Ground.phase }, { on := 10, ground := Ground.phase }, { on := 11, ground := Ground.phase }], guard := none }) rfl (fun K hK => ?_) AllReadyH.nil
          go_simp
          refine hK.out _ _ (S2.old ((Old.refl w9).drew) (C4.two (C4.old (U7.out.trans UD.out) HC.out))) (fun _ => ?_)
          clear hK K
          (try simp only [Act.put]); (try simp only [List.setIfInBounds_toArray]); (try simp only [List.set_cons_succ]); (try simp only [List.set_cons_zero])
          refine wpAnyH_done (by kernel_rfl) ?_ _
          refine NoPanic.normal ?_
          generalize World.drew w9 = w10 at *
          go_wp2
          go_ret
          exact ⟨rfl, U0.out.trans (U7.out.trans (UD.out.trans UE.out))⟩
      · have d1 : (t1 == t2) = false := by rw [beq_eq_false_iff_ne]; exact z1
        refine wp_region_noPanic ?_
        refine wp_region_held_drew (S := fun wz => wz.cell? ⟨g, 1, none⟩ = some (.int .i64 t1) ∧ wz.cell? ⟨g, 2, none⟩ = some (.int .i64 v1)) (by kernel_rfl) ?_ (fun hHeld => ?_)
        · exact (S2.old ((Old.refl w7).drew) (C4.one (C4.old U7.out HC.out)))
        (try simp only [Act.put]); (try simp only [List.setIfInBounds_toArray]); (try simp only [List.set_cons_succ]); (try simp only [List.set_cons_zero])
        clear hHeld
        refine wpAnyH_take (i := 0) (oi := { dst := some 74, op := Op.move (Operand.tmp 13), type := 25, pos := "law.go:112", after := #[], guard := none }) (v := ?vk49) rfl (by kernel_rfl) (by kernel_rfl) (by kernel_rfl) (fun _ _ _ h => h) (Or.inl ⟨by rfl, ?hk49⟩) (S2.old ((Old.refl w7).drew) (C4.one (C4.old U7.out HC.out))) ?rk49
        case hk49 => (intro wz hSw; (try dsimp only at hSw); go_simp; try with_reducible rfl)
        (try simp only [Act.put]); (try simp only [List.setIfInBounds_toArray]); (try simp only [List.set_cons_succ]); (try simp only [List.set_cons_zero])
        refine wpAnyH_take (i := 2) (oi := { dst := some 76, op := Op.fieldAddr 36 (Operand.tmp 4) 1, type := 0, pos := "law.go:112", after := #[], guard := none }) (v := ?vk50) rfl (by kernel_rfl) (by kernel_rfl) (by kernel_rfl) (fun _ _ _ h => h) (Or.inl ⟨by rfl, ?hk50⟩) (S2.old ((Old.refl w7).drew) (C4.one (C4.old U7.out HC.out))) ?rk50
        case hk50 => (intro wz hSw; (try dsimp only at hSw); go_simp; try with_reducible rfl)
        (try simp only [Act.put]); (try simp only [List.setIfInBounds_toArray]); (try simp only [List.set_cons_succ]); (try simp only [List.set_cons_zero])
        refine wpAnyH_take (i := 3) (oi := { dst := some 77, op := Op.load 2 (Operand.tmp 76), type := 2, pos := "law.go:112", after := #[{ on := 2, ground := Ground.data }], guard := none }) (v := ?vk51) rfl (by kernel_rfl) (by kernel_rfl) (by kernel_rfl) (fun _ _ _ h => h) (Or.inl ⟨by rfl, ?hk51⟩) (S2.old ((Old.refl w7).drew) (C4.one (C4.old U7.out HC.out))) ?rk51
        case hk51 => (intro wz hSw; (try dsimp only at hSw); go_simp; try with_reducible rfl)
        (try simp only [Act.put]); (try simp only [List.setIfInBounds_toArray]); (try simp only [List.set_cons_succ]); (try simp only [List.set_cons_zero])
        refine wpAnyH_ready (rs := [1]) (by kernel_rfl) (by simp) ?_
        refine AllReadyH.cons (o := { dst := some 75, op := Op.call { callee := Callee.value (Operand.func 12), args := #[Operand.tmp 74], argTypes := #[25] }, type := 2, pos := "law.go:112", after := #[{ on := 0, ground := Ground.data }], guard := none }) rfl (fun K hK => ?_) AllReadyH.nil
        refine wantCall1 ?_ 12 (.tmp 74) #[25] ?_ (.pointer (some ⟨hb2, 0, none⟩)) ?_ ?_ ((enters_of Tryd.func12 (by kernel_rfl) rfl) _ _) ?_
        · rfl
        · rfl
        · rfl
        · rfl
        refine (HTm.out _ ((Old.refl w7).drew)).mono ?_
        rintro o x52 ⟨rfl, hx52⟩
        subst hx52
        refine ⟨_, rfl, ?_⟩
        refine hK.out _ _ (S2.old ((Old.refl w7).drew) (C4.one (C4.old U7.out HC.out))) (fun _ => ?_)
        clear hK K
        (try simp only [Act.put]); (try simp only [List.setIfInBounds_toArray]); (try simp only [List.set_cons_succ]); (try simp only [List.set_cons_zero])
        refine wpAnyH_take (i := 4) (oi := { dst := some 78, op := Op.binOp BinOp.eql 2 (Operand.tmp 75) (Operand.tmp 77) 2, type := 4, pos := "law.go:112", after := #[{ on := 1, ground := Ground.data }, { on := 3, ground := Ground.data }], guard := none }) (v := ?vk53) rfl (by kernel_rfl) (by kernel_rfl) (by kernel_rfl) (fun _ _ _ h => h) (Or.inl ⟨by rfl, ?hk53⟩) (S2.old ((Old.refl w7).drew) (C4.one (C4.old U7.out HC.out))) ?rk53
        case hk53 => (intro wz hSw; (try dsimp only at hSw); go_simp; try with_reducible rfl)
        (try simp only [Act.put]); (try simp only [List.setIfInBounds_toArray]); (try simp only [List.set_cons_succ]); (try simp only [List.set_cons_zero])
        refine wpAnyH_take (i := 5) (oi := { dst := some 79, op := Op.move (Operand.tmp 78), type := 4, pos := "law.go:112", after := #[{ on := 4, ground := Ground.data }, { on := 1, ground := Ground.chain }], guard := none }) (v := ?vk54) rfl (by kernel_rfl) (by kernel_rfl) (by kernel_rfl) (fun _ _ _ h => h) (Or.inl ⟨by rfl, ?hk54⟩) (S2.old ((Old.refl w7).drew) (C4.one (C4.old U7.out HC.out))) ?rk54
        case hk54 => (intro wz hSw; (try dsimp only at hSw); go_simp; try with_reducible rfl)
        (try simp only [Act.put]); (try simp only [List.setIfInBounds_toArray]); (try simp only [List.set_cons_succ]); (try simp only [List.set_cons_zero])
        refine wpAnyH_take (i := 6) (oi := { dst := some 80, op := Op.move (Operand.tmp 13), type := 25, pos := "law.go:112", after := #[{ on := 5, ground := Ground.guard }], guard := some (5, true) }) (v := ?vk55) rfl (by kernel_rfl) (by kernel_rfl) (by kernel_rfl) (fun _ _ _ h => h) (Or.inl ⟨by rfl, ?hk55⟩) (S2.old ((Old.refl w7).drew) (C4.one (C4.old U7.out HC.out))) ?rk55
        case hk55 => (intro wz hSw; (try dsimp only at hSw); go_simp; try with_reducible rfl)
        (try simp only [Act.put]); (try simp only [List.setIfInBounds_toArray]); (try simp only [List.set_cons_succ]); (try simp only [List.set_cons_zero])
        refine wpAnyH_take (i := 8) (oi := { dst := some 82, op := Op.fieldAddr 36 (Operand.tmp 4) 2, type := 0, pos := "law.go:112", after := #[{ on := 5, ground := Ground.guard }], guard := some (5, true) }) (v := ?vk56) rfl (by kernel_rfl) (by kernel_rfl) (by kernel_rfl) (fun _ _ _ h => h) (Or.inl ⟨by rfl, ?hk56⟩) (S2.old ((Old.refl w7).drew) (C4.one (C4.old U7.out HC.out))) ?rk56
        case hk56 => (intro wz hSw; (try dsimp only at hSw); go_simp; try with_reducible rfl)
        (try simp only [Act.put]); (try simp only [List.setIfInBounds_toArray]); (try simp only [List.set_cons_succ]); (try simp only [List.set_cons_zero])
        refine wpAnyH_take (i := 9) (oi := { dst := some 83, op := Op.load 3 (Operand.tmp 82), type := 3, pos := "law.go:112", after := #[{ on := 8, ground := Ground.data }, { on := 5, ground := Ground.guard }], guard := some (5, true) }) (v := ?vk57) rfl (by kernel_rfl) (by kernel_rfl) (by kernel_rfl) (fun _ _ _ h => h) (Or.inl ⟨by rfl, ?hk57⟩) (S2.old ((Old.refl w7).drew) (C4.one (C4.old U7.out HC.out))) ?rk57
        case hk57 => (intro wz hSw; (try dsimp only at hSw); go_simp; try with_reducible rfl)
        (try simp only [Act.put]); (try simp only [List.setIfInBounds_toArray]); (try simp only [List.set_cons_succ]); (try simp only [List.set_cons_zero])
        refine wpAnyH_ready (rs := [7]) (by kernel_rfl) (by simp) ?_
        refine AllReadyH.cons (o := { dst := some 81, op := Op.call { callee := Callee.value (Operand.func 13), args := #[Operand.tmp 80], argTypes := #[25] }, type := 3, pos := "law.go:112", after := #[{ on := 6, ground := Ground.data }, { on := 5, ground := Ground.chain }, { on := 5, ground := Ground.guard }], guard := some (5, true) }) rfl (fun K hK => ?_) AllReadyH.nil
        refine wantCall1 ?_ 13 (.tmp 80) #[25] ?_ (.pointer (some ⟨hb2, 0, none⟩)) ?_ ?_ ((enters_of Tryd.func13 (by kernel_rfl) rfl) _ _) ?_
        · rfl
        · rfl
        · rfl
        · rfl
        refine (HVt.out _ ((Old.refl w7).drew)).mono ?_
        rintro o x58 ⟨rfl, hx58⟩
        subst hx58
        refine ⟨_, rfl, ?_⟩
        refine hK.out _ _ (S2.old ((Old.refl w7).drew) (C4.one (C4.old U7.out HC.out))) (fun _ => ?_)
        clear hK K
        (try simp only [Act.put]); (try simp only [List.setIfInBounds_toArray]); (try simp only [List.set_cons_succ]); (try simp only [List.set_cons_zero])
        refine wpAnyH_take (i := 10) (oi := { dst := some 84, op := Op.binOp BinOp.eql 3 (Operand.tmp 81) (Operand.tmp 83) 3, type := 4, pos := "law.go:112", after := #[{ on := 7, ground := Ground.data }, { on := 9, ground := Ground.data }, { on := 5, ground := Ground.guard }], guard := some (5, true) }) (v := ?vk59) rfl (by kernel_rfl) (by kernel_rfl) (by kernel_rfl) (fun _ _ _ h => h) (Or.inl ⟨by rfl, ?hk59⟩) (S2.old ((Old.refl w7).drew) (C4.one (C4.old U7.out HC.out))) ?rk59
        case hk59 => (intro wz hSw; (try dsimp only at hSw); go_simp; try with_reducible rfl)
        (try simp only [Act.put]); (try simp only [List.setIfInBounds_toArray]); (try simp only [List.set_cons_succ]); (try simp only [List.set_cons_zero])
        refine wpAnyH_take (i := 11) (oi := { dst := some 85, op := Op.pick (Operand.tmp 79) (Operand.tmp 84) (Operand.const (Value.bool false)), type := 4, pos := "law.go:112", after := #[{ on := 5, ground := Ground.data }, { on := 10, ground := Ground.data }], guard := none }) (v := ?vk60) rfl (by kernel_rfl) (by kernel_rfl) (by kernel_rfl) (fun _ _ _ h => h) (Or.inl ⟨by rfl, ?hk60⟩) (S2.old ((Old.refl w7).drew) (C4.one (C4.old U7.out HC.out))) ?rk60
        case hk60 => (intro wz hSw; (try dsimp only at hSw); go_simp; try with_reducible rfl)
        (try simp only [Act.put]); (try simp only [List.setIfInBounds_toArray]); (try simp only [List.set_cons_succ]); (try simp only [List.set_cons_zero])
        refine wpAnyH_ready (rs := [12]) (by kernel_rfl) (by simp) ?_
        refine AllReadyH.cons (o := { dst := some 15, op := Op.assign (Operand.tmp 85), type := 4, pos := "law.go:112", after := #[{ on := 11, ground := Ground.data }, { on := 7, ground := Ground.chain }, { on := 0, ground := Ground.phase }, { on := 1, ground := Ground.phase }, { on := 2, ground := Ground.phase }, { on := 3, ground := Ground.phase }, { on := 4, ground := Ground.phase }, { on := 5, ground := Ground.phase }, { on := 6, ground := Ground.phase }, { on := 7, ground := Ground.phase }, { on := 8, ground := Ground.phase }, { on := 9, ground := Ground.phase }, { on := 10, ground := Ground.phase }, { on := 11, ground := Ground.phase }], guard := none }) rfl (fun K hK => ?_) AllReadyH.nil
        go_simp
        refine hK.out _ _ (S2.old ((Old.refl w7).drew) (C4.one (C4.old U7.out HC.out))) (fun _ => ?_)
        clear hK K
        (try simp only [Act.put]); (try simp only [List.setIfInBounds_toArray]); (try simp only [List.set_cons_succ]); (try simp only [List.set_cons_zero])
        refine wpAnyH_done (by kernel_rfl) ?_ _
        refine NoPanic.normal ?_
        generalize World.drew w7 = w9 at *
        have UE := hid ((Old.refl w9).drew)
        go_upto_region 16 with (fail)
        refine wp_region_noPanic ?_
        refine wp_region_held_drew (S := fun wz => wz.cell? ⟨(g + 1), 1, none⟩ = some (.int .i64 t2) ∧ wz.cell? ⟨(g + 1), 2, none⟩ = some (.int .i64 v2)) (by kernel_rfl) ?_ (fun hHeld => ?_)
        · exact (S2.old ((Old.refl w9).drew) (C4.two (C4.old (U7.out.trans UD.out) HC.out)))
        (try simp only [Act.put]); (try simp only [List.setIfInBounds_toArray]); (try simp only [List.set_cons_succ]); (try simp only [List.set_cons_zero])
        clear hHeld
        refine wpAnyH_take (i := 0) (oi := { dst := some 86, op := Op.move (Operand.tmp 13), type := 25, pos := "law.go:113", after := #[], guard := none }) (v := ?vk61) rfl (by kernel_rfl) (by kernel_rfl) (by kernel_rfl) (fun _ _ _ h => h) (Or.inl ⟨by rfl, ?hk61⟩) (S2.old ((Old.refl w9).drew) (C4.two (C4.old (U7.out.trans UD.out) HC.out))) ?rk61
        case hk61 => (intro wz hSw; (try dsimp only at hSw); go_simp; try with_reducible rfl)
        (try simp only [Act.put]); (try simp only [List.setIfInBounds_toArray]); (try simp only [List.set_cons_succ]); (try simp only [List.set_cons_zero])
        refine wpAnyH_take (i := 2) (oi := { dst := some 88, op := Op.fieldAddr 36 (Operand.tmp 5) 1, type := 0, pos := "law.go:113", after := #[], guard := none }) (v := ?vk62) rfl (by kernel_rfl) (by kernel_rfl) (by kernel_rfl) (fun _ _ _ h => h) (Or.inl ⟨by rfl, ?hk62⟩) (S2.old ((Old.refl w9).drew) (C4.two (C4.old (U7.out.trans UD.out) HC.out))) ?rk62
        case hk62 => (intro wz hSw; (try dsimp only at hSw); go_simp; try with_reducible rfl)
        (try simp only [Act.put]); (try simp only [List.setIfInBounds_toArray]); (try simp only [List.set_cons_succ]); (try simp only [List.set_cons_zero])
        refine wpAnyH_take (i := 3) (oi := { dst := some 89, op := Op.load 2 (Operand.tmp 88), type := 2, pos := "law.go:113", after := #[{ on := 2, ground := Ground.data }], guard := none }) (v := ?vk63) rfl (by kernel_rfl) (by kernel_rfl) (by kernel_rfl) (fun _ _ _ h => h) (Or.inl ⟨by rfl, ?hk63⟩) (S2.old ((Old.refl w9).drew) (C4.two (C4.old (U7.out.trans UD.out) HC.out))) ?rk63
        case hk63 => (intro wz hSw; (try dsimp only at hSw); go_simp; try with_reducible rfl)
        (try simp only [Act.put]); (try simp only [List.setIfInBounds_toArray]); (try simp only [List.set_cons_succ]); (try simp only [List.set_cons_zero])
        refine wpAnyH_ready (rs := [1]) (by kernel_rfl) (by simp) ?_
        refine AllReadyH.cons (o := { dst := some 87, op := Op.call { callee := Callee.value (Operand.func 12), args := #[Operand.tmp 86], argTypes := #[25] }, type := 2, pos := "law.go:113", after := #[{ on := 0, ground := Ground.data }], guard := none }) rfl (fun K hK => ?_) AllReadyH.nil
        refine wantCall1 ?_ 12 (.tmp 86) #[25] ?_ (.pointer (some ⟨hb2, 0, none⟩)) ?_ ?_ ((enters_of Tryd.func12 (by kernel_rfl) rfl) _ _) ?_
        · rfl
        · rfl
        · rfl
        · rfl
        refine (HTm.out _ (UD.out.drew)).mono ?_
        rintro o x64 ⟨rfl, hx64⟩
        subst hx64
        refine ⟨_, rfl, ?_⟩
        refine hK.out _ _ (S2.old ((Old.refl w9).drew) (C4.two (C4.old (U7.out.trans UD.out) HC.out))) (fun _ => ?_)
        clear hK K
        (try simp only [Act.put]); (try simp only [List.setIfInBounds_toArray]); (try simp only [List.set_cons_succ]); (try simp only [List.set_cons_zero])
        refine wpAnyH_take (i := 4) (oi := { dst := some 90, op := Op.binOp BinOp.eql 2 (Operand.tmp 87) (Operand.tmp 89) 2, type := 4, pos := "law.go:113", after := #[{ on := 1, ground := Ground.data }, { on := 3, ground := Ground.data }], guard := none }) (v := ?vk65) rfl (by kernel_rfl) (by kernel_rfl) (by kernel_rfl) (fun _ _ _ h => h) (Or.inl ⟨by rfl, ?hk65⟩) (S2.old ((Old.refl w9).drew) (C4.two (C4.old (U7.out.trans UD.out) HC.out))) ?rk65
        case hk65 => (intro wz hSw; (try dsimp only at hSw); go_simp; try with_reducible rfl)
        (try simp only [Act.put]); (try simp only [List.setIfInBounds_toArray]); (try simp only [List.set_cons_succ]); (try simp only [List.set_cons_zero])
        refine wpAnyH_take (i := 5) (oi := { dst := some 91, op := Op.move (Operand.tmp 90), type := 4, pos := "law.go:113", after := #[{ on := 4, ground := Ground.data }, { on := 1, ground := Ground.chain }], guard := none }) (v := ?vk66) rfl (by kernel_rfl) (by kernel_rfl) (by kernel_rfl) (fun _ _ _ h => h) (Or.inl ⟨by rfl, ?hk66⟩) (S2.old ((Old.refl w9).drew) (C4.two (C4.old (U7.out.trans UD.out) HC.out))) ?rk66
        case hk66 => (intro wz hSw; (try dsimp only at hSw); go_simp; try with_reducible rfl)
        (try simp only [Act.put]); (try simp only [List.setIfInBounds_toArray]); (try simp only [List.set_cons_succ]); (try simp only [List.set_cons_zero])
        refine wpAnyH_take (i := 6) (oi := { dst := some 92, op := Op.move (Operand.tmp 13), type := 25, pos := "law.go:113", after := #[{ on := 5, ground := Ground.guard }], guard := some (5, true) }) (v := undef) rfl (by kernel_rfl) (by kernel_rfl) (by kernel_rfl) (fun _ _ _ h => h) (Or.inr ⟨by rfl, rfl⟩) (S2.old ((Old.refl w9).drew) (C4.two (C4.old (U7.out.trans UD.out) HC.out))) ?_
        (try simp only [Act.put]); (try simp only [List.setIfInBounds_toArray]); (try simp only [List.set_cons_succ]); (try simp only [List.set_cons_zero])
        refine wpAnyH_take (i := 7) (oi := { dst := some 93, op := Op.call { callee := Callee.value (Operand.func 13), args := #[Operand.tmp 92], argTypes := #[25] }, type := 3, pos := "law.go:113", after := #[{ on := 6, ground := Ground.data }, { on := 5, ground := Ground.chain }, { on := 5, ground := Ground.guard }], guard := some (5, true) }) (v := undef) rfl (by kernel_rfl) (by kernel_rfl) (by kernel_rfl) (fun _ _ _ h => h) (Or.inr ⟨by rfl, rfl⟩) (S2.old ((Old.refl w9).drew) (C4.two (C4.old (U7.out.trans UD.out) HC.out))) ?_
        (try simp only [Act.put]); (try simp only [List.setIfInBounds_toArray]); (try simp only [List.set_cons_succ]); (try simp only [List.set_cons_zero])
        refine wpAnyH_take (i := 8) (oi := { dst := some 94, op := Op.fieldAddr 36 (Operand.tmp 5) 2, type := 0, pos := "law.go:113", after := #[{ on := 5, ground := Ground.guard }], guard := some (5, true) }) (v := undef) rfl (by kernel_rfl) (by kernel_rfl) (by kernel_rfl) (fun _ _ _ h => h) (Or.inr ⟨by rfl, rfl⟩) (S2.old ((Old.refl w9).drew) (C4.two (C4.old (U7.out.trans UD.out) HC.out))) ?_
        (try simp only [Act.put]); (try simp only [List.setIfInBounds_toArray]); (try simp only [List.set_cons_succ]); (try simp only [List.set_cons_zero])
        refine wpAnyH_take (i := 9) (oi := { dst := some 95, op := Op.load 3 (Operand.tmp 94), type := 3, pos := "law.go:113", after := #[{ on := 8, ground := Ground.data }, { on := 5, ground := Ground.guard }], guard := some (5, true) }) (v := undef) rfl (by kernel_rfl) (by kernel_rfl) (by kernel_rfl) (fun _ _ _ h => h) (Or.inr ⟨by rfl, rfl⟩) (S2.old ((Old.refl w9).drew) (C4.two (C4.old (U7.out.trans UD.out) HC.out))) ?_
        (try simp only [Act.put]); (try simp only [List.setIfInBounds_toArray]); (try simp only [List.set_cons_succ]); (try simp only [List.set_cons_zero])
        refine wpAnyH_take (i := 10) (oi := { dst := some 96, op := Op.binOp BinOp.eql 3 (Operand.tmp 93) (Operand.tmp 95) 3, type := 4, pos := "law.go:113", after := #[{ on := 7, ground := Ground.data }, { on := 9, ground := Ground.data }, { on := 5, ground := Ground.guard }], guard := some (5, true) }) (v := undef) rfl (by kernel_rfl) (by kernel_rfl) (by kernel_rfl) (fun _ _ _ h => h) (Or.inr ⟨by rfl, rfl⟩) (S2.old ((Old.refl w9).drew) (C4.two (C4.old (U7.out.trans UD.out) HC.out))) ?_
        (try simp only [Act.put]); (try simp only [List.setIfInBounds_toArray]); (try simp only [List.set_cons_succ]); (try simp only [List.set_cons_zero])
        refine wpAnyH_take (i := 11) (oi := { dst := some 97, op := Op.pick (Operand.tmp 91) (Operand.tmp 96) (Operand.const (Value.bool false)), type := 4, pos := "law.go:113", after := #[{ on := 5, ground := Ground.data }, { on := 10, ground := Ground.data }], guard := none }) (v := ?vk67) rfl (by kernel_rfl) (by kernel_rfl) (by kernel_rfl) (fun _ _ _ h => h) (Or.inl ⟨by rfl, ?hk67⟩) (S2.old ((Old.refl w9).drew) (C4.two (C4.old (U7.out.trans UD.out) HC.out))) ?rk67
        case hk67 => (intro wz hSw; (try dsimp only at hSw); go_simp; try with_reducible rfl)
        (try simp only [Act.put]); (try simp only [List.setIfInBounds_toArray]); (try simp only [List.set_cons_succ]); (try simp only [List.set_cons_zero])
        refine wpAnyH_ready (rs := [12]) (by kernel_rfl) (by simp) ?_
        refine AllReadyH.cons (o := { dst := some 16, op := Op.assign (Operand.tmp 97), type := 4, pos := "law.go:113", after := #[{ on := 11, ground := Ground.data }, { on := 7, ground := Ground.chain }, { on := 0, ground := Ground.phase }, { on := 1, ground := Ground.phase }, { on := 2, ground := Ground.phase }, { on := 3, ground := Ground.phase }, { on := 4, ground := Ground.phase }, { on := 5, ground := Ground.phase }, { on := 6, ground := Ground.phase }, { on := 7, ground := Ground.phase }, { on := 8, ground := Ground.phase }, { on := 9, ground := Ground.phase }, { on := 10, ground := Ground.phase }, { on := 11, ground := Ground.phase }], guard := none }) rfl (fun K hK => ?_) AllReadyH.nil
        go_simp
        refine hK.out _ _ (S2.old ((Old.refl w9).drew) (C4.two (C4.old (U7.out.trans UD.out) HC.out))) (fun _ => ?_)
        clear hK K
        (try simp only [Act.put]); (try simp only [List.setIfInBounds_toArray]); (try simp only [List.set_cons_succ]); (try simp only [List.set_cons_zero])
        refine wpAnyH_done (by kernel_rfl) ?_ _
        refine NoPanic.normal ?_
        generalize World.drew w9 = w10 at *
        go_wp2
        go_ret
        exact ⟨rfl, U0.out.trans (U7.out.trans (UD.out.trans UE.out))⟩
    · skip
      have H4 := hid e4
      have HG := hid hg
      clear e4 hg
      go_enter Tryd.func4, Tryd.ntmps4
      go_upto_region 1 with (fail)
      obtain ⟨W0, hW⟩ : ∃ W0, W0 = (w.alloc (.cells #[.int .i64 k1, .int .i64 t1, .int .i64 v1, .int .i64 n1, c1] 36)).alloc (.cells #[.int .i64 k2, .int .i64 t2, .int .i64 v2, .int .i64 n2, c2] 36) := ⟨_, rfl⟩
      have HC := hid (box5 w k1 t1 v1 n1 k2 t2 v2 n2 c1 c2)
      have U0 := hid (((Old.refl w).alloc (.cells #[.int .i64 k1, .int .i64 t1, .int .i64 v1, .int .i64 n1, c1] 36)).alloc (.cells #[.int .i64 k2, .int .i64 t2, .int .i64 v2, .int .i64 n2, c2] 36))
      rw [← hW] at HC U0 ⊢
      have HT := hid (HTw.out.up U0.out)
      clear hW HTw
      generalize w.heap.size = g at *
      go_upto_region 5 with (first | (go_at_call 6; refine (newD W0 _ (Old.refl _)).mono ?_; rintro e w1 ⟨db, rfl, dd1, _⟩; have D1 := hid dd1; clear dd1) | (go_at_call 7; refine (alive_any _ (HT.out.up D1.out.base)).mono ?_; rintro e w1b ⟨rfl, u1⟩; have D1b := hid (D1.out.old u1); clear u1) | (go_at_call 8; refine (open_ok W0 _ db pd0 [] D1b.out HT.out HA.out.1).mono ?_; rintro e w2 ⟨hb, rfl, d2, b2, l2, -⟩; rw [HA.out.2.1] at d2; rw [HA.out.2.2] at b2; have D2 := hid d2; have B2 := hid b2; have L2 := hid l2; clear d2 b2 l2))
      go_upto_region 7 with (fail)
      clear D1 D1b
      obtain ⟨x1, x2, -, -⟩ := C4.old D2.out.base HC.out
      go_upto_region 9 with (go_at_call 10; refine (save_any W0 _ db hb pd0 ([] ++ [hb]) t1 v1 0 0 D2.out (by simp) B2.out L2.out HT.out HR.out.1 HR.out.2.1).mono ?_; rintro e w3 ⟨rfl, d3, b3⟩; rw [HS.out.1]; rw [HS.out.2.1] at d3; rw [HS.out.2.2] at b3; have D3 := hid d3; have B3 := hid b3; clear d3 b3)
      clear x1 x2 D2 B2 HS
      go_upto_region 10 with (go_at_call 9; refine (failD W0 _ db _ _ _ D3.out (by have := HMb.out; omega)).mono ?_; rintro e w4 ⟨rfl, d4, k4⟩; rw [HMx.out] at d4; have D4 := hid (show Dsk W0 w4 db ⟨fs, false, (M : Int)⟩ ([] ++ [hb]) from d4); have B4 := hid (k4.at (by simp) B3.out); clear d4 k4)
      clear D3 B3
      obtain ⟨-, -, x3, x4⟩ := C4.old D4.out.base HC.out
      go_upto_region 11 with (go_at_call 10; refine (save_any W0 _ db hb _ ([] ++ [hb]) t2 v2 t1 v1 D4.out (by simp) B4.out L2.out HT.out HR.out.2.2.1 HR.out.2.2.2).mono ?_; rintro e w5 ⟨rfl, d5, -⟩; rw [H4.out]; have D5 := hid d5; clear d5)
      clear x3 x4 D4 B4 H4
      generalize saveP ⟨fs, false, (M : Int)⟩ t2 v2 t1 v1 = q0 at *
      go_upto_region 12 with (go_at_call 14; refine (crashD W0 _ db q0 ([] ++ [hb]) _ kp D5.out (HK.out.1.old (U0.out.trans D5.out.base)) HK.out.2.1 (fun h0 g e => .inl (Nat.lt_of_lt_of_le (HK.out.2.2 h0 g e) U0.out.size))).mono ?_; rintro e w6 ⟨rfl, S, -, -, d6, -⟩; have D6 := hid d6; have HE := hid (HG.out S kp).1; have HV := hid (HG.out S kp).2; clear d6)
      clear D5 HG
      generalize crashP q0 S kp = q at *
      go_upto_region 15 with (go_at_call 8; refine (open_ok W0 _ db q ([] ++ [hb]) D6.out HT.out HE.out).mono ?_; rintro e w7 ⟨hb2, rfl, d7, b7, -, -⟩; rw [HV.out] at b7; have U7 := hid (d7.base); have B7 := hid b7; clear d7 b7)
      clear D6 HE HV HT L2 HK HR HA
      have HTm := hid (fun (W : World) (u : Old w7 W) => term_any hb2 _ t1 v1 W ((Below.block u hb2 (heap_lt B7.out)).trans B7.out))
      have HVt := hid (fun (W : World) (u : Old w7 W) => vote_any hb2 _ t1 v1 W ((Below.block u hb2 (heap_lt B7.out)).trans B7.out))
      have UD := hid ((Old.refl w7).drew)
      clear B7
      by_cases z1 : t1 = t2
      · subst z1
        by_cases z2 : v1 = v2
        · subst z2
          refine wp_region_noPanic ?_
          refine wp_region_held_drew (S := fun wz => wz.cell? ⟨g, 1, none⟩ = some (.int .i64 t1) ∧ wz.cell? ⟨g, 2, none⟩ = some (.int .i64 v1)) (by kernel_rfl) ?_ (fun hHeld => ?_)
          · exact (S2.old ((Old.refl w7).drew) (C4.one (C4.old U7.out HC.out)))
          (try simp only [Act.put]); (try simp only [List.setIfInBounds_toArray]); (try simp only [List.set_cons_succ]); (try simp only [List.set_cons_zero])
          clear hHeld
          refine wpAnyH_take (i := 0) (oi := { dst := some 74, op := Op.move (Operand.tmp 13), type := 25, pos := "law.go:112", after := #[], guard := none }) (v := ?vk68) rfl (by kernel_rfl) (by kernel_rfl) (by kernel_rfl) (fun _ _ _ h => h) (Or.inl ⟨by rfl, ?hk68⟩) (S2.old ((Old.refl w7).drew) (C4.one (C4.old U7.out HC.out))) ?rk68
          case hk68 => (intro wz hSw; (try dsimp only at hSw); go_simp; try with_reducible rfl)
          (try simp only [Act.put]); (try simp only [List.setIfInBounds_toArray]); (try simp only [List.set_cons_succ]); (try simp only [List.set_cons_zero])
          refine wpAnyH_take (i := 2) (oi := { dst := some 76, op := Op.fieldAddr 36 (Operand.tmp 4) 1, type := 0, pos := "law.go:112", after := #[], guard := none }) (v := ?vk69) rfl (by kernel_rfl) (by kernel_rfl) (by kernel_rfl) (fun _ _ _ h => h) (Or.inl ⟨by rfl, ?hk69⟩) (S2.old ((Old.refl w7).drew) (C4.one (C4.old U7.out HC.out))) ?rk69
          case hk69 => (intro wz hSw; (try dsimp only at hSw); go_simp; try with_reducible rfl)
          (try simp only [Act.put]); (try simp only [List.setIfInBounds_toArray]); (try simp only [List.set_cons_succ]); (try simp only [List.set_cons_zero])
          refine wpAnyH_take (i := 3) (oi := { dst := some 77, op := Op.load 2 (Operand.tmp 76), type := 2, pos := "law.go:112", after := #[{ on := 2, ground := Ground.data }], guard := none }) (v := ?vk70) rfl (by kernel_rfl) (by kernel_rfl) (by kernel_rfl) (fun _ _ _ h => h) (Or.inl ⟨by rfl, ?hk70⟩) (S2.old ((Old.refl w7).drew) (C4.one (C4.old U7.out HC.out))) ?rk70
          case hk70 => (intro wz hSw; (try dsimp only at hSw); go_simp; try with_reducible rfl)
          (try simp only [Act.put]); (try simp only [List.setIfInBounds_toArray]); (try simp only [List.set_cons_succ]); (try simp only [List.set_cons_zero])
          refine wpAnyH_ready (rs := [1]) (by kernel_rfl) (by simp) ?_
          refine AllReadyH.cons (o := { dst := some 75, op := Op.call { callee := Callee.value (Operand.func 12), args := #[Operand.tmp 74], argTypes := #[25] }, type := 2, pos := "law.go:112", after := #[{ on := 0, ground := Ground.data }], guard := none }) rfl (fun K hK => ?_) AllReadyH.nil
          refine wantCall1 ?_ 12 (.tmp 74) #[25] ?_ (.pointer (some ⟨hb2, 0, none⟩)) ?_ ?_ ((enters_of Tryd.func12 (by kernel_rfl) rfl) _ _) ?_
          · rfl
          · rfl
          · rfl
          · rfl
          refine (HTm.out _ ((Old.refl w7).drew)).mono ?_
          rintro o x71 ⟨rfl, hx71⟩
          subst hx71
          refine ⟨_, rfl, ?_⟩
          refine hK.out _ _ (S2.old ((Old.refl w7).drew) (C4.one (C4.old U7.out HC.out))) (fun _ => ?_)
          clear hK K
          (try simp only [Act.put]); (try simp only [List.setIfInBounds_toArray]); (try simp only [List.set_cons_succ]); (try simp only [List.set_cons_zero])
          refine wpAnyH_take (i := 4) (oi := { dst := some 78, op := Op.binOp BinOp.eql 2 (Operand.tmp 75) (Operand.tmp 77) 2, type := 4, pos := "law.go:112", after := #[{ on := 1, ground := Ground.data }, { on := 3, ground := Ground.data }], guard := none }) (v := ?vk72) rfl (by kernel_rfl) (by kernel_rfl) (by kernel_rfl) (fun _ _ _ h => h) (Or.inl ⟨by rfl, ?hk72⟩) (S2.old ((Old.refl w7).drew) (C4.one (C4.old U7.out HC.out))) ?rk72
          case hk72 => (intro wz hSw; (try dsimp only at hSw); go_simp; try with_reducible rfl)
          (try simp only [Act.put]); (try simp only [List.setIfInBounds_toArray]); (try simp only [List.set_cons_succ]); (try simp only [List.set_cons_zero])
          refine wpAnyH_take (i := 5) (oi := { dst := some 79, op := Op.move (Operand.tmp 78), type := 4, pos := "law.go:112", after := #[{ on := 4, ground := Ground.data }, { on := 1, ground := Ground.chain }], guard := none }) (v := ?vk73) rfl (by kernel_rfl) (by kernel_rfl) (by kernel_rfl) (fun _ _ _ h => h) (Or.inl ⟨by rfl, ?hk73⟩) (S2.old ((Old.refl w7).drew) (C4.one (C4.old U7.out HC.out))) ?rk73
          case hk73 => (intro wz hSw; (try dsimp only at hSw); go_simp; try with_reducible rfl)
          (try simp only [Act.put]); (try simp only [List.setIfInBounds_toArray]); (try simp only [List.set_cons_succ]); (try simp only [List.set_cons_zero])
          refine wpAnyH_take (i := 6) (oi := { dst := some 80, op := Op.move (Operand.tmp 13), type := 25, pos := "law.go:112", after := #[{ on := 5, ground := Ground.guard }], guard := some (5, true) }) (v := ?vk74) rfl (by kernel_rfl) (by kernel_rfl) (by kernel_rfl) (fun _ _ _ h => h) (Or.inl ⟨by rfl, ?hk74⟩) (S2.old ((Old.refl w7).drew) (C4.one (C4.old U7.out HC.out))) ?rk74
          case hk74 => (intro wz hSw; (try dsimp only at hSw); go_simp; try with_reducible rfl)
          (try simp only [Act.put]); (try simp only [List.setIfInBounds_toArray]); (try simp only [List.set_cons_succ]); (try simp only [List.set_cons_zero])
          refine wpAnyH_take (i := 8) (oi := { dst := some 82, op := Op.fieldAddr 36 (Operand.tmp 4) 2, type := 0, pos := "law.go:112", after := #[{ on := 5, ground := Ground.guard }], guard := some (5, true) }) (v := ?vk75) rfl (by kernel_rfl) (by kernel_rfl) (by kernel_rfl) (fun _ _ _ h => h) (Or.inl ⟨by rfl, ?hk75⟩) (S2.old ((Old.refl w7).drew) (C4.one (C4.old U7.out HC.out))) ?rk75
          case hk75 => (intro wz hSw; (try dsimp only at hSw); go_simp; try with_reducible rfl)
          (try simp only [Act.put]); (try simp only [List.setIfInBounds_toArray]); (try simp only [List.set_cons_succ]); (try simp only [List.set_cons_zero])
          refine wpAnyH_take (i := 9) (oi := { dst := some 83, op := Op.load 3 (Operand.tmp 82), type := 3, pos := "law.go:112", after := #[{ on := 8, ground := Ground.data }, { on := 5, ground := Ground.guard }], guard := some (5, true) }) (v := ?vk76) rfl (by kernel_rfl) (by kernel_rfl) (by kernel_rfl) (fun _ _ _ h => h) (Or.inl ⟨by rfl, ?hk76⟩) (S2.old ((Old.refl w7).drew) (C4.one (C4.old U7.out HC.out))) ?rk76
          case hk76 => (intro wz hSw; (try dsimp only at hSw); go_simp; try with_reducible rfl)
          (try simp only [Act.put]); (try simp only [List.setIfInBounds_toArray]); (try simp only [List.set_cons_succ]); (try simp only [List.set_cons_zero])
          refine wpAnyH_ready (rs := [7]) (by kernel_rfl) (by simp) ?_
          refine AllReadyH.cons (o := { dst := some 81, op := Op.call { callee := Callee.value (Operand.func 13), args := #[Operand.tmp 80], argTypes := #[25] }, type := 3, pos := "law.go:112", after := #[{ on := 6, ground := Ground.data }, { on := 5, ground := Ground.chain }, { on := 5, ground := Ground.guard }], guard := some (5, true) }) rfl (fun K hK => ?_) AllReadyH.nil
          refine wantCall1 ?_ 13 (.tmp 80) #[25] ?_ (.pointer (some ⟨hb2, 0, none⟩)) ?_ ?_ ((enters_of Tryd.func13 (by kernel_rfl) rfl) _ _) ?_
          · rfl
          · rfl
          · rfl
          · rfl
          refine (HVt.out _ ((Old.refl w7).drew)).mono ?_
          rintro o x77 ⟨rfl, hx77⟩
          subst hx77
          refine ⟨_, rfl, ?_⟩
          refine hK.out _ _ (S2.old ((Old.refl w7).drew) (C4.one (C4.old U7.out HC.out))) (fun _ => ?_)
          clear hK K
          (try simp only [Act.put]); (try simp only [List.setIfInBounds_toArray]); (try simp only [List.set_cons_succ]); (try simp only [List.set_cons_zero])
          refine wpAnyH_take (i := 10) (oi := { dst := some 84, op := Op.binOp BinOp.eql 3 (Operand.tmp 81) (Operand.tmp 83) 3, type := 4, pos := "law.go:112", after := #[{ on := 7, ground := Ground.data }, { on := 9, ground := Ground.data }, { on := 5, ground := Ground.guard }], guard := some (5, true) }) (v := ?vk78) rfl (by kernel_rfl) (by kernel_rfl) (by kernel_rfl) (fun _ _ _ h => h) (Or.inl ⟨by rfl, ?hk78⟩) (S2.old ((Old.refl w7).drew) (C4.one (C4.old U7.out HC.out))) ?rk78
          case hk78 => (intro wz hSw; (try dsimp only at hSw); go_simp; try with_reducible rfl)
          (try simp only [Act.put]); (try simp only [List.setIfInBounds_toArray]); (try simp only [List.set_cons_succ]); (try simp only [List.set_cons_zero])
          refine wpAnyH_take (i := 11) (oi := { dst := some 85, op := Op.pick (Operand.tmp 79) (Operand.tmp 84) (Operand.const (Value.bool false)), type := 4, pos := "law.go:112", after := #[{ on := 5, ground := Ground.data }, { on := 10, ground := Ground.data }], guard := none }) (v := ?vk79) rfl (by kernel_rfl) (by kernel_rfl) (by kernel_rfl) (fun _ _ _ h => h) (Or.inl ⟨by rfl, ?hk79⟩) (S2.old ((Old.refl w7).drew) (C4.one (C4.old U7.out HC.out))) ?rk79
          case hk79 => (intro wz hSw; (try dsimp only at hSw); go_simp; try with_reducible rfl)
          (try simp only [Act.put]); (try simp only [List.setIfInBounds_toArray]); (try simp only [List.set_cons_succ]); (try simp only [List.set_cons_zero])
          refine wpAnyH_ready (rs := [12]) (by kernel_rfl) (by simp) ?_
          refine AllReadyH.cons (o := { dst := some 15, op := Op.assign (Operand.tmp 85), type := 4, pos := "law.go:112", after := #[{ on := 11, ground := Ground.data }, { on := 7, ground := Ground.chain }, { on := 0, ground := Ground.phase }, { on := 1, ground := Ground.phase }, { on := 2, ground := Ground.phase }, { on := 3, ground := Ground.phase }, { on := 4, ground := Ground.phase }, { on := 5, ground := Ground.phase }, { on := 6, ground := Ground.phase }, { on := 7, ground := Ground.phase }, { on := 8, ground := Ground.phase }, { on := 9, ground := Ground.phase }, { on := 10, ground := Ground.phase }, { on := 11, ground := Ground.phase }], guard := none }) rfl (fun K hK => ?_) AllReadyH.nil
          go_simp
          refine hK.out _ _ (S2.old ((Old.refl w7).drew) (C4.one (C4.old U7.out HC.out))) (fun _ => ?_)
          clear hK K
          (try simp only [Act.put]); (try simp only [List.setIfInBounds_toArray]); (try simp only [List.set_cons_succ]); (try simp only [List.set_cons_zero])
          refine wpAnyH_done (by kernel_rfl) ?_ _
          refine NoPanic.normal ?_
          generalize World.drew w7 = w9 at *
          have UE := hid ((Old.refl w9).drew)
          go_upto_region 16 with (fail)
          refine wp_region_noPanic ?_
          refine wp_region_held_drew (S := fun wz => wz.cell? ⟨(g + 1), 1, none⟩ = some (.int .i64 t1) ∧ wz.cell? ⟨(g + 1), 2, none⟩ = some (.int .i64 v1)) (by kernel_rfl) ?_ (fun hHeld => ?_)
          · exact (S2.old ((Old.refl w9).drew) (C4.two (C4.old (U7.out.trans UD.out) HC.out)))
          (try simp only [Act.put]); (try simp only [List.setIfInBounds_toArray]); (try simp only [List.set_cons_succ]); (try simp only [List.set_cons_zero])
          clear hHeld
          refine wpAnyH_take (i := 0) (oi := { dst := some 86, op := Op.move (Operand.tmp 13), type := 25, pos := "law.go:113", after := #[], guard := none }) (v := ?vk80) rfl (by kernel_rfl) (by kernel_rfl) (by kernel_rfl) (fun _ _ _ h => h) (Or.inl ⟨by rfl, ?hk80⟩) (S2.old ((Old.refl w9).drew) (C4.two (C4.old (U7.out.trans UD.out) HC.out))) ?rk80
          case hk80 => (intro wz hSw; (try dsimp only at hSw); go_simp; try with_reducible rfl)
          (try simp only [Act.put]); (try simp only [List.setIfInBounds_toArray]); (try simp only [List.set_cons_succ]); (try simp only [List.set_cons_zero])
          refine wpAnyH_take (i := 2) (oi := { dst := some 88, op := Op.fieldAddr 36 (Operand.tmp 5) 1, type := 0, pos := "law.go:113", after := #[], guard := none }) (v := ?vk81) rfl (by kernel_rfl) (by kernel_rfl) (by kernel_rfl) (fun _ _ _ h => h) (Or.inl ⟨by rfl, ?hk81⟩) (S2.old ((Old.refl w9).drew) (C4.two (C4.old (U7.out.trans UD.out) HC.out))) ?rk81
          case hk81 => (intro wz hSw; (try dsimp only at hSw); go_simp; try with_reducible rfl)
          (try simp only [Act.put]); (try simp only [List.setIfInBounds_toArray]); (try simp only [List.set_cons_succ]); (try simp only [List.set_cons_zero])
          refine wpAnyH_take (i := 3) (oi := { dst := some 89, op := Op.load 2 (Operand.tmp 88), type := 2, pos := "law.go:113", after := #[{ on := 2, ground := Ground.data }], guard := none }) (v := ?vk82) rfl (by kernel_rfl) (by kernel_rfl) (by kernel_rfl) (fun _ _ _ h => h) (Or.inl ⟨by rfl, ?hk82⟩) (S2.old ((Old.refl w9).drew) (C4.two (C4.old (U7.out.trans UD.out) HC.out))) ?rk82
          case hk82 => (intro wz hSw; (try dsimp only at hSw); go_simp; try with_reducible rfl)
          (try simp only [Act.put]); (try simp only [List.setIfInBounds_toArray]); (try simp only [List.set_cons_succ]); (try simp only [List.set_cons_zero])
          refine wpAnyH_ready (rs := [1]) (by kernel_rfl) (by simp) ?_
          refine AllReadyH.cons (o := { dst := some 87, op := Op.call { callee := Callee.value (Operand.func 12), args := #[Operand.tmp 86], argTypes := #[25] }, type := 2, pos := "law.go:113", after := #[{ on := 0, ground := Ground.data }], guard := none }) rfl (fun K hK => ?_) AllReadyH.nil
          refine wantCall1 ?_ 12 (.tmp 86) #[25] ?_ (.pointer (some ⟨hb2, 0, none⟩)) ?_ ?_ ((enters_of Tryd.func12 (by kernel_rfl) rfl) _ _) ?_
          · rfl
          · rfl
          · rfl
          · rfl
          refine (HTm.out _ (UD.out.drew)).mono ?_
          rintro o x83 ⟨rfl, hx83⟩
          subst hx83
          refine ⟨_, rfl, ?_⟩
          refine hK.out _ _ (S2.old ((Old.refl w9).drew) (C4.two (C4.old (U7.out.trans UD.out) HC.out))) (fun _ => ?_)
          clear hK K
          (try simp only [Act.put]); (try simp only [List.setIfInBounds_toArray]); (try simp only [List.set_cons_succ]); (try simp only [List.set_cons_zero])
          refine wpAnyH_take (i := 4) (oi := { dst := some 90, op := Op.binOp BinOp.eql 2 (Operand.tmp 87) (Operand.tmp 89) 2, type := 4, pos := "law.go:113", after := #[{ on := 1, ground := Ground.data }, { on := 3, ground := Ground.data }], guard := none }) (v := ?vk84) rfl (by kernel_rfl) (by kernel_rfl) (by kernel_rfl) (fun _ _ _ h => h) (Or.inl ⟨by rfl, ?hk84⟩) (S2.old ((Old.refl w9).drew) (C4.two (C4.old (U7.out.trans UD.out) HC.out))) ?rk84
          case hk84 => (intro wz hSw; (try dsimp only at hSw); go_simp; try with_reducible rfl)
          (try simp only [Act.put]); (try simp only [List.setIfInBounds_toArray]); (try simp only [List.set_cons_succ]); (try simp only [List.set_cons_zero])
          refine wpAnyH_take (i := 5) (oi := { dst := some 91, op := Op.move (Operand.tmp 90), type := 4, pos := "law.go:113", after := #[{ on := 4, ground := Ground.data }, { on := 1, ground := Ground.chain }], guard := none }) (v := ?vk85) rfl (by kernel_rfl) (by kernel_rfl) (by kernel_rfl) (fun _ _ _ h => h) (Or.inl ⟨by rfl, ?hk85⟩) (S2.old ((Old.refl w9).drew) (C4.two (C4.old (U7.out.trans UD.out) HC.out))) ?rk85
          case hk85 => (intro wz hSw; (try dsimp only at hSw); go_simp; try with_reducible rfl)
          (try simp only [Act.put]); (try simp only [List.setIfInBounds_toArray]); (try simp only [List.set_cons_succ]); (try simp only [List.set_cons_zero])
          refine wpAnyH_take (i := 6) (oi := { dst := some 92, op := Op.move (Operand.tmp 13), type := 25, pos := "law.go:113", after := #[{ on := 5, ground := Ground.guard }], guard := some (5, true) }) (v := ?vk86) rfl (by kernel_rfl) (by kernel_rfl) (by kernel_rfl) (fun _ _ _ h => h) (Or.inl ⟨by rfl, ?hk86⟩) (S2.old ((Old.refl w9).drew) (C4.two (C4.old (U7.out.trans UD.out) HC.out))) ?rk86
          case hk86 => (intro wz hSw; (try dsimp only at hSw); go_simp; try with_reducible rfl)
          (try simp only [Act.put]); (try simp only [List.setIfInBounds_toArray]); (try simp only [List.set_cons_succ]); (try simp only [List.set_cons_zero])
          refine wpAnyH_take (i := 8) (oi := { dst := some 94, op := Op.fieldAddr 36 (Operand.tmp 5) 2, type := 0, pos := "law.go:113", after := #[{ on := 5, ground := Ground.guard }], guard := some (5, true) }) (v := ?vk87) rfl (by kernel_rfl) (by kernel_rfl) (by kernel_rfl) (fun _ _ _ h => h) (Or.inl ⟨by rfl, ?hk87⟩) (S2.old ((Old.refl w9).drew) (C4.two (C4.old (U7.out.trans UD.out) HC.out))) ?rk87
          case hk87 => (intro wz hSw; (try dsimp only at hSw); go_simp; try with_reducible rfl)
          (try simp only [Act.put]); (try simp only [List.setIfInBounds_toArray]); (try simp only [List.set_cons_succ]); (try simp only [List.set_cons_zero])
          refine wpAnyH_take (i := 9) (oi := { dst := some 95, op := Op.load 3 (Operand.tmp 94), type := 3, pos := "law.go:113", after := #[{ on := 8, ground := Ground.data }, { on := 5, ground := Ground.guard }], guard := some (5, true) }) (v := ?vk88) rfl (by kernel_rfl) (by kernel_rfl) (by kernel_rfl) (fun _ _ _ h => h) (Or.inl ⟨by rfl, ?hk88⟩) (S2.old ((Old.refl w9).drew) (C4.two (C4.old (U7.out.trans UD.out) HC.out))) ?rk88
          case hk88 => (intro wz hSw; (try dsimp only at hSw); go_simp; try with_reducible rfl)
          (try simp only [Act.put]); (try simp only [List.setIfInBounds_toArray]); (try simp only [List.set_cons_succ]); (try simp only [List.set_cons_zero])
          refine wpAnyH_ready (rs := [7]) (by kernel_rfl) (by simp) ?_
          refine AllReadyH.cons (o := { dst := some 93, op := Op.call { callee := Callee.value (Operand.func 13), args := #[Operand.tmp 92], argTypes := #[25] }, type := 3, pos := "law.go:113", after := #[{ on := 6, ground := Ground.data }, { on := 5, ground := Ground.chain }, { on := 5, ground := Ground.guard }], guard := some (5, true) }) rfl (fun K hK => ?_) AllReadyH.nil
          refine wantCall1 ?_ 13 (.tmp 92) #[25] ?_ (.pointer (some ⟨hb2, 0, none⟩)) ?_ ?_ ((enters_of Tryd.func13 (by kernel_rfl) rfl) _ _) ?_
          · rfl
          · rfl
          · rfl
          · rfl
          refine (HVt.out _ (UD.out.drew)).mono ?_
          rintro o x89 ⟨rfl, hx89⟩
          subst hx89
          refine ⟨_, rfl, ?_⟩
          refine hK.out _ _ (S2.old ((Old.refl w9).drew) (C4.two (C4.old (U7.out.trans UD.out) HC.out))) (fun _ => ?_)
          clear hK K
          (try simp only [Act.put]); (try simp only [List.setIfInBounds_toArray]); (try simp only [List.set_cons_succ]); (try simp only [List.set_cons_zero])
          refine wpAnyH_take (i := 10) (oi := { dst := some 96, op := Op.binOp BinOp.eql 3 (Operand.tmp 93) (Operand.tmp 95) 3, type := 4, pos := "law.go:113", after := #[{ on := 7, ground := Ground.data }, { on := 9, ground := Ground.data }, { on := 5, ground := Ground.guard }], guard := some (5, true) }) (v := ?vk90) rfl (by kernel_rfl) (by kernel_rfl) (by kernel_rfl) (fun _ _ _ h => h) (Or.inl ⟨by rfl, ?hk90⟩) (S2.old ((Old.refl w9).drew) (C4.two (C4.old (U7.out.trans UD.out) HC.out))) ?rk90
          case hk90 => (intro wz hSw; (try dsimp only at hSw); go_simp; try with_reducible rfl)
          (try simp only [Act.put]); (try simp only [List.setIfInBounds_toArray]); (try simp only [List.set_cons_succ]); (try simp only [List.set_cons_zero])
          refine wpAnyH_take (i := 11) (oi := { dst := some 97, op := Op.pick (Operand.tmp 91) (Operand.tmp 96) (Operand.const (Value.bool false)), type := 4, pos := "law.go:113", after := #[{ on := 5, ground := Ground.data }, { on := 10, ground := Ground.data }], guard := none }) (v := ?vk91) rfl (by kernel_rfl) (by kernel_rfl) (by kernel_rfl) (fun _ _ _ h => h) (Or.inl ⟨by rfl, ?hk91⟩) (S2.old ((Old.refl w9).drew) (C4.two (C4.old (U7.out.trans UD.out) HC.out))) ?rk91
          case hk91 => (intro wz hSw; (try dsimp only at hSw); go_simp; try with_reducible rfl)
          (try simp only [Act.put]); (try simp only [List.setIfInBounds_toArray]); (try simp only [List.set_cons_succ]); (try simp only [List.set_cons_zero])
          refine wpAnyH_ready (rs := [12]) (by kernel_rfl) (by simp) ?_
          refine AllReadyH.cons (o := { dst := some 16, op := Op.assign (Operand.tmp 97), type := 4, pos := "law.go:113", after := #[{ on := 11, ground := Ground.data }, { on := 7, ground := Ground.chain }, { on := 0, ground := Ground.phase }, { on := 1, ground := Ground.phase }, { on := 2, ground := Ground.phase }, { on := 3, ground := Ground.phase }, { on := 4, ground := Ground.phase }, { on := 5, ground := Ground.phase }, { on := 6, ground := Ground.phase }, { on := 7, ground := Ground.phase }, { on := 8, ground := Ground.phase }, { on := 9, ground := Ground.phase }, { on := 10, ground := Ground.phase }, { on := 11, ground := Ground.phase }], guard := none }) rfl (fun K hK => ?_) AllReadyH.nil
          go_simp
          refine hK.out _ _ (S2.old ((Old.refl w9).drew) (C4.two (C4.old (U7.out.trans UD.out) HC.out))) (fun _ => ?_)
          clear hK K
          (try simp only [Act.put]); (try simp only [List.setIfInBounds_toArray]); (try simp only [List.set_cons_succ]); (try simp only [List.set_cons_zero])
          refine wpAnyH_done (by kernel_rfl) ?_ _
          refine NoPanic.normal ?_
          generalize World.drew w9 = w10 at *
          go_wp2
          go_ret
          exact ⟨rfl, U0.out.trans (U7.out.trans (UD.out.trans UE.out))⟩
        · have d2 : (v1 == v2) = false := by rw [beq_eq_false_iff_ne]; exact z2
          refine wp_region_noPanic ?_
          refine wp_region_held_drew (S := fun wz => wz.cell? ⟨g, 1, none⟩ = some (.int .i64 t1) ∧ wz.cell? ⟨g, 2, none⟩ = some (.int .i64 v1)) (by kernel_rfl) ?_ (fun hHeld => ?_)
          · exact (S2.old ((Old.refl w7).drew) (C4.one (C4.old U7.out HC.out)))
          (try simp only [Act.put]); (try simp only [List.setIfInBounds_toArray]); (try simp only [List.set_cons_succ]); (try simp only [List.set_cons_zero])
          clear hHeld
          refine wpAnyH_take (i := 0) (oi := { dst := some 74, op := Op.move (Operand.tmp 13), type := 25, pos := "law.go:112", after := #[], guard := none }) (v := ?vk92) rfl (by kernel_rfl) (by kernel_rfl) (by kernel_rfl) (fun _ _ _ h => h) (Or.inl ⟨by rfl, ?hk92⟩) (S2.old ((Old.refl w7).drew) (C4.one (C4.old U7.out HC.out))) ?rk92
          case hk92 => (intro wz hSw; (try dsimp only at hSw); go_simp; try with_reducible rfl)
          (try simp only [Act.put]); (try simp only [List.setIfInBounds_toArray]); (try simp only [List.set_cons_succ]); (try simp only [List.set_cons_zero])
          refine wpAnyH_take (i := 2) (oi := { dst := some 76, op := Op.fieldAddr 36 (Operand.tmp 4) 1, type := 0, pos := "law.go:112", after := #[], guard := none }) (v := ?vk93) rfl (by kernel_rfl) (by kernel_rfl) (by kernel_rfl) (fun _ _ _ h => h) (Or.inl ⟨by rfl, ?hk93⟩) (S2.old ((Old.refl w7).drew) (C4.one (C4.old U7.out HC.out))) ?rk93
          case hk93 => (intro wz hSw; (try dsimp only at hSw); go_simp; try with_reducible rfl)
          (try simp only [Act.put]); (try simp only [List.setIfInBounds_toArray]); (try simp only [List.set_cons_succ]); (try simp only [List.set_cons_zero])
          refine wpAnyH_take (i := 3) (oi := { dst := some 77, op := Op.load 2 (Operand.tmp 76), type := 2, pos := "law.go:112", after := #[{ on := 2, ground := Ground.data }], guard := none }) (v := ?vk94) rfl (by kernel_rfl) (by kernel_rfl) (by kernel_rfl) (fun _ _ _ h => h) (Or.inl ⟨by rfl, ?hk94⟩) (S2.old ((Old.refl w7).drew) (C4.one (C4.old U7.out HC.out))) ?rk94
          case hk94 => (intro wz hSw; (try dsimp only at hSw); go_simp; try with_reducible rfl)
          (try simp only [Act.put]); (try simp only [List.setIfInBounds_toArray]); (try simp only [List.set_cons_succ]); (try simp only [List.set_cons_zero])
          refine wpAnyH_ready (rs := [1]) (by kernel_rfl) (by simp) ?_
          refine AllReadyH.cons (o := { dst := some 75, op := Op.call { callee := Callee.value (Operand.func 12), args := #[Operand.tmp 74], argTypes := #[25] }, type := 2, pos := "law.go:112", after := #[{ on := 0, ground := Ground.data }], guard := none }) rfl (fun K hK => ?_) AllReadyH.nil
          refine wantCall1 ?_ 12 (.tmp 74) #[25] ?_ (.pointer (some ⟨hb2, 0, none⟩)) ?_ ?_ ((enters_of Tryd.func12 (by kernel_rfl) rfl) _ _) ?_
          · rfl
          · rfl
          · rfl
          · rfl
          refine (HTm.out _ ((Old.refl w7).drew)).mono ?_
          rintro o x95 ⟨rfl, hx95⟩
          subst hx95
          refine ⟨_, rfl, ?_⟩
          refine hK.out _ _ (S2.old ((Old.refl w7).drew) (C4.one (C4.old U7.out HC.out))) (fun _ => ?_)
          clear hK K
          (try simp only [Act.put]); (try simp only [List.setIfInBounds_toArray]); (try simp only [List.set_cons_succ]); (try simp only [List.set_cons_zero])
          refine wpAnyH_take (i := 4) (oi := { dst := some 78, op := Op.binOp BinOp.eql 2 (Operand.tmp 75) (Operand.tmp 77) 2, type := 4, pos := "law.go:112", after := #[{ on := 1, ground := Ground.data }, { on := 3, ground := Ground.data }], guard := none }) (v := ?vk96) rfl (by kernel_rfl) (by kernel_rfl) (by kernel_rfl) (fun _ _ _ h => h) (Or.inl ⟨by rfl, ?hk96⟩) (S2.old ((Old.refl w7).drew) (C4.one (C4.old U7.out HC.out))) ?rk96
          case hk96 => (intro wz hSw; (try dsimp only at hSw); go_simp; try with_reducible rfl)
          (try simp only [Act.put]); (try simp only [List.setIfInBounds_toArray]); (try simp only [List.set_cons_succ]); (try simp only [List.set_cons_zero])
          refine wpAnyH_take (i := 5) (oi := { dst := some 79, op := Op.move (Operand.tmp 78), type := 4, pos := "law.go:112", after := #[{ on := 4, ground := Ground.data }, { on := 1, ground := Ground.chain }], guard := none }) (v := ?vk97) rfl (by kernel_rfl) (by kernel_rfl) (by kernel_rfl) (fun _ _ _ h => h) (Or.inl ⟨by rfl, ?hk97⟩) (S2.old ((Old.refl w7).drew) (C4.one (C4.old U7.out HC.out))) ?rk97
          case hk97 => (intro wz hSw; (try dsimp only at hSw); go_simp; try with_reducible rfl)
          (try simp only [Act.put]); (try simp only [List.setIfInBounds_toArray]); (try simp only [List.set_cons_succ]); (try simp only [List.set_cons_zero])
          refine wpAnyH_take (i := 6) (oi := { dst := some 80, op := Op.move (Operand.tmp 13), type := 25, pos := "law.go:112", after := #[{ on := 5, ground := Ground.guard }], guard := some (5, true) }) (v := ?vk98) rfl (by kernel_rfl) (by kernel_rfl) (by kernel_rfl) (fun _ _ _ h => h) (Or.inl ⟨by rfl, ?hk98⟩) (S2.old ((Old.refl w7).drew) (C4.one (C4.old U7.out HC.out))) ?rk98
          case hk98 => (intro wz hSw; (try dsimp only at hSw); go_simp; try with_reducible rfl)
          (try simp only [Act.put]); (try simp only [List.setIfInBounds_toArray]); (try simp only [List.set_cons_succ]); (try simp only [List.set_cons_zero])
          refine wpAnyH_take (i := 8) (oi := { dst := some 82, op := Op.fieldAddr 36 (Operand.tmp 4) 2, type := 0, pos := "law.go:112", after := #[{ on := 5, ground := Ground.guard }], guard := some (5, true) }) (v := ?vk99) rfl (by kernel_rfl) (by kernel_rfl) (by kernel_rfl) (fun _ _ _ h => h) (Or.inl ⟨by rfl, ?hk99⟩) (S2.old ((Old.refl w7).drew) (C4.one (C4.old U7.out HC.out))) ?rk99
          case hk99 => (intro wz hSw; (try dsimp only at hSw); go_simp; try with_reducible rfl)
          (try simp only [Act.put]); (try simp only [List.setIfInBounds_toArray]); (try simp only [List.set_cons_succ]); (try simp only [List.set_cons_zero])
          refine wpAnyH_take (i := 9) (oi := { dst := some 83, op := Op.load 3 (Operand.tmp 82), type := 3, pos := "law.go:112", after := #[{ on := 8, ground := Ground.data }, { on := 5, ground := Ground.guard }], guard := some (5, true) }) (v := ?vk100) rfl (by kernel_rfl) (by kernel_rfl) (by kernel_rfl) (fun _ _ _ h => h) (Or.inl ⟨by rfl, ?hk100⟩) (S2.old ((Old.refl w7).drew) (C4.one (C4.old U7.out HC.out))) ?rk100
          case hk100 => (intro wz hSw; (try dsimp only at hSw); go_simp; try with_reducible rfl)
          (try simp only [Act.put]); (try simp only [List.setIfInBounds_toArray]); (try simp only [List.set_cons_succ]); (try simp only [List.set_cons_zero])
          refine wpAnyH_ready (rs := [7]) (by kernel_rfl) (by simp) ?_
          refine AllReadyH.cons (o := { dst := some 81, op := Op.call { callee := Callee.value (Operand.func 13), args := #[Operand.tmp 80], argTypes := #[25] }, type := 3, pos := "law.go:112", after := #[{ on := 6, ground := Ground.data }, { on := 5, ground := Ground.chain }, { on := 5, ground := Ground.guard }], guard := some (5, true) }) rfl (fun K hK => ?_) AllReadyH.nil
          refine wantCall1 ?_ 13 (.tmp 80) #[25] ?_ (.pointer (some ⟨hb2, 0, none⟩)) ?_ ?_ ((enters_of Tryd.func13 (by kernel_rfl) rfl) _ _) ?_
          · rfl
          · rfl
          · rfl
          · rfl
          refine (HVt.out _ ((Old.refl w7).drew)).mono ?_
          rintro o x101 ⟨rfl, hx101⟩
          subst hx101
          refine ⟨_, rfl, ?_⟩
          refine hK.out _ _ (S2.old ((Old.refl w7).drew) (C4.one (C4.old U7.out HC.out))) (fun _ => ?_)
          clear hK K
          (try simp only [Act.put]); (try simp only [List.setIfInBounds_toArray]); (try simp only [List.set_cons_succ]); (try simp only [List.set_cons_zero])
          refine wpAnyH_take (i := 10) (oi := { dst := some 84, op := Op.binOp BinOp.eql 3 (Operand.tmp 81) (Operand.tmp 83) 3, type := 4, pos := "law.go:112", after := #[{ on := 7, ground := Ground.data }, { on := 9, ground := Ground.data }, { on := 5, ground := Ground.guard }], guard := some (5, true) }) (v := ?vk102) rfl (by kernel_rfl) (by kernel_rfl) (by kernel_rfl) (fun _ _ _ h => h) (Or.inl ⟨by rfl, ?hk102⟩) (S2.old ((Old.refl w7).drew) (C4.one (C4.old U7.out HC.out))) ?rk102
          case hk102 => (intro wz hSw; (try dsimp only at hSw); go_simp; try with_reducible rfl)
          (try simp only [Act.put]); (try simp only [List.setIfInBounds_toArray]); (try simp only [List.set_cons_succ]); (try simp only [List.set_cons_zero])
          refine wpAnyH_take (i := 11) (oi := { dst := some 85, op := Op.pick (Operand.tmp 79) (Operand.tmp 84) (Operand.const (Value.bool false)), type := 4, pos := "law.go:112", after := #[{ on := 5, ground := Ground.data }, { on := 10, ground := Ground.data }], guard := none }) (v := ?vk103) rfl (by kernel_rfl) (by kernel_rfl) (by kernel_rfl) (fun _ _ _ h => h) (Or.inl ⟨by rfl, ?hk103⟩) (S2.old ((Old.refl w7).drew) (C4.one (C4.old U7.out HC.out))) ?rk103
          case hk103 => (intro wz hSw; (try dsimp only at hSw); go_simp; try with_reducible rfl)
          (try simp only [Act.put]); (try simp only [List.setIfInBounds_toArray]); (try simp only [List.set_cons_succ]); (try simp only [List.set_cons_zero])
          refine wpAnyH_ready (rs := [12]) (by kernel_rfl) (by simp) ?_
          refine AllReadyH.cons (o := { dst := some 15, op := Op.assign (Operand.tmp 85), type := 4, pos := "law.go:112", after := #[{ on := 11, ground := Ground.data }, { on := 7, ground := Ground.chain }, { on := 0, ground := Ground.phase }, { on := 1, ground := Ground.phase }, { on := 2, ground := Ground.phase }, { on := 3, ground := Ground.phase }, { on := 4, ground := Ground.phase }, { on := 5, ground := Ground.phase }, { on := 6, ground := Ground.phase }, { on := 7, ground := Ground.phase }, { on := 8, ground := Ground.phase }, { on := 9, ground := Ground.phase }, { on := 10, ground := Ground.phase }, { on := 11, ground := Ground.phase }], guard := none }) rfl (fun K hK => ?_) AllReadyH.nil
          go_simp
          refine hK.out _ _ (S2.old ((Old.refl w7).drew) (C4.one (C4.old U7.out HC.out))) (fun _ => ?_)
          clear hK K
          (try simp only [Act.put]); (try simp only [List.setIfInBounds_toArray]); (try simp only [List.set_cons_succ]); (try simp only [List.set_cons_zero])
          refine wpAnyH_done (by kernel_rfl) ?_ _
          refine NoPanic.normal ?_
          generalize World.drew w7 = w9 at *
          have UE := hid ((Old.refl w9).drew)
          go_upto_region 16 with (fail)
          refine wp_region_noPanic ?_
          refine wp_region_held_drew (S := fun wz => wz.cell? ⟨(g + 1), 1, none⟩ = some (.int .i64 t1) ∧ wz.cell? ⟨(g + 1), 2, none⟩ = some (.int .i64 v2)) (by kernel_rfl) ?_ (fun hHeld => ?_)
          · exact (S2.old ((Old.refl w9).drew) (C4.two (C4.old (U7.out.trans UD.out) HC.out)))
          (try simp only [Act.put]); (try simp only [List.setIfInBounds_toArray]); (try simp only [List.set_cons_succ]); (try simp only [List.set_cons_zero])
          clear hHeld
          refine wpAnyH_take (i := 0) (oi := { dst := some 86, op := Op.move (Operand.tmp 13), type := 25, pos := "law.go:113", after := #[], guard := none }) (v := ?vk104) rfl (by kernel_rfl) (by kernel_rfl) (by kernel_rfl) (fun _ _ _ h => h) (Or.inl ⟨by rfl, ?hk104⟩) (S2.old ((Old.refl w9).drew) (C4.two (C4.old (U7.out.trans UD.out) HC.out))) ?rk104
          case hk104 => (intro wz hSw; (try dsimp only at hSw); go_simp; try with_reducible rfl)
          (try simp only [Act.put]); (try simp only [List.setIfInBounds_toArray]); (try simp only [List.set_cons_succ]); (try simp only [List.set_cons_zero])
          refine wpAnyH_take (i := 2) (oi := { dst := some 88, op := Op.fieldAddr 36 (Operand.tmp 5) 1, type := 0, pos := "law.go:113", after := #[], guard := none }) (v := ?vk105) rfl (by kernel_rfl) (by kernel_rfl) (by kernel_rfl) (fun _ _ _ h => h) (Or.inl ⟨by rfl, ?hk105⟩) (S2.old ((Old.refl w9).drew) (C4.two (C4.old (U7.out.trans UD.out) HC.out))) ?rk105
          case hk105 => (intro wz hSw; (try dsimp only at hSw); go_simp; try with_reducible rfl)
          (try simp only [Act.put]); (try simp only [List.setIfInBounds_toArray]); (try simp only [List.set_cons_succ]); (try simp only [List.set_cons_zero])
          refine wpAnyH_take (i := 3) (oi := { dst := some 89, op := Op.load 2 (Operand.tmp 88), type := 2, pos := "law.go:113", after := #[{ on := 2, ground := Ground.data }], guard := none }) (v := ?vk106) rfl (by kernel_rfl) (by kernel_rfl) (by kernel_rfl) (fun _ _ _ h => h) (Or.inl ⟨by rfl, ?hk106⟩) (S2.old ((Old.refl w9).drew) (C4.two (C4.old (U7.out.trans UD.out) HC.out))) ?rk106
          case hk106 => (intro wz hSw; (try dsimp only at hSw); go_simp; try with_reducible rfl)
          (try simp only [Act.put]); (try simp only [List.setIfInBounds_toArray]); (try simp only [List.set_cons_succ]); (try simp only [List.set_cons_zero])
          refine wpAnyH_ready (rs := [1]) (by kernel_rfl) (by simp) ?_
          refine AllReadyH.cons (o := { dst := some 87, op := Op.call { callee := Callee.value (Operand.func 12), args := #[Operand.tmp 86], argTypes := #[25] }, type := 2, pos := "law.go:113", after := #[{ on := 0, ground := Ground.data }], guard := none }) rfl (fun K hK => ?_) AllReadyH.nil
          refine wantCall1 ?_ 12 (.tmp 86) #[25] ?_ (.pointer (some ⟨hb2, 0, none⟩)) ?_ ?_ ((enters_of Tryd.func12 (by kernel_rfl) rfl) _ _) ?_
          · rfl
          · rfl
          · rfl
          · rfl
          refine (HTm.out _ (UD.out.drew)).mono ?_
          rintro o x107 ⟨rfl, hx107⟩
          subst hx107
          refine ⟨_, rfl, ?_⟩
          refine hK.out _ _ (S2.old ((Old.refl w9).drew) (C4.two (C4.old (U7.out.trans UD.out) HC.out))) (fun _ => ?_)
          clear hK K
          (try simp only [Act.put]); (try simp only [List.setIfInBounds_toArray]); (try simp only [List.set_cons_succ]); (try simp only [List.set_cons_zero])
          refine wpAnyH_take (i := 4) (oi := { dst := some 90, op := Op.binOp BinOp.eql 2 (Operand.tmp 87) (Operand.tmp 89) 2, type := 4, pos := "law.go:113", after := #[{ on := 1, ground := Ground.data }, { on := 3, ground := Ground.data }], guard := none }) (v := ?vk108) rfl (by kernel_rfl) (by kernel_rfl) (by kernel_rfl) (fun _ _ _ h => h) (Or.inl ⟨by rfl, ?hk108⟩) (S2.old ((Old.refl w9).drew) (C4.two (C4.old (U7.out.trans UD.out) HC.out))) ?rk108
          case hk108 => (intro wz hSw; (try dsimp only at hSw); go_simp; try with_reducible rfl)
          (try simp only [Act.put]); (try simp only [List.setIfInBounds_toArray]); (try simp only [List.set_cons_succ]); (try simp only [List.set_cons_zero])
          refine wpAnyH_take (i := 5) (oi := { dst := some 91, op := Op.move (Operand.tmp 90), type := 4, pos := "law.go:113", after := #[{ on := 4, ground := Ground.data }, { on := 1, ground := Ground.chain }], guard := none }) (v := ?vk109) rfl (by kernel_rfl) (by kernel_rfl) (by kernel_rfl) (fun _ _ _ h => h) (Or.inl ⟨by rfl, ?hk109⟩) (S2.old ((Old.refl w9).drew) (C4.two (C4.old (U7.out.trans UD.out) HC.out))) ?rk109
          case hk109 => (intro wz hSw; (try dsimp only at hSw); go_simp; try with_reducible rfl)
          (try simp only [Act.put]); (try simp only [List.setIfInBounds_toArray]); (try simp only [List.set_cons_succ]); (try simp only [List.set_cons_zero])
          refine wpAnyH_take (i := 6) (oi := { dst := some 92, op := Op.move (Operand.tmp 13), type := 25, pos := "law.go:113", after := #[{ on := 5, ground := Ground.guard }], guard := some (5, true) }) (v := ?vk110) rfl (by kernel_rfl) (by kernel_rfl) (by kernel_rfl) (fun _ _ _ h => h) (Or.inl ⟨by rfl, ?hk110⟩) (S2.old ((Old.refl w9).drew) (C4.two (C4.old (U7.out.trans UD.out) HC.out))) ?rk110
          case hk110 => (intro wz hSw; (try dsimp only at hSw); go_simp; try with_reducible rfl)
          (try simp only [Act.put]); (try simp only [List.setIfInBounds_toArray]); (try simp only [List.set_cons_succ]); (try simp only [List.set_cons_zero])
          refine wpAnyH_take (i := 8) (oi := { dst := some 94, op := Op.fieldAddr 36 (Operand.tmp 5) 2, type := 0, pos := "law.go:113", after := #[{ on := 5, ground := Ground.guard }], guard := some (5, true) }) (v := ?vk111) rfl (by kernel_rfl) (by kernel_rfl) (by kernel_rfl) (fun _ _ _ h => h) (Or.inl ⟨by rfl, ?hk111⟩) (S2.old ((Old.refl w9).drew) (C4.two (C4.old (U7.out.trans UD.out) HC.out))) ?rk111
          case hk111 => (intro wz hSw; (try dsimp only at hSw); go_simp; try with_reducible rfl)
          (try simp only [Act.put]); (try simp only [List.setIfInBounds_toArray]); (try simp only [List.set_cons_succ]); (try simp only [List.set_cons_zero])
          refine wpAnyH_take (i := 9) (oi := { dst := some 95, op := Op.load 3 (Operand.tmp 94), type := 3, pos := "law.go:113", after := #[{ on := 8, ground := Ground.data }, { on := 5, ground := Ground.guard }], guard := some (5, true) }) (v := ?vk112) rfl (by kernel_rfl) (by kernel_rfl) (by kernel_rfl) (fun _ _ _ h => h) (Or.inl ⟨by rfl, ?hk112⟩) (S2.old ((Old.refl w9).drew) (C4.two (C4.old (U7.out.trans UD.out) HC.out))) ?rk112
          case hk112 => (intro wz hSw; (try dsimp only at hSw); go_simp; try with_reducible rfl)
          (try simp only [Act.put]); (try simp only [List.setIfInBounds_toArray]); (try simp only [List.set_cons_succ]); (try simp only [List.set_cons_zero])
          refine wpAnyH_ready (rs := [7]) (by kernel_rfl) (by simp) ?_
          refine AllReadyH.cons (o := { dst := some 93, op := Op.call { callee := Callee.value (Operand.func 13), args := #[Operand.tmp 92], argTypes := #[25] }, type := 3, pos := "law.go:113", after := #[{ on := 6, ground := Ground.data }, { on := 5, ground := Ground.chain }, { on := 5, ground := Ground.guard }], guard := some (5, true) }) rfl (fun K hK => ?_) AllReadyH.nil
          refine wantCall1 ?_ 13 (.tmp 92) #[25] ?_ (.pointer (some ⟨hb2, 0, none⟩)) ?_ ?_ ((enters_of Tryd.func13 (by kernel_rfl) rfl) _ _) ?_
          · rfl
          · rfl
          · rfl
          · rfl
          refine (HVt.out _ (UD.out.drew)).mono ?_
          rintro o x113 ⟨rfl, hx113⟩
          subst hx113
          refine ⟨_, rfl, ?_⟩
          refine hK.out _ _ (S2.old ((Old.refl w9).drew) (C4.two (C4.old (U7.out.trans UD.out) HC.out))) (fun _ => ?_)
          clear hK K
          (try simp only [Act.put]); (try simp only [List.setIfInBounds_toArray]); (try simp only [List.set_cons_succ]); (try simp only [List.set_cons_zero])
          refine wpAnyH_take (i := 10) (oi := { dst := some 96, op := Op.binOp BinOp.eql 3 (Operand.tmp 93) (Operand.tmp 95) 3, type := 4, pos := "law.go:113", after := #[{ on := 7, ground := Ground.data }, { on := 9, ground := Ground.data }, { on := 5, ground := Ground.guard }], guard := some (5, true) }) (v := ?vk114) rfl (by kernel_rfl) (by kernel_rfl) (by kernel_rfl) (fun _ _ _ h => h) (Or.inl ⟨by rfl, ?hk114⟩) (S2.old ((Old.refl w9).drew) (C4.two (C4.old (U7.out.trans UD.out) HC.out))) ?rk114
          case hk114 => (intro wz hSw; (try dsimp only at hSw); go_simp; try with_reducible rfl)
          (try simp only [Act.put]); (try simp only [List.setIfInBounds_toArray]); (try simp only [List.set_cons_succ]); (try simp only [List.set_cons_zero])
          refine wpAnyH_take (i := 11) (oi := { dst := some 97, op := Op.pick (Operand.tmp 91) (Operand.tmp 96) (Operand.const (Value.bool false)), type := 4, pos := "law.go:113", after := #[{ on := 5, ground := Ground.data }, { on := 10, ground := Ground.data }], guard := none }) (v := ?vk115) rfl (by kernel_rfl) (by kernel_rfl) (by kernel_rfl) (fun _ _ _ h => h) (Or.inl ⟨by rfl, ?hk115⟩) (S2.old ((Old.refl w9).drew) (C4.two (C4.old (U7.out.trans UD.out) HC.out))) ?rk115
          case hk115 => (intro wz hSw; (try dsimp only at hSw); go_simp; try with_reducible rfl)
          (try simp only [Act.put]); (try simp only [List.setIfInBounds_toArray]); (try simp only [List.set_cons_succ]); (try simp only [List.set_cons_zero])
          refine wpAnyH_ready (rs := [12]) (by kernel_rfl) (by simp) ?_
          refine AllReadyH.cons (o := { dst := some 16, op := Op.assign (Operand.tmp 97), type := 4, pos := "law.go:113", after := #[{ on := 11, ground := Ground.data }, { on := 7, ground := Ground.chain }, { on := 0, ground := Ground.phase }, { on := 1, ground := Ground.phase }, { on := 2, ground := Ground.phase }, { on := 3, ground := Ground.phase }, { on := 4, ground := Ground.phase }, { on := 5, ground := Ground.phase }, { on := 6, ground := Ground.phase }, { on := 7, ground := Ground.phase }, { on := 8, ground := Ground.phase }, { on := 9, ground := Ground.phase }, { on := 10, ground := Ground.phase }, { on := 11, ground := Ground.phase }], guard := none }) rfl (fun K hK => ?_) AllReadyH.nil
          go_simp
          refine hK.out _ _ (S2.old ((Old.refl w9).drew) (C4.two (C4.old (U7.out.trans UD.out) HC.out))) (fun _ => ?_)
          clear hK K
          (try simp only [Act.put]); (try simp only [List.setIfInBounds_toArray]); (try simp only [List.set_cons_succ]); (try simp only [List.set_cons_zero])
          refine wpAnyH_done (by kernel_rfl) ?_ _
          refine NoPanic.normal ?_
          generalize World.drew w9 = w10 at *
          go_wp2
          go_ret
          exact ⟨rfl, U0.out.trans (U7.out.trans (UD.out.trans UE.out))⟩
      · have d1 : (t1 == t2) = false := by rw [beq_eq_false_iff_ne]; exact z1
        refine wp_region_noPanic ?_
        refine wp_region_held_drew (S := fun wz => wz.cell? ⟨g, 1, none⟩ = some (.int .i64 t1) ∧ wz.cell? ⟨g, 2, none⟩ = some (.int .i64 v1)) (by kernel_rfl) ?_ (fun hHeld => ?_)
        · exact (S2.old ((Old.refl w7).drew) (C4.one (C4.old U7.out HC.out)))
        (try simp only [Act.put]); (try simp only [List.setIfInBounds_toArray]); (try simp only [List.set_cons_succ]); (try simp only [List.set_cons_zero])
        clear hHeld
        refine wpAnyH_take (i := 0) (oi := { dst := some 74, op := Op.move (Operand.tmp 13), type := 25, pos := "law.go:112", after := #[], guard := none }) (v := ?vk116) rfl (by kernel_rfl) (by kernel_rfl) (by kernel_rfl) (fun _ _ _ h => h) (Or.inl ⟨by rfl, ?hk116⟩) (S2.old ((Old.refl w7).drew) (C4.one (C4.old U7.out HC.out))) ?rk116
        case hk116 => (intro wz hSw; (try dsimp only at hSw); go_simp; try with_reducible rfl)
        (try simp only [Act.put]); (try simp only [List.setIfInBounds_toArray]); (try simp only [List.set_cons_succ]); (try simp only [List.set_cons_zero])
        refine wpAnyH_take (i := 2) (oi := { dst := some 76, op := Op.fieldAddr 36 (Operand.tmp 4) 1, type := 0, pos := "law.go:112", after := #[], guard := none }) (v := ?vk117) rfl (by kernel_rfl) (by kernel_rfl) (by kernel_rfl) (fun _ _ _ h => h) (Or.inl ⟨by rfl, ?hk117⟩) (S2.old ((Old.refl w7).drew) (C4.one (C4.old U7.out HC.out))) ?rk117
        case hk117 => (intro wz hSw; (try dsimp only at hSw); go_simp; try with_reducible rfl)
        (try simp only [Act.put]); (try simp only [List.setIfInBounds_toArray]); (try simp only [List.set_cons_succ]); (try simp only [List.set_cons_zero])
        refine wpAnyH_take (i := 3) (oi := { dst := some 77, op := Op.load 2 (Operand.tmp 76), type := 2, pos := "law.go:112", after := #[{ on := 2, ground := Ground.data }], guard := none }) (v := ?vk118) rfl (by kernel_rfl) (by kernel_rfl) (by kernel_rfl) (fun _ _ _ h => h) (Or.inl ⟨by rfl, ?hk118⟩) (S2.old ((Old.refl w7).drew) (C4.one (C4.old U7.out HC.out))) ?rk118
        case hk118 => (intro wz hSw; (try dsimp only at hSw); go_simp; try with_reducible rfl)
        (try simp only [Act.put]); (try simp only [List.setIfInBounds_toArray]); (try simp only [List.set_cons_succ]); (try simp only [List.set_cons_zero])
        refine wpAnyH_ready (rs := [1]) (by kernel_rfl) (by simp) ?_
        refine AllReadyH.cons (o := { dst := some 75, op := Op.call { callee := Callee.value (Operand.func 12), args := #[Operand.tmp 74], argTypes := #[25] }, type := 2, pos := "law.go:112", after := #[{ on := 0, ground := Ground.data }], guard := none }) rfl (fun K hK => ?_) AllReadyH.nil
        refine wantCall1 ?_ 12 (.tmp 74) #[25] ?_ (.pointer (some ⟨hb2, 0, none⟩)) ?_ ?_ ((enters_of Tryd.func12 (by kernel_rfl) rfl) _ _) ?_
        · rfl
        · rfl
        · rfl
        · rfl
        refine (HTm.out _ ((Old.refl w7).drew)).mono ?_
        rintro o x119 ⟨rfl, hx119⟩
        subst hx119
        refine ⟨_, rfl, ?_⟩
        refine hK.out _ _ (S2.old ((Old.refl w7).drew) (C4.one (C4.old U7.out HC.out))) (fun _ => ?_)
        clear hK K
        (try simp only [Act.put]); (try simp only [List.setIfInBounds_toArray]); (try simp only [List.set_cons_succ]); (try simp only [List.set_cons_zero])
        refine wpAnyH_take (i := 4) (oi := { dst := some 78, op := Op.binOp BinOp.eql 2 (Operand.tmp 75) (Operand.tmp 77) 2, type := 4, pos := "law.go:112", after := #[{ on := 1, ground := Ground.data }, { on := 3, ground := Ground.data }], guard := none }) (v := ?vk120) rfl (by kernel_rfl) (by kernel_rfl) (by kernel_rfl) (fun _ _ _ h => h) (Or.inl ⟨by rfl, ?hk120⟩) (S2.old ((Old.refl w7).drew) (C4.one (C4.old U7.out HC.out))) ?rk120
        case hk120 => (intro wz hSw; (try dsimp only at hSw); go_simp; try with_reducible rfl)
        (try simp only [Act.put]); (try simp only [List.setIfInBounds_toArray]); (try simp only [List.set_cons_succ]); (try simp only [List.set_cons_zero])
        refine wpAnyH_take (i := 5) (oi := { dst := some 79, op := Op.move (Operand.tmp 78), type := 4, pos := "law.go:112", after := #[{ on := 4, ground := Ground.data }, { on := 1, ground := Ground.chain }], guard := none }) (v := ?vk121) rfl (by kernel_rfl) (by kernel_rfl) (by kernel_rfl) (fun _ _ _ h => h) (Or.inl ⟨by rfl, ?hk121⟩) (S2.old ((Old.refl w7).drew) (C4.one (C4.old U7.out HC.out))) ?rk121
        case hk121 => (intro wz hSw; (try dsimp only at hSw); go_simp; try with_reducible rfl)
        (try simp only [Act.put]); (try simp only [List.setIfInBounds_toArray]); (try simp only [List.set_cons_succ]); (try simp only [List.set_cons_zero])
        refine wpAnyH_take (i := 6) (oi := { dst := some 80, op := Op.move (Operand.tmp 13), type := 25, pos := "law.go:112", after := #[{ on := 5, ground := Ground.guard }], guard := some (5, true) }) (v := ?vk122) rfl (by kernel_rfl) (by kernel_rfl) (by kernel_rfl) (fun _ _ _ h => h) (Or.inl ⟨by rfl, ?hk122⟩) (S2.old ((Old.refl w7).drew) (C4.one (C4.old U7.out HC.out))) ?rk122
        case hk122 => (intro wz hSw; (try dsimp only at hSw); go_simp; try with_reducible rfl)
        (try simp only [Act.put]); (try simp only [List.setIfInBounds_toArray]); (try simp only [List.set_cons_succ]); (try simp only [List.set_cons_zero])
        refine wpAnyH_take (i := 8) (oi := { dst := some 82, op := Op.fieldAddr 36 (Operand.tmp 4) 2, type := 0, pos := "law.go:112", after := #[{ on := 5, ground := Ground.guard }], guard := some (5, true) }) (v := ?vk123) rfl (by kernel_rfl) (by kernel_rfl) (by kernel_rfl) (fun _ _ _ h => h) (Or.inl ⟨by rfl, ?hk123⟩) (S2.old ((Old.refl w7).drew) (C4.one (C4.old U7.out HC.out))) ?rk123
        case hk123 => (intro wz hSw; (try dsimp only at hSw); go_simp; try with_reducible rfl)
        (try simp only [Act.put]); (try simp only [List.setIfInBounds_toArray]); (try simp only [List.set_cons_succ]); (try simp only [List.set_cons_zero])
        refine wpAnyH_take (i := 9) (oi := { dst := some 83, op := Op.load 3 (Operand.tmp 82), type := 3, pos := "law.go:112", after := #[{ on := 8, ground := Ground.data }, { on := 5, ground := Ground.guard }], guard := some (5, true) }) (v := ?vk124) rfl (by kernel_rfl) (by kernel_rfl) (by kernel_rfl) (fun _ _ _ h => h) (Or.inl ⟨by rfl, ?hk124⟩) (S2.old ((Old.refl w7).drew) (C4.one (C4.old U7.out HC.out))) ?rk124
        case hk124 => (intro wz hSw; (try dsimp only at hSw); go_simp; try with_reducible rfl)
        (try simp only [Act.put]); (try simp only [List.setIfInBounds_toArray]); (try simp only [List.set_cons_succ]); (try simp only [List.set_cons_zero])
        refine wpAnyH_ready (rs := [7]) (by kernel_rfl) (by simp) ?_
        refine AllReadyH.cons (o := { dst := some 81, op := Op.call { callee := Callee.value (Operand.func 13), args := #[Operand.tmp 80], argTypes := #[25] }, type := 3, pos := "law.go:112", after := #[{ on := 6, ground := Ground.data }, { on := 5, ground := Ground.chain }, { on := 5, ground := Ground.guard }], guard := some (5, true) }) rfl (fun K hK => ?_) AllReadyH.nil
        refine wantCall1 ?_ 13 (.tmp 80) #[25] ?_ (.pointer (some ⟨hb2, 0, none⟩)) ?_ ?_ ((enters_of Tryd.func13 (by kernel_rfl) rfl) _ _) ?_
        · rfl
        · rfl
        · rfl
        · rfl
        refine (HVt.out _ ((Old.refl w7).drew)).mono ?_
        rintro o x125 ⟨rfl, hx125⟩
        subst hx125
        refine ⟨_, rfl, ?_⟩
        refine hK.out _ _ (S2.old ((Old.refl w7).drew) (C4.one (C4.old U7.out HC.out))) (fun _ => ?_)
        clear hK K
        (try simp only [Act.put]); (try simp only [List.setIfInBounds_toArray]); (try simp only [List.set_cons_succ]); (try simp only [List.set_cons_zero])
        refine wpAnyH_take (i := 10) (oi := { dst := some 84, op := Op.binOp BinOp.eql 3 (Operand.tmp 81) (Operand.tmp 83) 3, type := 4, pos := "law.go:112", after := #[{ on := 7, ground := Ground.data }, { on := 9, ground := Ground.data }, { on := 5, ground := Ground.guard }], guard := some (5, true) }) (v := ?vk126) rfl (by kernel_rfl) (by kernel_rfl) (by kernel_rfl) (fun _ _ _ h => h) (Or.inl ⟨by rfl, ?hk126⟩) (S2.old ((Old.refl w7).drew) (C4.one (C4.old U7.out HC.out))) ?rk126
        case hk126 => (intro wz hSw; (try dsimp only at hSw); go_simp; try with_reducible rfl)
        (try simp only [Act.put]); (try simp only [List.setIfInBounds_toArray]); (try simp only [List.set_cons_succ]); (try simp only [List.set_cons_zero])
        refine wpAnyH_take (i := 11) (oi := { dst := some 85, op := Op.pick (Operand.tmp 79) (Operand.tmp 84) (Operand.const (Value.bool false)), type := 4, pos := "law.go:112", after := #[{ on := 5, ground := Ground.data }, { on := 10, ground := Ground.data }], guard := none }) (v := ?vk127) rfl (by kernel_rfl) (by kernel_rfl) (by kernel_rfl) (fun _ _ _ h => h) (Or.inl ⟨by rfl, ?hk127⟩) (S2.old ((Old.refl w7).drew) (C4.one (C4.old U7.out HC.out))) ?rk127
        case hk127 => (intro wz hSw; (try dsimp only at hSw); go_simp; try with_reducible rfl)
        (try simp only [Act.put]); (try simp only [List.setIfInBounds_toArray]); (try simp only [List.set_cons_succ]); (try simp only [List.set_cons_zero])
        refine wpAnyH_ready (rs := [12]) (by kernel_rfl) (by simp) ?_
        refine AllReadyH.cons (o := { dst := some 15, op := Op.assign (Operand.tmp 85), type := 4, pos := "law.go:112", after := #[{ on := 11, ground := Ground.data }, { on := 7, ground := Ground.chain }, { on := 0, ground := Ground.phase }, { on := 1, ground := Ground.phase }, { on := 2, ground := Ground.phase }, { on := 3, ground := Ground.phase }, { on := 4, ground := Ground.phase }, { on := 5, ground := Ground.phase }, { on := 6, ground := Ground.phase }, { on := 7, ground := Ground.phase }, { on := 8, ground := Ground.phase }, { on := 9, ground := Ground.phase }, { on := 10, ground := Ground.phase }, { on := 11, ground := Ground.phase }], guard := none }) rfl (fun K hK => ?_) AllReadyH.nil
        go_simp
        refine hK.out _ _ (S2.old ((Old.refl w7).drew) (C4.one (C4.old U7.out HC.out))) (fun _ => ?_)
        clear hK K
        (try simp only [Act.put]); (try simp only [List.setIfInBounds_toArray]); (try simp only [List.set_cons_succ]); (try simp only [List.set_cons_zero])
        refine wpAnyH_done (by kernel_rfl) ?_ _
        refine NoPanic.normal ?_
        generalize World.drew w7 = w9 at *
        have UE := hid ((Old.refl w9).drew)
        go_upto_region 16 with (fail)
        refine wp_region_noPanic ?_
        refine wp_region_held_drew (S := fun wz => wz.cell? ⟨(g + 1), 1, none⟩ = some (.int .i64 t2) ∧ wz.cell? ⟨(g + 1), 2, none⟩ = some (.int .i64 v2)) (by kernel_rfl) ?_ (fun hHeld => ?_)
        · exact (S2.old ((Old.refl w9).drew) (C4.two (C4.old (U7.out.trans UD.out) HC.out)))
        (try simp only [Act.put]); (try simp only [List.setIfInBounds_toArray]); (try simp only [List.set_cons_succ]); (try simp only [List.set_cons_zero])
        clear hHeld
        refine wpAnyH_take (i := 0) (oi := { dst := some 86, op := Op.move (Operand.tmp 13), type := 25, pos := "law.go:113", after := #[], guard := none }) (v := ?vk128) rfl (by kernel_rfl) (by kernel_rfl) (by kernel_rfl) (fun _ _ _ h => h) (Or.inl ⟨by rfl, ?hk128⟩) (S2.old ((Old.refl w9).drew) (C4.two (C4.old (U7.out.trans UD.out) HC.out))) ?rk128
        case hk128 => (intro wz hSw; (try dsimp only at hSw); go_simp; try with_reducible rfl)
        (try simp only [Act.put]); (try simp only [List.setIfInBounds_toArray]); (try simp only [List.set_cons_succ]); (try simp only [List.set_cons_zero])
        refine wpAnyH_take (i := 2) (oi := { dst := some 88, op := Op.fieldAddr 36 (Operand.tmp 5) 1, type := 0, pos := "law.go:113", after := #[], guard := none }) (v := ?vk129) rfl (by kernel_rfl) (by kernel_rfl) (by kernel_rfl) (fun _ _ _ h => h) (Or.inl ⟨by rfl, ?hk129⟩) (S2.old ((Old.refl w9).drew) (C4.two (C4.old (U7.out.trans UD.out) HC.out))) ?rk129
        case hk129 => (intro wz hSw; (try dsimp only at hSw); go_simp; try with_reducible rfl)
        (try simp only [Act.put]); (try simp only [List.setIfInBounds_toArray]); (try simp only [List.set_cons_succ]); (try simp only [List.set_cons_zero])
        refine wpAnyH_take (i := 3) (oi := { dst := some 89, op := Op.load 2 (Operand.tmp 88), type := 2, pos := "law.go:113", after := #[{ on := 2, ground := Ground.data }], guard := none }) (v := ?vk130) rfl (by kernel_rfl) (by kernel_rfl) (by kernel_rfl) (fun _ _ _ h => h) (Or.inl ⟨by rfl, ?hk130⟩) (S2.old ((Old.refl w9).drew) (C4.two (C4.old (U7.out.trans UD.out) HC.out))) ?rk130
        case hk130 => (intro wz hSw; (try dsimp only at hSw); go_simp; try with_reducible rfl)
        (try simp only [Act.put]); (try simp only [List.setIfInBounds_toArray]); (try simp only [List.set_cons_succ]); (try simp only [List.set_cons_zero])
        refine wpAnyH_ready (rs := [1]) (by kernel_rfl) (by simp) ?_
        refine AllReadyH.cons (o := { dst := some 87, op := Op.call { callee := Callee.value (Operand.func 12), args := #[Operand.tmp 86], argTypes := #[25] }, type := 2, pos := "law.go:113", after := #[{ on := 0, ground := Ground.data }], guard := none }) rfl (fun K hK => ?_) AllReadyH.nil
        refine wantCall1 ?_ 12 (.tmp 86) #[25] ?_ (.pointer (some ⟨hb2, 0, none⟩)) ?_ ?_ ((enters_of Tryd.func12 (by kernel_rfl) rfl) _ _) ?_
        · rfl
        · rfl
        · rfl
        · rfl
        refine (HTm.out _ (UD.out.drew)).mono ?_
        rintro o x131 ⟨rfl, hx131⟩
        subst hx131
        refine ⟨_, rfl, ?_⟩
        refine hK.out _ _ (S2.old ((Old.refl w9).drew) (C4.two (C4.old (U7.out.trans UD.out) HC.out))) (fun _ => ?_)
        clear hK K
        (try simp only [Act.put]); (try simp only [List.setIfInBounds_toArray]); (try simp only [List.set_cons_succ]); (try simp only [List.set_cons_zero])
        refine wpAnyH_take (i := 4) (oi := { dst := some 90, op := Op.binOp BinOp.eql 2 (Operand.tmp 87) (Operand.tmp 89) 2, type := 4, pos := "law.go:113", after := #[{ on := 1, ground := Ground.data }, { on := 3, ground := Ground.data }], guard := none }) (v := ?vk132) rfl (by kernel_rfl) (by kernel_rfl) (by kernel_rfl) (fun _ _ _ h => h) (Or.inl ⟨by rfl, ?hk132⟩) (S2.old ((Old.refl w9).drew) (C4.two (C4.old (U7.out.trans UD.out) HC.out))) ?rk132
        case hk132 => (intro wz hSw; (try dsimp only at hSw); go_simp; try with_reducible rfl)
        (try simp only [Act.put]); (try simp only [List.setIfInBounds_toArray]); (try simp only [List.set_cons_succ]); (try simp only [List.set_cons_zero])
        refine wpAnyH_take (i := 5) (oi := { dst := some 91, op := Op.move (Operand.tmp 90), type := 4, pos := "law.go:113", after := #[{ on := 4, ground := Ground.data }, { on := 1, ground := Ground.chain }], guard := none }) (v := ?vk133) rfl (by kernel_rfl) (by kernel_rfl) (by kernel_rfl) (fun _ _ _ h => h) (Or.inl ⟨by rfl, ?hk133⟩) (S2.old ((Old.refl w9).drew) (C4.two (C4.old (U7.out.trans UD.out) HC.out))) ?rk133
        case hk133 => (intro wz hSw; (try dsimp only at hSw); go_simp; try with_reducible rfl)
        (try simp only [Act.put]); (try simp only [List.setIfInBounds_toArray]); (try simp only [List.set_cons_succ]); (try simp only [List.set_cons_zero])
        refine wpAnyH_take (i := 6) (oi := { dst := some 92, op := Op.move (Operand.tmp 13), type := 25, pos := "law.go:113", after := #[{ on := 5, ground := Ground.guard }], guard := some (5, true) }) (v := undef) rfl (by kernel_rfl) (by kernel_rfl) (by kernel_rfl) (fun _ _ _ h => h) (Or.inr ⟨by rfl, rfl⟩) (S2.old ((Old.refl w9).drew) (C4.two (C4.old (U7.out.trans UD.out) HC.out))) ?_
        (try simp only [Act.put]); (try simp only [List.setIfInBounds_toArray]); (try simp only [List.set_cons_succ]); (try simp only [List.set_cons_zero])
        refine wpAnyH_take (i := 7) (oi := { dst := some 93, op := Op.call { callee := Callee.value (Operand.func 13), args := #[Operand.tmp 92], argTypes := #[25] }, type := 3, pos := "law.go:113", after := #[{ on := 6, ground := Ground.data }, { on := 5, ground := Ground.chain }, { on := 5, ground := Ground.guard }], guard := some (5, true) }) (v := undef) rfl (by kernel_rfl) (by kernel_rfl) (by kernel_rfl) (fun _ _ _ h => h) (Or.inr ⟨by rfl, rfl⟩) (S2.old ((Old.refl w9).drew) (C4.two (C4.old (U7.out.trans UD.out) HC.out))) ?_
        (try simp only [Act.put]); (try simp only [List.setIfInBounds_toArray]); (try simp only [List.set_cons_succ]); (try simp only [List.set_cons_zero])
        refine wpAnyH_take (i := 8) (oi := { dst := some 94, op := Op.fieldAddr 36 (Operand.tmp 5) 2, type := 0, pos := "law.go:113", after := #[{ on := 5, ground := Ground.guard }], guard := some (5, true) }) (v := undef) rfl (by kernel_rfl) (by kernel_rfl) (by kernel_rfl) (fun _ _ _ h => h) (Or.inr ⟨by rfl, rfl⟩) (S2.old ((Old.refl w9).drew) (C4.two (C4.old (U7.out.trans UD.out) HC.out))) ?_
        (try simp only [Act.put]); (try simp only [List.setIfInBounds_toArray]); (try simp only [List.set_cons_succ]); (try simp only [List.set_cons_zero])
        refine wpAnyH_take (i := 9) (oi := { dst := some 95, op := Op.load 3 (Operand.tmp 94), type := 3, pos := "law.go:113", after := #[{ on := 8, ground := Ground.data }, { on := 5, ground := Ground.guard }], guard := some (5, true) }) (v := undef) rfl (by kernel_rfl) (by kernel_rfl) (by kernel_rfl) (fun _ _ _ h => h) (Or.inr ⟨by rfl, rfl⟩) (S2.old ((Old.refl w9).drew) (C4.two (C4.old (U7.out.trans UD.out) HC.out))) ?_
        (try simp only [Act.put]); (try simp only [List.setIfInBounds_toArray]); (try simp only [List.set_cons_succ]); (try simp only [List.set_cons_zero])
        refine wpAnyH_take (i := 10) (oi := { dst := some 96, op := Op.binOp BinOp.eql 3 (Operand.tmp 93) (Operand.tmp 95) 3, type := 4, pos := "law.go:113", after := #[{ on := 7, ground := Ground.data }, { on := 9, ground := Ground.data }, { on := 5, ground := Ground.guard }], guard := some (5, true) }) (v := undef) rfl (by kernel_rfl) (by kernel_rfl) (by kernel_rfl) (fun _ _ _ h => h) (Or.inr ⟨by rfl, rfl⟩) (S2.old ((Old.refl w9).drew) (C4.two (C4.old (U7.out.trans UD.out) HC.out))) ?_
        (try simp only [Act.put]); (try simp only [List.setIfInBounds_toArray]); (try simp only [List.set_cons_succ]); (try simp only [List.set_cons_zero])
        refine wpAnyH_take (i := 11) (oi := { dst := some 97, op := Op.pick (Operand.tmp 91) (Operand.tmp 96) (Operand.const (Value.bool false)), type := 4, pos := "law.go:113", after := #[{ on := 5, ground := Ground.data }, { on := 10, ground := Ground.data }], guard := none }) (v := ?vk134) rfl (by kernel_rfl) (by kernel_rfl) (by kernel_rfl) (fun _ _ _ h => h) (Or.inl ⟨by rfl, ?hk134⟩) (S2.old ((Old.refl w9).drew) (C4.two (C4.old (U7.out.trans UD.out) HC.out))) ?rk134
        case hk134 => (intro wz hSw; (try dsimp only at hSw); go_simp; try with_reducible rfl)
        (try simp only [Act.put]); (try simp only [List.setIfInBounds_toArray]); (try simp only [List.set_cons_succ]); (try simp only [List.set_cons_zero])
        refine wpAnyH_ready (rs := [12]) (by kernel_rfl) (by simp) ?_
        refine AllReadyH.cons (o := { dst := some 16, op := Op.assign (Operand.tmp 97), type := 4, pos := "law.go:113", after := #[{ on := 11, ground := Ground.data }, { on := 7, ground := Ground.chain }, { on := 0, ground := Ground.phase }, { on := 1, ground := Ground.phase }, { on := 2, ground := Ground.phase }, { on := 3, ground := Ground.phase }, { on := 4, ground := Ground.phase }, { on := 5, ground := Ground.phase }, { on := 6, ground := Ground.phase }, { on := 7, ground := Ground.phase }, { on := 8, ground := Ground.phase }, { on := 9, ground := Ground.phase }, { on := 10, ground := Ground.phase }, { on := 11, ground := Ground.phase }], guard := none }) rfl (fun K hK => ?_) AllReadyH.nil
        go_simp
        refine hK.out _ _ (S2.old ((Old.refl w9).drew) (C4.two (C4.old (U7.out.trans UD.out) HC.out))) (fun _ => ?_)
        clear hK K
        (try simp only [Act.put]); (try simp only [List.setIfInBounds_toArray]); (try simp only [List.set_cons_succ]); (try simp only [List.set_cons_zero])
        refine wpAnyH_done (by kernel_rfl) ?_ _
        refine NoPanic.normal ?_
        generalize World.drew w9 = w10 at *
        go_wp2
        go_ret
        exact ⟨rfl, U0.out.trans (U7.out.trans (UD.out.trans UE.out))⟩
    · skip
      have H4 := hid e4
      have HG := hid hg
      clear e4 hg
      go_enter Tryd.func4, Tryd.ntmps4
      go_upto_region 1 with (fail)
      obtain ⟨W0, hW⟩ : ∃ W0, W0 = (w.alloc (.cells #[.int .i64 k1, .int .i64 t1, .int .i64 v1, .int .i64 n1, c1] 36)).alloc (.cells #[.int .i64 k2, .int .i64 t2, .int .i64 v2, .int .i64 n2, c2] 36) := ⟨_, rfl⟩
      have HC := hid (box5 w k1 t1 v1 n1 k2 t2 v2 n2 c1 c2)
      have U0 := hid (((Old.refl w).alloc (.cells #[.int .i64 k1, .int .i64 t1, .int .i64 v1, .int .i64 n1, c1] 36)).alloc (.cells #[.int .i64 k2, .int .i64 t2, .int .i64 v2, .int .i64 n2, c2] 36))
      rw [← hW] at HC U0 ⊢
      have HT := hid (HTw.out.up U0.out)
      clear hW HTw
      generalize w.heap.size = g at *
      go_upto_region 5 with (first | (go_at_call 6; refine (newD W0 _ (Old.refl _)).mono ?_; rintro e w1 ⟨db, rfl, dd1, _⟩; have D1 := hid dd1; clear dd1) | (go_at_call 7; refine (alive_any _ (HT.out.up D1.out.base)).mono ?_; rintro e w1b ⟨rfl, u1⟩; have D1b := hid (D1.out.old u1); clear u1) | (go_at_call 8; refine (open_ok W0 _ db pd0 [] D1b.out HT.out HA.out.1).mono ?_; rintro e w2 ⟨hb, rfl, d2, b2, l2, -⟩; rw [HA.out.2.1] at d2; rw [HA.out.2.2] at b2; have D2 := hid d2; have B2 := hid b2; have L2 := hid l2; clear d2 b2 l2))
      go_upto_region 7 with (fail)
      clear D1 D1b
      obtain ⟨x1, x2, -, -⟩ := C4.old D2.out.base HC.out
      go_upto_region 9 with (go_at_call 10; refine (save_any W0 _ db hb pd0 ([] ++ [hb]) t1 v1 0 0 D2.out (by simp) B2.out L2.out HT.out HR.out.1 HR.out.2.1).mono ?_; rintro e w3 ⟨rfl, d3, b3⟩; rw [HS.out.1]; rw [HS.out.2.1] at d3; rw [HS.out.2.2] at b3; have D3 := hid d3; have B3 := hid b3; clear d3 b3)
      clear x1 x2 D2 B2 HS
      go_upto_region 10 with (go_at_call 9; refine (failD W0 _ db _ _ _ D3.out (by have := HMb.out; omega)).mono ?_; rintro e w4 ⟨rfl, d4, k4⟩; rw [HMx.out] at d4; have D4 := hid (show Dsk W0 w4 db ⟨fs, false, (M : Int)⟩ ([] ++ [hb]) from d4); have B4 := hid (k4.at (by simp) B3.out); clear d4 k4)
      clear D3 B3
      obtain ⟨-, -, x3, x4⟩ := C4.old D4.out.base HC.out
      go_upto_region 11 with (go_at_call 10; refine (save_any W0 _ db hb _ ([] ++ [hb]) t2 v2 t1 v1 D4.out (by simp) B4.out L2.out HT.out HR.out.2.2.1 HR.out.2.2.2).mono ?_; rintro e w5 ⟨rfl, d5, -⟩; rw [H4.out]; have D5 := hid d5; clear d5)
      clear x3 x4 D4 B4 H4
      generalize saveP ⟨fs, false, (M : Int)⟩ t2 v2 t1 v1 = q0 at *
      go_upto_region 12 with (go_at_call 14; refine (crashD W0 _ db q0 ([] ++ [hb]) _ kp D5.out (HK.out.1.old (U0.out.trans D5.out.base)) HK.out.2.1 (fun h0 g e => .inl (Nat.lt_of_lt_of_le (HK.out.2.2 h0 g e) U0.out.size))).mono ?_; rintro e w6 ⟨rfl, S, -, -, d6, -⟩; have D6 := hid d6; have HE := hid (HG.out S kp).1; have HV := hid (HG.out S kp).2; clear d6)
      clear D5 HG
      generalize crashP q0 S kp = q at *
      go_upto_region 15 with (go_at_call 8; refine (open_ok W0 _ db q ([] ++ [hb]) D6.out HT.out HE.out).mono ?_; rintro e w7 ⟨hb2, rfl, d7, b7, -, -⟩; rw [HV.out] at b7; have U7 := hid (d7.base); have B7 := hid b7; clear d7 b7)
      clear D6 HE HV HT L2 HK HR HA
      have HTm := hid (fun (W : World) (u : Old w7 W) => term_any hb2 _ t2 v2 W ((Below.block u hb2 (heap_lt B7.out)).trans B7.out))
      have HVt := hid (fun (W : World) (u : Old w7 W) => vote_any hb2 _ t2 v2 W ((Below.block u hb2 (heap_lt B7.out)).trans B7.out))
      have UD := hid ((Old.refl w7).drew)
      clear B7
      by_cases z1 : t2 = t1
      · subst z1
        by_cases z2 : v2 = v1
        · subst z2
          refine wp_region_noPanic ?_
          refine wp_region_held_drew (S := fun wz => wz.cell? ⟨g, 1, none⟩ = some (.int .i64 t2) ∧ wz.cell? ⟨g, 2, none⟩ = some (.int .i64 v2)) (by kernel_rfl) ?_ (fun hHeld => ?_)
          · exact (S2.old ((Old.refl w7).drew) (C4.one (C4.old U7.out HC.out)))
          (try simp only [Act.put]); (try simp only [List.setIfInBounds_toArray]); (try simp only [List.set_cons_succ]); (try simp only [List.set_cons_zero])
          clear hHeld
          refine wpAnyH_take (i := 0) (oi := { dst := some 74, op := Op.move (Operand.tmp 13), type := 25, pos := "law.go:112", after := #[], guard := none }) (v := ?vk135) rfl (by kernel_rfl) (by kernel_rfl) (by kernel_rfl) (fun _ _ _ h => h) (Or.inl ⟨by rfl, ?hk135⟩) (S2.old ((Old.refl w7).drew) (C4.one (C4.old U7.out HC.out))) ?rk135
          case hk135 => (intro wz hSw; (try dsimp only at hSw); go_simp; try with_reducible rfl)
          (try simp only [Act.put]); (try simp only [List.setIfInBounds_toArray]); (try simp only [List.set_cons_succ]); (try simp only [List.set_cons_zero])
          refine wpAnyH_take (i := 2) (oi := { dst := some 76, op := Op.fieldAddr 36 (Operand.tmp 4) 1, type := 0, pos := "law.go:112", after := #[], guard := none }) (v := ?vk136) rfl (by kernel_rfl) (by kernel_rfl) (by kernel_rfl) (fun _ _ _ h => h) (Or.inl ⟨by rfl, ?hk136⟩) (S2.old ((Old.refl w7).drew) (C4.one (C4.old U7.out HC.out))) ?rk136
          case hk136 => (intro wz hSw; (try dsimp only at hSw); go_simp; try with_reducible rfl)
          (try simp only [Act.put]); (try simp only [List.setIfInBounds_toArray]); (try simp only [List.set_cons_succ]); (try simp only [List.set_cons_zero])
          refine wpAnyH_take (i := 3) (oi := { dst := some 77, op := Op.load 2 (Operand.tmp 76), type := 2, pos := "law.go:112", after := #[{ on := 2, ground := Ground.data }], guard := none }) (v := ?vk137) rfl (by kernel_rfl) (by kernel_rfl) (by kernel_rfl) (fun _ _ _ h => h) (Or.inl ⟨by rfl, ?hk137⟩) (S2.old ((Old.refl w7).drew) (C4.one (C4.old U7.out HC.out))) ?rk137
          case hk137 => (intro wz hSw; (try dsimp only at hSw); go_simp; try with_reducible rfl)
          (try simp only [Act.put]); (try simp only [List.setIfInBounds_toArray]); (try simp only [List.set_cons_succ]); (try simp only [List.set_cons_zero])
          refine wpAnyH_ready (rs := [1]) (by kernel_rfl) (by simp) ?_
          refine AllReadyH.cons (o := { dst := some 75, op := Op.call { callee := Callee.value (Operand.func 12), args := #[Operand.tmp 74], argTypes := #[25] }, type := 2, pos := "law.go:112", after := #[{ on := 0, ground := Ground.data }], guard := none }) rfl (fun K hK => ?_) AllReadyH.nil
          refine wantCall1 ?_ 12 (.tmp 74) #[25] ?_ (.pointer (some ⟨hb2, 0, none⟩)) ?_ ?_ ((enters_of Tryd.func12 (by kernel_rfl) rfl) _ _) ?_
          · rfl
          · rfl
          · rfl
          · rfl
          refine (HTm.out _ ((Old.refl w7).drew)).mono ?_
          rintro o x138 ⟨rfl, hx138⟩
          subst hx138
          refine ⟨_, rfl, ?_⟩
          refine hK.out _ _ (S2.old ((Old.refl w7).drew) (C4.one (C4.old U7.out HC.out))) (fun _ => ?_)
          clear hK K
          (try simp only [Act.put]); (try simp only [List.setIfInBounds_toArray]); (try simp only [List.set_cons_succ]); (try simp only [List.set_cons_zero])
          refine wpAnyH_take (i := 4) (oi := { dst := some 78, op := Op.binOp BinOp.eql 2 (Operand.tmp 75) (Operand.tmp 77) 2, type := 4, pos := "law.go:112", after := #[{ on := 1, ground := Ground.data }, { on := 3, ground := Ground.data }], guard := none }) (v := ?vk139) rfl (by kernel_rfl) (by kernel_rfl) (by kernel_rfl) (fun _ _ _ h => h) (Or.inl ⟨by rfl, ?hk139⟩) (S2.old ((Old.refl w7).drew) (C4.one (C4.old U7.out HC.out))) ?rk139
          case hk139 => (intro wz hSw; (try dsimp only at hSw); go_simp; try with_reducible rfl)
          (try simp only [Act.put]); (try simp only [List.setIfInBounds_toArray]); (try simp only [List.set_cons_succ]); (try simp only [List.set_cons_zero])
          refine wpAnyH_take (i := 5) (oi := { dst := some 79, op := Op.move (Operand.tmp 78), type := 4, pos := "law.go:112", after := #[{ on := 4, ground := Ground.data }, { on := 1, ground := Ground.chain }], guard := none }) (v := ?vk140) rfl (by kernel_rfl) (by kernel_rfl) (by kernel_rfl) (fun _ _ _ h => h) (Or.inl ⟨by rfl, ?hk140⟩) (S2.old ((Old.refl w7).drew) (C4.one (C4.old U7.out HC.out))) ?rk140
          case hk140 => (intro wz hSw; (try dsimp only at hSw); go_simp; try with_reducible rfl)
          (try simp only [Act.put]); (try simp only [List.setIfInBounds_toArray]); (try simp only [List.set_cons_succ]); (try simp only [List.set_cons_zero])
          refine wpAnyH_take (i := 6) (oi := { dst := some 80, op := Op.move (Operand.tmp 13), type := 25, pos := "law.go:112", after := #[{ on := 5, ground := Ground.guard }], guard := some (5, true) }) (v := ?vk141) rfl (by kernel_rfl) (by kernel_rfl) (by kernel_rfl) (fun _ _ _ h => h) (Or.inl ⟨by rfl, ?hk141⟩) (S2.old ((Old.refl w7).drew) (C4.one (C4.old U7.out HC.out))) ?rk141
          case hk141 => (intro wz hSw; (try dsimp only at hSw); go_simp; try with_reducible rfl)
          (try simp only [Act.put]); (try simp only [List.setIfInBounds_toArray]); (try simp only [List.set_cons_succ]); (try simp only [List.set_cons_zero])
          refine wpAnyH_take (i := 8) (oi := { dst := some 82, op := Op.fieldAddr 36 (Operand.tmp 4) 2, type := 0, pos := "law.go:112", after := #[{ on := 5, ground := Ground.guard }], guard := some (5, true) }) (v := ?vk142) rfl (by kernel_rfl) (by kernel_rfl) (by kernel_rfl) (fun _ _ _ h => h) (Or.inl ⟨by rfl, ?hk142⟩) (S2.old ((Old.refl w7).drew) (C4.one (C4.old U7.out HC.out))) ?rk142
          case hk142 => (intro wz hSw; (try dsimp only at hSw); go_simp; try with_reducible rfl)
          (try simp only [Act.put]); (try simp only [List.setIfInBounds_toArray]); (try simp only [List.set_cons_succ]); (try simp only [List.set_cons_zero])
          refine wpAnyH_take (i := 9) (oi := { dst := some 83, op := Op.load 3 (Operand.tmp 82), type := 3, pos := "law.go:112", after := #[{ on := 8, ground := Ground.data }, { on := 5, ground := Ground.guard }], guard := some (5, true) }) (v := ?vk143) rfl (by kernel_rfl) (by kernel_rfl) (by kernel_rfl) (fun _ _ _ h => h) (Or.inl ⟨by rfl, ?hk143⟩) (S2.old ((Old.refl w7).drew) (C4.one (C4.old U7.out HC.out))) ?rk143
          case hk143 => (intro wz hSw; (try dsimp only at hSw); go_simp; try with_reducible rfl)
          (try simp only [Act.put]); (try simp only [List.setIfInBounds_toArray]); (try simp only [List.set_cons_succ]); (try simp only [List.set_cons_zero])
          refine wpAnyH_ready (rs := [7]) (by kernel_rfl) (by simp) ?_
          refine AllReadyH.cons (o := { dst := some 81, op := Op.call { callee := Callee.value (Operand.func 13), args := #[Operand.tmp 80], argTypes := #[25] }, type := 3, pos := "law.go:112", after := #[{ on := 6, ground := Ground.data }, { on := 5, ground := Ground.chain }, { on := 5, ground := Ground.guard }], guard := some (5, true) }) rfl (fun K hK => ?_) AllReadyH.nil
          refine wantCall1 ?_ 13 (.tmp 80) #[25] ?_ (.pointer (some ⟨hb2, 0, none⟩)) ?_ ?_ ((enters_of Tryd.func13 (by kernel_rfl) rfl) _ _) ?_
          · rfl
          · rfl
          · rfl
          · rfl
          refine (HVt.out _ ((Old.refl w7).drew)).mono ?_
          rintro o x144 ⟨rfl, hx144⟩
          subst hx144
          refine ⟨_, rfl, ?_⟩
          refine hK.out _ _ (S2.old ((Old.refl w7).drew) (C4.one (C4.old U7.out HC.out))) (fun _ => ?_)
          clear hK K
          (try simp only [Act.put]); (try simp only [List.setIfInBounds_toArray]); (try simp only [List.set_cons_succ]); (try simp only [List.set_cons_zero])
          refine wpAnyH_take (i := 10) (oi := { dst := some 84, op := Op.binOp BinOp.eql 3 (Operand.tmp 81) (Operand.tmp 83) 3, type := 4, pos := "law.go:112", after := #[{ on := 7, ground := Ground.data }, { on := 9, ground := Ground.data }, { on := 5, ground := Ground.guard }], guard := some (5, true) }) (v := ?vk145) rfl (by kernel_rfl) (by kernel_rfl) (by kernel_rfl) (fun _ _ _ h => h) (Or.inl ⟨by rfl, ?hk145⟩) (S2.old ((Old.refl w7).drew) (C4.one (C4.old U7.out HC.out))) ?rk145
          case hk145 => (intro wz hSw; (try dsimp only at hSw); go_simp; try with_reducible rfl)
          (try simp only [Act.put]); (try simp only [List.setIfInBounds_toArray]); (try simp only [List.set_cons_succ]); (try simp only [List.set_cons_zero])
          refine wpAnyH_take (i := 11) (oi := { dst := some 85, op := Op.pick (Operand.tmp 79) (Operand.tmp 84) (Operand.const (Value.bool false)), type := 4, pos := "law.go:112", after := #[{ on := 5, ground := Ground.data }, { on := 10, ground := Ground.data }], guard := none }) (v := ?vk146) rfl (by kernel_rfl) (by kernel_rfl) (by kernel_rfl) (fun _ _ _ h => h) (Or.inl ⟨by rfl, ?hk146⟩) (S2.old ((Old.refl w7).drew) (C4.one (C4.old U7.out HC.out))) ?rk146
          case hk146 => (intro wz hSw; (try dsimp only at hSw); go_simp; try with_reducible rfl)
          (try simp only [Act.put]); (try simp only [List.setIfInBounds_toArray]); (try simp only [List.set_cons_succ]); (try simp only [List.set_cons_zero])
          refine wpAnyH_ready (rs := [12]) (by kernel_rfl) (by simp) ?_
          refine AllReadyH.cons (o := { dst := some 15, op := Op.assign (Operand.tmp 85), type := 4, pos := "law.go:112", after := #[{ on := 11, ground := Ground.data }, { on := 7, ground := Ground.chain }, { on := 0, ground := Ground.phase }, { on := 1, ground := Ground.phase }, { on := 2, ground := Ground.phase }, { on := 3, ground := Ground.phase }, { on := 4, ground := Ground.phase }, { on := 5, ground := Ground.phase }, { on := 6, ground := Ground.phase }, { on := 7, ground := Ground.phase }, { on := 8, ground := Ground.phase }, { on := 9, ground := Ground.phase }, { on := 10, ground := Ground.phase }, { on := 11, ground := Ground.phase }], guard := none }) rfl (fun K hK => ?_) AllReadyH.nil
          go_simp
          refine hK.out _ _ (S2.old ((Old.refl w7).drew) (C4.one (C4.old U7.out HC.out))) (fun _ => ?_)
          clear hK K
          (try simp only [Act.put]); (try simp only [List.setIfInBounds_toArray]); (try simp only [List.set_cons_succ]); (try simp only [List.set_cons_zero])
          refine wpAnyH_done (by kernel_rfl) ?_ _
          refine NoPanic.normal ?_
          generalize World.drew w7 = w9 at *
          have UE := hid ((Old.refl w9).drew)
          go_upto_region 16 with (fail)
          refine wp_region_noPanic ?_
          refine wp_region_held_drew (S := fun wz => wz.cell? ⟨(g + 1), 1, none⟩ = some (.int .i64 t2) ∧ wz.cell? ⟨(g + 1), 2, none⟩ = some (.int .i64 v2)) (by kernel_rfl) ?_ (fun hHeld => ?_)
          · exact (S2.old ((Old.refl w9).drew) (C4.two (C4.old (U7.out.trans UD.out) HC.out)))
          (try simp only [Act.put]); (try simp only [List.setIfInBounds_toArray]); (try simp only [List.set_cons_succ]); (try simp only [List.set_cons_zero])
          clear hHeld
          refine wpAnyH_take (i := 0) (oi := { dst := some 86, op := Op.move (Operand.tmp 13), type := 25, pos := "law.go:113", after := #[], guard := none }) (v := ?vk147) rfl (by kernel_rfl) (by kernel_rfl) (by kernel_rfl) (fun _ _ _ h => h) (Or.inl ⟨by rfl, ?hk147⟩) (S2.old ((Old.refl w9).drew) (C4.two (C4.old (U7.out.trans UD.out) HC.out))) ?rk147
          case hk147 => (intro wz hSw; (try dsimp only at hSw); go_simp; try with_reducible rfl)
          (try simp only [Act.put]); (try simp only [List.setIfInBounds_toArray]); (try simp only [List.set_cons_succ]); (try simp only [List.set_cons_zero])
          refine wpAnyH_take (i := 2) (oi := { dst := some 88, op := Op.fieldAddr 36 (Operand.tmp 5) 1, type := 0, pos := "law.go:113", after := #[], guard := none }) (v := ?vk148) rfl (by kernel_rfl) (by kernel_rfl) (by kernel_rfl) (fun _ _ _ h => h) (Or.inl ⟨by rfl, ?hk148⟩) (S2.old ((Old.refl w9).drew) (C4.two (C4.old (U7.out.trans UD.out) HC.out))) ?rk148
          case hk148 => (intro wz hSw; (try dsimp only at hSw); go_simp; try with_reducible rfl)
          (try simp only [Act.put]); (try simp only [List.setIfInBounds_toArray]); (try simp only [List.set_cons_succ]); (try simp only [List.set_cons_zero])
          refine wpAnyH_take (i := 3) (oi := { dst := some 89, op := Op.load 2 (Operand.tmp 88), type := 2, pos := "law.go:113", after := #[{ on := 2, ground := Ground.data }], guard := none }) (v := ?vk149) rfl (by kernel_rfl) (by kernel_rfl) (by kernel_rfl) (fun _ _ _ h => h) (Or.inl ⟨by rfl, ?hk149⟩) (S2.old ((Old.refl w9).drew) (C4.two (C4.old (U7.out.trans UD.out) HC.out))) ?rk149
          case hk149 => (intro wz hSw; (try dsimp only at hSw); go_simp; try with_reducible rfl)
          (try simp only [Act.put]); (try simp only [List.setIfInBounds_toArray]); (try simp only [List.set_cons_succ]); (try simp only [List.set_cons_zero])
          refine wpAnyH_ready (rs := [1]) (by kernel_rfl) (by simp) ?_
          refine AllReadyH.cons (o := { dst := some 87, op := Op.call { callee := Callee.value (Operand.func 12), args := #[Operand.tmp 86], argTypes := #[25] }, type := 2, pos := "law.go:113", after := #[{ on := 0, ground := Ground.data }], guard := none }) rfl (fun K hK => ?_) AllReadyH.nil
          refine wantCall1 ?_ 12 (.tmp 86) #[25] ?_ (.pointer (some ⟨hb2, 0, none⟩)) ?_ ?_ ((enters_of Tryd.func12 (by kernel_rfl) rfl) _ _) ?_
          · rfl
          · rfl
          · rfl
          · rfl
          refine (HTm.out _ (UD.out.drew)).mono ?_
          rintro o x150 ⟨rfl, hx150⟩
          subst hx150
          refine ⟨_, rfl, ?_⟩
          refine hK.out _ _ (S2.old ((Old.refl w9).drew) (C4.two (C4.old (U7.out.trans UD.out) HC.out))) (fun _ => ?_)
          clear hK K
          (try simp only [Act.put]); (try simp only [List.setIfInBounds_toArray]); (try simp only [List.set_cons_succ]); (try simp only [List.set_cons_zero])
          refine wpAnyH_take (i := 4) (oi := { dst := some 90, op := Op.binOp BinOp.eql 2 (Operand.tmp 87) (Operand.tmp 89) 2, type := 4, pos := "law.go:113", after := #[{ on := 1, ground := Ground.data }, { on := 3, ground := Ground.data }], guard := none }) (v := ?vk151) rfl (by kernel_rfl) (by kernel_rfl) (by kernel_rfl) (fun _ _ _ h => h) (Or.inl ⟨by rfl, ?hk151⟩) (S2.old ((Old.refl w9).drew) (C4.two (C4.old (U7.out.trans UD.out) HC.out))) ?rk151
          case hk151 => (intro wz hSw; (try dsimp only at hSw); go_simp; try with_reducible rfl)
          (try simp only [Act.put]); (try simp only [List.setIfInBounds_toArray]); (try simp only [List.set_cons_succ]); (try simp only [List.set_cons_zero])
          refine wpAnyH_take (i := 5) (oi := { dst := some 91, op := Op.move (Operand.tmp 90), type := 4, pos := "law.go:113", after := #[{ on := 4, ground := Ground.data }, { on := 1, ground := Ground.chain }], guard := none }) (v := ?vk152) rfl (by kernel_rfl) (by kernel_rfl) (by kernel_rfl) (fun _ _ _ h => h) (Or.inl ⟨by rfl, ?hk152⟩) (S2.old ((Old.refl w9).drew) (C4.two (C4.old (U7.out.trans UD.out) HC.out))) ?rk152
          case hk152 => (intro wz hSw; (try dsimp only at hSw); go_simp; try with_reducible rfl)
          (try simp only [Act.put]); (try simp only [List.setIfInBounds_toArray]); (try simp only [List.set_cons_succ]); (try simp only [List.set_cons_zero])
          refine wpAnyH_take (i := 6) (oi := { dst := some 92, op := Op.move (Operand.tmp 13), type := 25, pos := "law.go:113", after := #[{ on := 5, ground := Ground.guard }], guard := some (5, true) }) (v := ?vk153) rfl (by kernel_rfl) (by kernel_rfl) (by kernel_rfl) (fun _ _ _ h => h) (Or.inl ⟨by rfl, ?hk153⟩) (S2.old ((Old.refl w9).drew) (C4.two (C4.old (U7.out.trans UD.out) HC.out))) ?rk153
          case hk153 => (intro wz hSw; (try dsimp only at hSw); go_simp; try with_reducible rfl)
          (try simp only [Act.put]); (try simp only [List.setIfInBounds_toArray]); (try simp only [List.set_cons_succ]); (try simp only [List.set_cons_zero])
          refine wpAnyH_take (i := 8) (oi := { dst := some 94, op := Op.fieldAddr 36 (Operand.tmp 5) 2, type := 0, pos := "law.go:113", after := #[{ on := 5, ground := Ground.guard }], guard := some (5, true) }) (v := ?vk154) rfl (by kernel_rfl) (by kernel_rfl) (by kernel_rfl) (fun _ _ _ h => h) (Or.inl ⟨by rfl, ?hk154⟩) (S2.old ((Old.refl w9).drew) (C4.two (C4.old (U7.out.trans UD.out) HC.out))) ?rk154
          case hk154 => (intro wz hSw; (try dsimp only at hSw); go_simp; try with_reducible rfl)
          (try simp only [Act.put]); (try simp only [List.setIfInBounds_toArray]); (try simp only [List.set_cons_succ]); (try simp only [List.set_cons_zero])
          refine wpAnyH_take (i := 9) (oi := { dst := some 95, op := Op.load 3 (Operand.tmp 94), type := 3, pos := "law.go:113", after := #[{ on := 8, ground := Ground.data }, { on := 5, ground := Ground.guard }], guard := some (5, true) }) (v := ?vk155) rfl (by kernel_rfl) (by kernel_rfl) (by kernel_rfl) (fun _ _ _ h => h) (Or.inl ⟨by rfl, ?hk155⟩) (S2.old ((Old.refl w9).drew) (C4.two (C4.old (U7.out.trans UD.out) HC.out))) ?rk155
          case hk155 => (intro wz hSw; (try dsimp only at hSw); go_simp; try with_reducible rfl)
          (try simp only [Act.put]); (try simp only [List.setIfInBounds_toArray]); (try simp only [List.set_cons_succ]); (try simp only [List.set_cons_zero])
          refine wpAnyH_ready (rs := [7]) (by kernel_rfl) (by simp) ?_
          refine AllReadyH.cons (o := { dst := some 93, op := Op.call { callee := Callee.value (Operand.func 13), args := #[Operand.tmp 92], argTypes := #[25] }, type := 3, pos := "law.go:113", after := #[{ on := 6, ground := Ground.data }, { on := 5, ground := Ground.chain }, { on := 5, ground := Ground.guard }], guard := some (5, true) }) rfl (fun K hK => ?_) AllReadyH.nil
          refine wantCall1 ?_ 13 (.tmp 92) #[25] ?_ (.pointer (some ⟨hb2, 0, none⟩)) ?_ ?_ ((enters_of Tryd.func13 (by kernel_rfl) rfl) _ _) ?_
          · rfl
          · rfl
          · rfl
          · rfl
          refine (HVt.out _ (UD.out.drew)).mono ?_
          rintro o x156 ⟨rfl, hx156⟩
          subst hx156
          refine ⟨_, rfl, ?_⟩
          refine hK.out _ _ (S2.old ((Old.refl w9).drew) (C4.two (C4.old (U7.out.trans UD.out) HC.out))) (fun _ => ?_)
          clear hK K
          (try simp only [Act.put]); (try simp only [List.setIfInBounds_toArray]); (try simp only [List.set_cons_succ]); (try simp only [List.set_cons_zero])
          refine wpAnyH_take (i := 10) (oi := { dst := some 96, op := Op.binOp BinOp.eql 3 (Operand.tmp 93) (Operand.tmp 95) 3, type := 4, pos := "law.go:113", after := #[{ on := 7, ground := Ground.data }, { on := 9, ground := Ground.data }, { on := 5, ground := Ground.guard }], guard := some (5, true) }) (v := ?vk157) rfl (by kernel_rfl) (by kernel_rfl) (by kernel_rfl) (fun _ _ _ h => h) (Or.inl ⟨by rfl, ?hk157⟩) (S2.old ((Old.refl w9).drew) (C4.two (C4.old (U7.out.trans UD.out) HC.out))) ?rk157
          case hk157 => (intro wz hSw; (try dsimp only at hSw); go_simp; try with_reducible rfl)
          (try simp only [Act.put]); (try simp only [List.setIfInBounds_toArray]); (try simp only [List.set_cons_succ]); (try simp only [List.set_cons_zero])
          refine wpAnyH_take (i := 11) (oi := { dst := some 97, op := Op.pick (Operand.tmp 91) (Operand.tmp 96) (Operand.const (Value.bool false)), type := 4, pos := "law.go:113", after := #[{ on := 5, ground := Ground.data }, { on := 10, ground := Ground.data }], guard := none }) (v := ?vk158) rfl (by kernel_rfl) (by kernel_rfl) (by kernel_rfl) (fun _ _ _ h => h) (Or.inl ⟨by rfl, ?hk158⟩) (S2.old ((Old.refl w9).drew) (C4.two (C4.old (U7.out.trans UD.out) HC.out))) ?rk158
          case hk158 => (intro wz hSw; (try dsimp only at hSw); go_simp; try with_reducible rfl)
          (try simp only [Act.put]); (try simp only [List.setIfInBounds_toArray]); (try simp only [List.set_cons_succ]); (try simp only [List.set_cons_zero])
          refine wpAnyH_ready (rs := [12]) (by kernel_rfl) (by simp) ?_
          refine AllReadyH.cons (o := { dst := some 16, op := Op.assign (Operand.tmp 97), type := 4, pos := "law.go:113", after := #[{ on := 11, ground := Ground.data }, { on := 7, ground := Ground.chain }, { on := 0, ground := Ground.phase }, { on := 1, ground := Ground.phase }, { on := 2, ground := Ground.phase }, { on := 3, ground := Ground.phase }, { on := 4, ground := Ground.phase }, { on := 5, ground := Ground.phase }, { on := 6, ground := Ground.phase }, { on := 7, ground := Ground.phase }, { on := 8, ground := Ground.phase }, { on := 9, ground := Ground.phase }, { on := 10, ground := Ground.phase }, { on := 11, ground := Ground.phase }], guard := none }) rfl (fun K hK => ?_) AllReadyH.nil
          go_simp
          refine hK.out _ _ (S2.old ((Old.refl w9).drew) (C4.two (C4.old (U7.out.trans UD.out) HC.out))) (fun _ => ?_)
          clear hK K
          (try simp only [Act.put]); (try simp only [List.setIfInBounds_toArray]); (try simp only [List.set_cons_succ]); (try simp only [List.set_cons_zero])
          refine wpAnyH_done (by kernel_rfl) ?_ _
          refine NoPanic.normal ?_
          generalize World.drew w9 = w10 at *
          go_wp2
          go_ret
          exact ⟨rfl, U0.out.trans (U7.out.trans (UD.out.trans UE.out))⟩
        · have d2 : (v2 == v1) = false := by rw [beq_eq_false_iff_ne]; exact z2
          refine wp_region_noPanic ?_
          refine wp_region_held_drew (S := fun wz => wz.cell? ⟨g, 1, none⟩ = some (.int .i64 t2) ∧ wz.cell? ⟨g, 2, none⟩ = some (.int .i64 v1)) (by kernel_rfl) ?_ (fun hHeld => ?_)
          · exact (S2.old ((Old.refl w7).drew) (C4.one (C4.old U7.out HC.out)))
          (try simp only [Act.put]); (try simp only [List.setIfInBounds_toArray]); (try simp only [List.set_cons_succ]); (try simp only [List.set_cons_zero])
          clear hHeld
          refine wpAnyH_take (i := 0) (oi := { dst := some 74, op := Op.move (Operand.tmp 13), type := 25, pos := "law.go:112", after := #[], guard := none }) (v := ?vk159) rfl (by kernel_rfl) (by kernel_rfl) (by kernel_rfl) (fun _ _ _ h => h) (Or.inl ⟨by rfl, ?hk159⟩) (S2.old ((Old.refl w7).drew) (C4.one (C4.old U7.out HC.out))) ?rk159
          case hk159 => (intro wz hSw; (try dsimp only at hSw); go_simp; try with_reducible rfl)
          (try simp only [Act.put]); (try simp only [List.setIfInBounds_toArray]); (try simp only [List.set_cons_succ]); (try simp only [List.set_cons_zero])
          refine wpAnyH_take (i := 2) (oi := { dst := some 76, op := Op.fieldAddr 36 (Operand.tmp 4) 1, type := 0, pos := "law.go:112", after := #[], guard := none }) (v := ?vk160) rfl (by kernel_rfl) (by kernel_rfl) (by kernel_rfl) (fun _ _ _ h => h) (Or.inl ⟨by rfl, ?hk160⟩) (S2.old ((Old.refl w7).drew) (C4.one (C4.old U7.out HC.out))) ?rk160
          case hk160 => (intro wz hSw; (try dsimp only at hSw); go_simp; try with_reducible rfl)
          (try simp only [Act.put]); (try simp only [List.setIfInBounds_toArray]); (try simp only [List.set_cons_succ]); (try simp only [List.set_cons_zero])
          refine wpAnyH_take (i := 3) (oi := { dst := some 77, op := Op.load 2 (Operand.tmp 76), type := 2, pos := "law.go:112", after := #[{ on := 2, ground := Ground.data }], guard := none }) (v := ?vk161) rfl (by kernel_rfl) (by kernel_rfl) (by kernel_rfl) (fun _ _ _ h => h) (Or.inl ⟨by rfl, ?hk161⟩) (S2.old ((Old.refl w7).drew) (C4.one (C4.old U7.out HC.out))) ?rk161
          case hk161 => (intro wz hSw; (try dsimp only at hSw); go_simp; try with_reducible rfl)
          (try simp only [Act.put]); (try simp only [List.setIfInBounds_toArray]); (try simp only [List.set_cons_succ]); (try simp only [List.set_cons_zero])
          refine wpAnyH_ready (rs := [1]) (by kernel_rfl) (by simp) ?_
          refine AllReadyH.cons (o := { dst := some 75, op := Op.call { callee := Callee.value (Operand.func 12), args := #[Operand.tmp 74], argTypes := #[25] }, type := 2, pos := "law.go:112", after := #[{ on := 0, ground := Ground.data }], guard := none }) rfl (fun K hK => ?_) AllReadyH.nil
          refine wantCall1 ?_ 12 (.tmp 74) #[25] ?_ (.pointer (some ⟨hb2, 0, none⟩)) ?_ ?_ ((enters_of Tryd.func12 (by kernel_rfl) rfl) _ _) ?_
          · rfl
          · rfl
          · rfl
          · rfl
          refine (HTm.out _ ((Old.refl w7).drew)).mono ?_
          rintro o x162 ⟨rfl, hx162⟩
          subst hx162
          refine ⟨_, rfl, ?_⟩
          refine hK.out _ _ (S2.old ((Old.refl w7).drew) (C4.one (C4.old U7.out HC.out))) (fun _ => ?_)
          clear hK K
          (try simp only [Act.put]); (try simp only [List.setIfInBounds_toArray]); (try simp only [List.set_cons_succ]); (try simp only [List.set_cons_zero])
          refine wpAnyH_take (i := 4) (oi := { dst := some 78, op := Op.binOp BinOp.eql 2 (Operand.tmp 75) (Operand.tmp 77) 2, type := 4, pos := "law.go:112", after := #[{ on := 1, ground := Ground.data }, { on := 3, ground := Ground.data }], guard := none }) (v := ?vk163) rfl (by kernel_rfl) (by kernel_rfl) (by kernel_rfl) (fun _ _ _ h => h) (Or.inl ⟨by rfl, ?hk163⟩) (S2.old ((Old.refl w7).drew) (C4.one (C4.old U7.out HC.out))) ?rk163
          case hk163 => (intro wz hSw; (try dsimp only at hSw); go_simp; try with_reducible rfl)
          (try simp only [Act.put]); (try simp only [List.setIfInBounds_toArray]); (try simp only [List.set_cons_succ]); (try simp only [List.set_cons_zero])
          refine wpAnyH_take (i := 5) (oi := { dst := some 79, op := Op.move (Operand.tmp 78), type := 4, pos := "law.go:112", after := #[{ on := 4, ground := Ground.data }, { on := 1, ground := Ground.chain }], guard := none }) (v := ?vk164) rfl (by kernel_rfl) (by kernel_rfl) (by kernel_rfl) (fun _ _ _ h => h) (Or.inl ⟨by rfl, ?hk164⟩) (S2.old ((Old.refl w7).drew) (C4.one (C4.old U7.out HC.out))) ?rk164
          case hk164 => (intro wz hSw; (try dsimp only at hSw); go_simp; try with_reducible rfl)
          (try simp only [Act.put]); (try simp only [List.setIfInBounds_toArray]); (try simp only [List.set_cons_succ]); (try simp only [List.set_cons_zero])
          refine wpAnyH_take (i := 6) (oi := { dst := some 80, op := Op.move (Operand.tmp 13), type := 25, pos := "law.go:112", after := #[{ on := 5, ground := Ground.guard }], guard := some (5, true) }) (v := ?vk165) rfl (by kernel_rfl) (by kernel_rfl) (by kernel_rfl) (fun _ _ _ h => h) (Or.inl ⟨by rfl, ?hk165⟩) (S2.old ((Old.refl w7).drew) (C4.one (C4.old U7.out HC.out))) ?rk165
          case hk165 => (intro wz hSw; (try dsimp only at hSw); go_simp; try with_reducible rfl)
          (try simp only [Act.put]); (try simp only [List.setIfInBounds_toArray]); (try simp only [List.set_cons_succ]); (try simp only [List.set_cons_zero])
          refine wpAnyH_take (i := 8) (oi := { dst := some 82, op := Op.fieldAddr 36 (Operand.tmp 4) 2, type := 0, pos := "law.go:112", after := #[{ on := 5, ground := Ground.guard }], guard := some (5, true) }) (v := ?vk166) rfl (by kernel_rfl) (by kernel_rfl) (by kernel_rfl) (fun _ _ _ h => h) (Or.inl ⟨by rfl, ?hk166⟩) (S2.old ((Old.refl w7).drew) (C4.one (C4.old U7.out HC.out))) ?rk166
          case hk166 => (intro wz hSw; (try dsimp only at hSw); go_simp; try with_reducible rfl)
          (try simp only [Act.put]); (try simp only [List.setIfInBounds_toArray]); (try simp only [List.set_cons_succ]); (try simp only [List.set_cons_zero])
          refine wpAnyH_take (i := 9) (oi := { dst := some 83, op := Op.load 3 (Operand.tmp 82), type := 3, pos := "law.go:112", after := #[{ on := 8, ground := Ground.data }, { on := 5, ground := Ground.guard }], guard := some (5, true) }) (v := ?vk167) rfl (by kernel_rfl) (by kernel_rfl) (by kernel_rfl) (fun _ _ _ h => h) (Or.inl ⟨by rfl, ?hk167⟩) (S2.old ((Old.refl w7).drew) (C4.one (C4.old U7.out HC.out))) ?rk167
          case hk167 => (intro wz hSw; (try dsimp only at hSw); go_simp; try with_reducible rfl)
          (try simp only [Act.put]); (try simp only [List.setIfInBounds_toArray]); (try simp only [List.set_cons_succ]); (try simp only [List.set_cons_zero])
          refine wpAnyH_ready (rs := [7]) (by kernel_rfl) (by simp) ?_
          refine AllReadyH.cons (o := { dst := some 81, op := Op.call { callee := Callee.value (Operand.func 13), args := #[Operand.tmp 80], argTypes := #[25] }, type := 3, pos := "law.go:112", after := #[{ on := 6, ground := Ground.data }, { on := 5, ground := Ground.chain }, { on := 5, ground := Ground.guard }], guard := some (5, true) }) rfl (fun K hK => ?_) AllReadyH.nil
          refine wantCall1 ?_ 13 (.tmp 80) #[25] ?_ (.pointer (some ⟨hb2, 0, none⟩)) ?_ ?_ ((enters_of Tryd.func13 (by kernel_rfl) rfl) _ _) ?_
          · rfl
          · rfl
          · rfl
          · rfl
          refine (HVt.out _ ((Old.refl w7).drew)).mono ?_
          rintro o x168 ⟨rfl, hx168⟩
          subst hx168
          refine ⟨_, rfl, ?_⟩
          refine hK.out _ _ (S2.old ((Old.refl w7).drew) (C4.one (C4.old U7.out HC.out))) (fun _ => ?_)
          clear hK K
          (try simp only [Act.put]); (try simp only [List.setIfInBounds_toArray]); (try simp only [List.set_cons_succ]); (try simp only [List.set_cons_zero])
          refine wpAnyH_take (i := 10) (oi := { dst := some 84, op := Op.binOp BinOp.eql 3 (Operand.tmp 81) (Operand.tmp 83) 3, type := 4, pos := "law.go:112", after := #[{ on := 7, ground := Ground.data }, { on := 9, ground := Ground.data }, { on := 5, ground := Ground.guard }], guard := some (5, true) }) (v := ?vk169) rfl (by kernel_rfl) (by kernel_rfl) (by kernel_rfl) (fun _ _ _ h => h) (Or.inl ⟨by rfl, ?hk169⟩) (S2.old ((Old.refl w7).drew) (C4.one (C4.old U7.out HC.out))) ?rk169
          case hk169 => (intro wz hSw; (try dsimp only at hSw); go_simp; try with_reducible rfl)
          (try simp only [Act.put]); (try simp only [List.setIfInBounds_toArray]); (try simp only [List.set_cons_succ]); (try simp only [List.set_cons_zero])
          refine wpAnyH_take (i := 11) (oi := { dst := some 85, op := Op.pick (Operand.tmp 79) (Operand.tmp 84) (Operand.const (Value.bool false)), type := 4, pos := "law.go:112", after := #[{ on := 5, ground := Ground.data }, { on := 10, ground := Ground.data }], guard := none }) (v := ?vk170) rfl (by kernel_rfl) (by kernel_rfl) (by kernel_rfl) (fun _ _ _ h => h) (Or.inl ⟨by rfl, ?hk170⟩) (S2.old ((Old.refl w7).drew) (C4.one (C4.old U7.out HC.out))) ?rk170
          case hk170 => (intro wz hSw; (try dsimp only at hSw); go_simp; try with_reducible rfl)
          (try simp only [Act.put]); (try simp only [List.setIfInBounds_toArray]); (try simp only [List.set_cons_succ]); (try simp only [List.set_cons_zero])
          refine wpAnyH_ready (rs := [12]) (by kernel_rfl) (by simp) ?_
          refine AllReadyH.cons (o := { dst := some 15, op := Op.assign (Operand.tmp 85), type := 4, pos := "law.go:112", after := #[{ on := 11, ground := Ground.data }, { on := 7, ground := Ground.chain }, { on := 0, ground := Ground.phase }, { on := 1, ground := Ground.phase }, { on := 2, ground := Ground.phase }, { on := 3, ground := Ground.phase }, { on := 4, ground := Ground.phase }, { on := 5, ground := Ground.phase }, { on := 6, ground := Ground.phase }, { on := 7, ground := Ground.phase }, { on := 8, ground := Ground.phase }, { on := 9, ground := Ground.phase }, { on := 10, ground := Ground.phase }, { on := 11, ground := Ground.phase }], guard := none }) rfl (fun K hK => ?_) AllReadyH.nil
          go_simp
          refine hK.out _ _ (S2.old ((Old.refl w7).drew) (C4.one (C4.old U7.out HC.out))) (fun _ => ?_)
          clear hK K
          (try simp only [Act.put]); (try simp only [List.setIfInBounds_toArray]); (try simp only [List.set_cons_succ]); (try simp only [List.set_cons_zero])
          refine wpAnyH_done (by kernel_rfl) ?_ _
          refine NoPanic.normal ?_
          generalize World.drew w7 = w9 at *
          have UE := hid ((Old.refl w9).drew)
          go_upto_region 16 with (fail)
          refine wp_region_noPanic ?_
          refine wp_region_held_drew (S := fun wz => wz.cell? ⟨(g + 1), 1, none⟩ = some (.int .i64 t2) ∧ wz.cell? ⟨(g + 1), 2, none⟩ = some (.int .i64 v2)) (by kernel_rfl) ?_ (fun hHeld => ?_)
          · exact (S2.old ((Old.refl w9).drew) (C4.two (C4.old (U7.out.trans UD.out) HC.out)))
          (try simp only [Act.put]); (try simp only [List.setIfInBounds_toArray]); (try simp only [List.set_cons_succ]); (try simp only [List.set_cons_zero])
          clear hHeld
          refine wpAnyH_take (i := 0) (oi := { dst := some 86, op := Op.move (Operand.tmp 13), type := 25, pos := "law.go:113", after := #[], guard := none }) (v := ?vk171) rfl (by kernel_rfl) (by kernel_rfl) (by kernel_rfl) (fun _ _ _ h => h) (Or.inl ⟨by rfl, ?hk171⟩) (S2.old ((Old.refl w9).drew) (C4.two (C4.old (U7.out.trans UD.out) HC.out))) ?rk171
          case hk171 => (intro wz hSw; (try dsimp only at hSw); go_simp; try with_reducible rfl)
          (try simp only [Act.put]); (try simp only [List.setIfInBounds_toArray]); (try simp only [List.set_cons_succ]); (try simp only [List.set_cons_zero])
          refine wpAnyH_take (i := 2) (oi := { dst := some 88, op := Op.fieldAddr 36 (Operand.tmp 5) 1, type := 0, pos := "law.go:113", after := #[], guard := none }) (v := ?vk172) rfl (by kernel_rfl) (by kernel_rfl) (by kernel_rfl) (fun _ _ _ h => h) (Or.inl ⟨by rfl, ?hk172⟩) (S2.old ((Old.refl w9).drew) (C4.two (C4.old (U7.out.trans UD.out) HC.out))) ?rk172
          case hk172 => (intro wz hSw; (try dsimp only at hSw); go_simp; try with_reducible rfl)
          (try simp only [Act.put]); (try simp only [List.setIfInBounds_toArray]); (try simp only [List.set_cons_succ]); (try simp only [List.set_cons_zero])
          refine wpAnyH_take (i := 3) (oi := { dst := some 89, op := Op.load 2 (Operand.tmp 88), type := 2, pos := "law.go:113", after := #[{ on := 2, ground := Ground.data }], guard := none }) (v := ?vk173) rfl (by kernel_rfl) (by kernel_rfl) (by kernel_rfl) (fun _ _ _ h => h) (Or.inl ⟨by rfl, ?hk173⟩) (S2.old ((Old.refl w9).drew) (C4.two (C4.old (U7.out.trans UD.out) HC.out))) ?rk173
          case hk173 => (intro wz hSw; (try dsimp only at hSw); go_simp; try with_reducible rfl)
          (try simp only [Act.put]); (try simp only [List.setIfInBounds_toArray]); (try simp only [List.set_cons_succ]); (try simp only [List.set_cons_zero])
          refine wpAnyH_ready (rs := [1]) (by kernel_rfl) (by simp) ?_
          refine AllReadyH.cons (o := { dst := some 87, op := Op.call { callee := Callee.value (Operand.func 12), args := #[Operand.tmp 86], argTypes := #[25] }, type := 2, pos := "law.go:113", after := #[{ on := 0, ground := Ground.data }], guard := none }) rfl (fun K hK => ?_) AllReadyH.nil
          refine wantCall1 ?_ 12 (.tmp 86) #[25] ?_ (.pointer (some ⟨hb2, 0, none⟩)) ?_ ?_ ((enters_of Tryd.func12 (by kernel_rfl) rfl) _ _) ?_
          · rfl
          · rfl
          · rfl
          · rfl
          refine (HTm.out _ (UD.out.drew)).mono ?_
          rintro o x174 ⟨rfl, hx174⟩
          subst hx174
          refine ⟨_, rfl, ?_⟩
          refine hK.out _ _ (S2.old ((Old.refl w9).drew) (C4.two (C4.old (U7.out.trans UD.out) HC.out))) (fun _ => ?_)
          clear hK K
          (try simp only [Act.put]); (try simp only [List.setIfInBounds_toArray]); (try simp only [List.set_cons_succ]); (try simp only [List.set_cons_zero])
          refine wpAnyH_take (i := 4) (oi := { dst := some 90, op := Op.binOp BinOp.eql 2 (Operand.tmp 87) (Operand.tmp 89) 2, type := 4, pos := "law.go:113", after := #[{ on := 1, ground := Ground.data }, { on := 3, ground := Ground.data }], guard := none }) (v := ?vk175) rfl (by kernel_rfl) (by kernel_rfl) (by kernel_rfl) (fun _ _ _ h => h) (Or.inl ⟨by rfl, ?hk175⟩) (S2.old ((Old.refl w9).drew) (C4.two (C4.old (U7.out.trans UD.out) HC.out))) ?rk175
          case hk175 => (intro wz hSw; (try dsimp only at hSw); go_simp; try with_reducible rfl)
          (try simp only [Act.put]); (try simp only [List.setIfInBounds_toArray]); (try simp only [List.set_cons_succ]); (try simp only [List.set_cons_zero])
          refine wpAnyH_take (i := 5) (oi := { dst := some 91, op := Op.move (Operand.tmp 90), type := 4, pos := "law.go:113", after := #[{ on := 4, ground := Ground.data }, { on := 1, ground := Ground.chain }], guard := none }) (v := ?vk176) rfl (by kernel_rfl) (by kernel_rfl) (by kernel_rfl) (fun _ _ _ h => h) (Or.inl ⟨by rfl, ?hk176⟩) (S2.old ((Old.refl w9).drew) (C4.two (C4.old (U7.out.trans UD.out) HC.out))) ?rk176
          case hk176 => (intro wz hSw; (try dsimp only at hSw); go_simp; try with_reducible rfl)
          (try simp only [Act.put]); (try simp only [List.setIfInBounds_toArray]); (try simp only [List.set_cons_succ]); (try simp only [List.set_cons_zero])
          refine wpAnyH_take (i := 6) (oi := { dst := some 92, op := Op.move (Operand.tmp 13), type := 25, pos := "law.go:113", after := #[{ on := 5, ground := Ground.guard }], guard := some (5, true) }) (v := ?vk177) rfl (by kernel_rfl) (by kernel_rfl) (by kernel_rfl) (fun _ _ _ h => h) (Or.inl ⟨by rfl, ?hk177⟩) (S2.old ((Old.refl w9).drew) (C4.two (C4.old (U7.out.trans UD.out) HC.out))) ?rk177
          case hk177 => (intro wz hSw; (try dsimp only at hSw); go_simp; try with_reducible rfl)
          (try simp only [Act.put]); (try simp only [List.setIfInBounds_toArray]); (try simp only [List.set_cons_succ]); (try simp only [List.set_cons_zero])
          refine wpAnyH_take (i := 8) (oi := { dst := some 94, op := Op.fieldAddr 36 (Operand.tmp 5) 2, type := 0, pos := "law.go:113", after := #[{ on := 5, ground := Ground.guard }], guard := some (5, true) }) (v := ?vk178) rfl (by kernel_rfl) (by kernel_rfl) (by kernel_rfl) (fun _ _ _ h => h) (Or.inl ⟨by rfl, ?hk178⟩) (S2.old ((Old.refl w9).drew) (C4.two (C4.old (U7.out.trans UD.out) HC.out))) ?rk178
          case hk178 => (intro wz hSw; (try dsimp only at hSw); go_simp; try with_reducible rfl)
          (try simp only [Act.put]); (try simp only [List.setIfInBounds_toArray]); (try simp only [List.set_cons_succ]); (try simp only [List.set_cons_zero])
          refine wpAnyH_take (i := 9) (oi := { dst := some 95, op := Op.load 3 (Operand.tmp 94), type := 3, pos := "law.go:113", after := #[{ on := 8, ground := Ground.data }, { on := 5, ground := Ground.guard }], guard := some (5, true) }) (v := ?vk179) rfl (by kernel_rfl) (by kernel_rfl) (by kernel_rfl) (fun _ _ _ h => h) (Or.inl ⟨by rfl, ?hk179⟩) (S2.old ((Old.refl w9).drew) (C4.two (C4.old (U7.out.trans UD.out) HC.out))) ?rk179
          case hk179 => (intro wz hSw; (try dsimp only at hSw); go_simp; try with_reducible rfl)
          (try simp only [Act.put]); (try simp only [List.setIfInBounds_toArray]); (try simp only [List.set_cons_succ]); (try simp only [List.set_cons_zero])
          refine wpAnyH_ready (rs := [7]) (by kernel_rfl) (by simp) ?_
          refine AllReadyH.cons (o := { dst := some 93, op := Op.call { callee := Callee.value (Operand.func 13), args := #[Operand.tmp 92], argTypes := #[25] }, type := 3, pos := "law.go:113", after := #[{ on := 6, ground := Ground.data }, { on := 5, ground := Ground.chain }, { on := 5, ground := Ground.guard }], guard := some (5, true) }) rfl (fun K hK => ?_) AllReadyH.nil
          refine wantCall1 ?_ 13 (.tmp 92) #[25] ?_ (.pointer (some ⟨hb2, 0, none⟩)) ?_ ?_ ((enters_of Tryd.func13 (by kernel_rfl) rfl) _ _) ?_
          · rfl
          · rfl
          · rfl
          · rfl
          refine (HVt.out _ (UD.out.drew)).mono ?_
          rintro o x180 ⟨rfl, hx180⟩
          subst hx180
          refine ⟨_, rfl, ?_⟩
          refine hK.out _ _ (S2.old ((Old.refl w9).drew) (C4.two (C4.old (U7.out.trans UD.out) HC.out))) (fun _ => ?_)
          clear hK K
          (try simp only [Act.put]); (try simp only [List.setIfInBounds_toArray]); (try simp only [List.set_cons_succ]); (try simp only [List.set_cons_zero])
          refine wpAnyH_take (i := 10) (oi := { dst := some 96, op := Op.binOp BinOp.eql 3 (Operand.tmp 93) (Operand.tmp 95) 3, type := 4, pos := "law.go:113", after := #[{ on := 7, ground := Ground.data }, { on := 9, ground := Ground.data }, { on := 5, ground := Ground.guard }], guard := some (5, true) }) (v := ?vk181) rfl (by kernel_rfl) (by kernel_rfl) (by kernel_rfl) (fun _ _ _ h => h) (Or.inl ⟨by rfl, ?hk181⟩) (S2.old ((Old.refl w9).drew) (C4.two (C4.old (U7.out.trans UD.out) HC.out))) ?rk181
          case hk181 => (intro wz hSw; (try dsimp only at hSw); go_simp; try with_reducible rfl)
          (try simp only [Act.put]); (try simp only [List.setIfInBounds_toArray]); (try simp only [List.set_cons_succ]); (try simp only [List.set_cons_zero])
          refine wpAnyH_take (i := 11) (oi := { dst := some 97, op := Op.pick (Operand.tmp 91) (Operand.tmp 96) (Operand.const (Value.bool false)), type := 4, pos := "law.go:113", after := #[{ on := 5, ground := Ground.data }, { on := 10, ground := Ground.data }], guard := none }) (v := ?vk182) rfl (by kernel_rfl) (by kernel_rfl) (by kernel_rfl) (fun _ _ _ h => h) (Or.inl ⟨by rfl, ?hk182⟩) (S2.old ((Old.refl w9).drew) (C4.two (C4.old (U7.out.trans UD.out) HC.out))) ?rk182
          case hk182 => (intro wz hSw; (try dsimp only at hSw); go_simp; try with_reducible rfl)
          (try simp only [Act.put]); (try simp only [List.setIfInBounds_toArray]); (try simp only [List.set_cons_succ]); (try simp only [List.set_cons_zero])
          refine wpAnyH_ready (rs := [12]) (by kernel_rfl) (by simp) ?_
          refine AllReadyH.cons (o := { dst := some 16, op := Op.assign (Operand.tmp 97), type := 4, pos := "law.go:113", after := #[{ on := 11, ground := Ground.data }, { on := 7, ground := Ground.chain }, { on := 0, ground := Ground.phase }, { on := 1, ground := Ground.phase }, { on := 2, ground := Ground.phase }, { on := 3, ground := Ground.phase }, { on := 4, ground := Ground.phase }, { on := 5, ground := Ground.phase }, { on := 6, ground := Ground.phase }, { on := 7, ground := Ground.phase }, { on := 8, ground := Ground.phase }, { on := 9, ground := Ground.phase }, { on := 10, ground := Ground.phase }, { on := 11, ground := Ground.phase }], guard := none }) rfl (fun K hK => ?_) AllReadyH.nil
          go_simp
          refine hK.out _ _ (S2.old ((Old.refl w9).drew) (C4.two (C4.old (U7.out.trans UD.out) HC.out))) (fun _ => ?_)
          clear hK K
          (try simp only [Act.put]); (try simp only [List.setIfInBounds_toArray]); (try simp only [List.set_cons_succ]); (try simp only [List.set_cons_zero])
          refine wpAnyH_done (by kernel_rfl) ?_ _
          refine NoPanic.normal ?_
          generalize World.drew w9 = w10 at *
          go_wp2
          go_ret
          exact ⟨rfl, U0.out.trans (U7.out.trans (UD.out.trans UE.out))⟩
      · have d1 : (t2 == t1) = false := by rw [beq_eq_false_iff_ne]; exact z1
        refine wp_region_noPanic ?_
        refine wp_region_held_drew (S := fun wz => wz.cell? ⟨g, 1, none⟩ = some (.int .i64 t1) ∧ wz.cell? ⟨g, 2, none⟩ = some (.int .i64 v1)) (by kernel_rfl) ?_ (fun hHeld => ?_)
        · exact (S2.old ((Old.refl w7).drew) (C4.one (C4.old U7.out HC.out)))
        (try simp only [Act.put]); (try simp only [List.setIfInBounds_toArray]); (try simp only [List.set_cons_succ]); (try simp only [List.set_cons_zero])
        clear hHeld
        refine wpAnyH_take (i := 0) (oi := { dst := some 74, op := Op.move (Operand.tmp 13), type := 25, pos := "law.go:112", after := #[], guard := none }) (v := ?vk183) rfl (by kernel_rfl) (by kernel_rfl) (by kernel_rfl) (fun _ _ _ h => h) (Or.inl ⟨by rfl, ?hk183⟩) (S2.old ((Old.refl w7).drew) (C4.one (C4.old U7.out HC.out))) ?rk183
        case hk183 => (intro wz hSw; (try dsimp only at hSw); go_simp; try with_reducible rfl)
        (try simp only [Act.put]); (try simp only [List.setIfInBounds_toArray]); (try simp only [List.set_cons_succ]); (try simp only [List.set_cons_zero])
        refine wpAnyH_take (i := 2) (oi := { dst := some 76, op := Op.fieldAddr 36 (Operand.tmp 4) 1, type := 0, pos := "law.go:112", after := #[], guard := none }) (v := ?vk184) rfl (by kernel_rfl) (by kernel_rfl) (by kernel_rfl) (fun _ _ _ h => h) (Or.inl ⟨by rfl, ?hk184⟩) (S2.old ((Old.refl w7).drew) (C4.one (C4.old U7.out HC.out))) ?rk184
        case hk184 => (intro wz hSw; (try dsimp only at hSw); go_simp; try with_reducible rfl)
        (try simp only [Act.put]); (try simp only [List.setIfInBounds_toArray]); (try simp only [List.set_cons_succ]); (try simp only [List.set_cons_zero])
        refine wpAnyH_take (i := 3) (oi := { dst := some 77, op := Op.load 2 (Operand.tmp 76), type := 2, pos := "law.go:112", after := #[{ on := 2, ground := Ground.data }], guard := none }) (v := ?vk185) rfl (by kernel_rfl) (by kernel_rfl) (by kernel_rfl) (fun _ _ _ h => h) (Or.inl ⟨by rfl, ?hk185⟩) (S2.old ((Old.refl w7).drew) (C4.one (C4.old U7.out HC.out))) ?rk185
        case hk185 => (intro wz hSw; (try dsimp only at hSw); go_simp; try with_reducible rfl)
        (try simp only [Act.put]); (try simp only [List.setIfInBounds_toArray]); (try simp only [List.set_cons_succ]); (try simp only [List.set_cons_zero])
        refine wpAnyH_ready (rs := [1]) (by kernel_rfl) (by simp) ?_
        refine AllReadyH.cons (o := { dst := some 75, op := Op.call { callee := Callee.value (Operand.func 12), args := #[Operand.tmp 74], argTypes := #[25] }, type := 2, pos := "law.go:112", after := #[{ on := 0, ground := Ground.data }], guard := none }) rfl (fun K hK => ?_) AllReadyH.nil
        refine wantCall1 ?_ 12 (.tmp 74) #[25] ?_ (.pointer (some ⟨hb2, 0, none⟩)) ?_ ?_ ((enters_of Tryd.func12 (by kernel_rfl) rfl) _ _) ?_
        · rfl
        · rfl
        · rfl
        · rfl
        refine (HTm.out _ ((Old.refl w7).drew)).mono ?_
        rintro o x186 ⟨rfl, hx186⟩
        subst hx186
        refine ⟨_, rfl, ?_⟩
        refine hK.out _ _ (S2.old ((Old.refl w7).drew) (C4.one (C4.old U7.out HC.out))) (fun _ => ?_)
        clear hK K
        (try simp only [Act.put]); (try simp only [List.setIfInBounds_toArray]); (try simp only [List.set_cons_succ]); (try simp only [List.set_cons_zero])
        refine wpAnyH_take (i := 4) (oi := { dst := some 78, op := Op.binOp BinOp.eql 2 (Operand.tmp 75) (Operand.tmp 77) 2, type := 4, pos := "law.go:112", after := #[{ on := 1, ground := Ground.data }, { on := 3, ground := Ground.data }], guard := none }) (v := ?vk187) rfl (by kernel_rfl) (by kernel_rfl) (by kernel_rfl) (fun _ _ _ h => h) (Or.inl ⟨by rfl, ?hk187⟩) (S2.old ((Old.refl w7).drew) (C4.one (C4.old U7.out HC.out))) ?rk187
        case hk187 => (intro wz hSw; (try dsimp only at hSw); go_simp; try with_reducible rfl)
        (try simp only [Act.put]); (try simp only [List.setIfInBounds_toArray]); (try simp only [List.set_cons_succ]); (try simp only [List.set_cons_zero])
        refine wpAnyH_take (i := 5) (oi := { dst := some 79, op := Op.move (Operand.tmp 78), type := 4, pos := "law.go:112", after := #[{ on := 4, ground := Ground.data }, { on := 1, ground := Ground.chain }], guard := none }) (v := ?vk188) rfl (by kernel_rfl) (by kernel_rfl) (by kernel_rfl) (fun _ _ _ h => h) (Or.inl ⟨by rfl, ?hk188⟩) (S2.old ((Old.refl w7).drew) (C4.one (C4.old U7.out HC.out))) ?rk188
        case hk188 => (intro wz hSw; (try dsimp only at hSw); go_simp; try with_reducible rfl)
        (try simp only [Act.put]); (try simp only [List.setIfInBounds_toArray]); (try simp only [List.set_cons_succ]); (try simp only [List.set_cons_zero])
        refine wpAnyH_take (i := 6) (oi := { dst := some 80, op := Op.move (Operand.tmp 13), type := 25, pos := "law.go:112", after := #[{ on := 5, ground := Ground.guard }], guard := some (5, true) }) (v := undef) rfl (by kernel_rfl) (by kernel_rfl) (by kernel_rfl) (fun _ _ _ h => h) (Or.inr ⟨by rfl, rfl⟩) (S2.old ((Old.refl w7).drew) (C4.one (C4.old U7.out HC.out))) ?_
        (try simp only [Act.put]); (try simp only [List.setIfInBounds_toArray]); (try simp only [List.set_cons_succ]); (try simp only [List.set_cons_zero])
        refine wpAnyH_take (i := 7) (oi := { dst := some 81, op := Op.call { callee := Callee.value (Operand.func 13), args := #[Operand.tmp 80], argTypes := #[25] }, type := 3, pos := "law.go:112", after := #[{ on := 6, ground := Ground.data }, { on := 5, ground := Ground.chain }, { on := 5, ground := Ground.guard }], guard := some (5, true) }) (v := undef) rfl (by kernel_rfl) (by kernel_rfl) (by kernel_rfl) (fun _ _ _ h => h) (Or.inr ⟨by rfl, rfl⟩) (S2.old ((Old.refl w7).drew) (C4.one (C4.old U7.out HC.out))) ?_
        (try simp only [Act.put]); (try simp only [List.setIfInBounds_toArray]); (try simp only [List.set_cons_succ]); (try simp only [List.set_cons_zero])
        refine wpAnyH_take (i := 8) (oi := { dst := some 82, op := Op.fieldAddr 36 (Operand.tmp 4) 2, type := 0, pos := "law.go:112", after := #[{ on := 5, ground := Ground.guard }], guard := some (5, true) }) (v := undef) rfl (by kernel_rfl) (by kernel_rfl) (by kernel_rfl) (fun _ _ _ h => h) (Or.inr ⟨by rfl, rfl⟩) (S2.old ((Old.refl w7).drew) (C4.one (C4.old U7.out HC.out))) ?_
        (try simp only [Act.put]); (try simp only [List.setIfInBounds_toArray]); (try simp only [List.set_cons_succ]); (try simp only [List.set_cons_zero])
        refine wpAnyH_take (i := 9) (oi := { dst := some 83, op := Op.load 3 (Operand.tmp 82), type := 3, pos := "law.go:112", after := #[{ on := 8, ground := Ground.data }, { on := 5, ground := Ground.guard }], guard := some (5, true) }) (v := undef) rfl (by kernel_rfl) (by kernel_rfl) (by kernel_rfl) (fun _ _ _ h => h) (Or.inr ⟨by rfl, rfl⟩) (S2.old ((Old.refl w7).drew) (C4.one (C4.old U7.out HC.out))) ?_
        (try simp only [Act.put]); (try simp only [List.setIfInBounds_toArray]); (try simp only [List.set_cons_succ]); (try simp only [List.set_cons_zero])
        refine wpAnyH_take (i := 10) (oi := { dst := some 84, op := Op.binOp BinOp.eql 3 (Operand.tmp 81) (Operand.tmp 83) 3, type := 4, pos := "law.go:112", after := #[{ on := 7, ground := Ground.data }, { on := 9, ground := Ground.data }, { on := 5, ground := Ground.guard }], guard := some (5, true) }) (v := undef) rfl (by kernel_rfl) (by kernel_rfl) (by kernel_rfl) (fun _ _ _ h => h) (Or.inr ⟨by rfl, rfl⟩) (S2.old ((Old.refl w7).drew) (C4.one (C4.old U7.out HC.out))) ?_
        (try simp only [Act.put]); (try simp only [List.setIfInBounds_toArray]); (try simp only [List.set_cons_succ]); (try simp only [List.set_cons_zero])
        refine wpAnyH_take (i := 11) (oi := { dst := some 85, op := Op.pick (Operand.tmp 79) (Operand.tmp 84) (Operand.const (Value.bool false)), type := 4, pos := "law.go:112", after := #[{ on := 5, ground := Ground.data }, { on := 10, ground := Ground.data }], guard := none }) (v := ?vk189) rfl (by kernel_rfl) (by kernel_rfl) (by kernel_rfl) (fun _ _ _ h => h) (Or.inl ⟨by rfl, ?hk189⟩) (S2.old ((Old.refl w7).drew) (C4.one (C4.old U7.out HC.out))) ?rk189
        case hk189 => (intro wz hSw; (try dsimp only at hSw); go_simp; try with_reducible rfl)
        (try simp only [Act.put]); (try simp only [List.setIfInBounds_toArray]); (try simp only [List.set_cons_succ]); (try simp only [List.set_cons_zero])
        refine wpAnyH_ready (rs := [12]) (by kernel_rfl) (by simp) ?_
        refine AllReadyH.cons (o := { dst := some 15, op := Op.assign (Operand.tmp 85), type := 4, pos := "law.go:112", after := #[{ on := 11, ground := Ground.data }, { on := 7, ground := Ground.chain }, { on := 0, ground := Ground.phase }, { on := 1, ground := Ground.phase }, { on := 2, ground := Ground.phase }, { on := 3, ground := Ground.phase }, { on := 4, ground := Ground.phase }, { on := 5, ground := Ground.phase }, { on := 6, ground := Ground.phase }, { on := 7, ground := Ground.phase }, { on := 8, ground := Ground.phase }, { on := 9, ground := Ground.phase }, { on := 10, ground := Ground.phase }, { on := 11, ground := Ground.phase }], guard := none }) rfl (fun K hK => ?_) AllReadyH.nil
        go_simp
        refine hK.out _ _ (S2.old ((Old.refl w7).drew) (C4.one (C4.old U7.out HC.out))) (fun _ => ?_)
        clear hK K
        (try simp only [Act.put]); (try simp only [List.setIfInBounds_toArray]); (try simp only [List.set_cons_succ]); (try simp only [List.set_cons_zero])
        refine wpAnyH_done (by kernel_rfl) ?_ _
        refine NoPanic.normal ?_
        generalize World.drew w7 = w9 at *
        have UE := hid ((Old.refl w9).drew)
        go_upto_region 16 with (fail)
        refine wp_region_noPanic ?_
        refine wp_region_held_drew (S := fun wz => wz.cell? ⟨(g + 1), 1, none⟩ = some (.int .i64 t2) ∧ wz.cell? ⟨(g + 1), 2, none⟩ = some (.int .i64 v2)) (by kernel_rfl) ?_ (fun hHeld => ?_)
        · exact (S2.old ((Old.refl w9).drew) (C4.two (C4.old (U7.out.trans UD.out) HC.out)))
        (try simp only [Act.put]); (try simp only [List.setIfInBounds_toArray]); (try simp only [List.set_cons_succ]); (try simp only [List.set_cons_zero])
        clear hHeld
        refine wpAnyH_take (i := 0) (oi := { dst := some 86, op := Op.move (Operand.tmp 13), type := 25, pos := "law.go:113", after := #[], guard := none }) (v := ?vk190) rfl (by kernel_rfl) (by kernel_rfl) (by kernel_rfl) (fun _ _ _ h => h) (Or.inl ⟨by rfl, ?hk190⟩) (S2.old ((Old.refl w9).drew) (C4.two (C4.old (U7.out.trans UD.out) HC.out))) ?rk190
        case hk190 => (intro wz hSw; (try dsimp only at hSw); go_simp; try with_reducible rfl)
        (try simp only [Act.put]); (try simp only [List.setIfInBounds_toArray]); (try simp only [List.set_cons_succ]); (try simp only [List.set_cons_zero])
        refine wpAnyH_take (i := 2) (oi := { dst := some 88, op := Op.fieldAddr 36 (Operand.tmp 5) 1, type := 0, pos := "law.go:113", after := #[], guard := none }) (v := ?vk191) rfl (by kernel_rfl) (by kernel_rfl) (by kernel_rfl) (fun _ _ _ h => h) (Or.inl ⟨by rfl, ?hk191⟩) (S2.old ((Old.refl w9).drew) (C4.two (C4.old (U7.out.trans UD.out) HC.out))) ?rk191
        case hk191 => (intro wz hSw; (try dsimp only at hSw); go_simp; try with_reducible rfl)
        (try simp only [Act.put]); (try simp only [List.setIfInBounds_toArray]); (try simp only [List.set_cons_succ]); (try simp only [List.set_cons_zero])
        refine wpAnyH_take (i := 3) (oi := { dst := some 89, op := Op.load 2 (Operand.tmp 88), type := 2, pos := "law.go:113", after := #[{ on := 2, ground := Ground.data }], guard := none }) (v := ?vk192) rfl (by kernel_rfl) (by kernel_rfl) (by kernel_rfl) (fun _ _ _ h => h) (Or.inl ⟨by rfl, ?hk192⟩) (S2.old ((Old.refl w9).drew) (C4.two (C4.old (U7.out.trans UD.out) HC.out))) ?rk192
        case hk192 => (intro wz hSw; (try dsimp only at hSw); go_simp; try with_reducible rfl)
        (try simp only [Act.put]); (try simp only [List.setIfInBounds_toArray]); (try simp only [List.set_cons_succ]); (try simp only [List.set_cons_zero])
        refine wpAnyH_ready (rs := [1]) (by kernel_rfl) (by simp) ?_
        refine AllReadyH.cons (o := { dst := some 87, op := Op.call { callee := Callee.value (Operand.func 12), args := #[Operand.tmp 86], argTypes := #[25] }, type := 2, pos := "law.go:113", after := #[{ on := 0, ground := Ground.data }], guard := none }) rfl (fun K hK => ?_) AllReadyH.nil
        refine wantCall1 ?_ 12 (.tmp 86) #[25] ?_ (.pointer (some ⟨hb2, 0, none⟩)) ?_ ?_ ((enters_of Tryd.func12 (by kernel_rfl) rfl) _ _) ?_
        · rfl
        · rfl
        · rfl
        · rfl
        refine (HTm.out _ (UD.out.drew)).mono ?_
        rintro o x193 ⟨rfl, hx193⟩
        subst hx193
        refine ⟨_, rfl, ?_⟩
        refine hK.out _ _ (S2.old ((Old.refl w9).drew) (C4.two (C4.old (U7.out.trans UD.out) HC.out))) (fun _ => ?_)
        clear hK K
        (try simp only [Act.put]); (try simp only [List.setIfInBounds_toArray]); (try simp only [List.set_cons_succ]); (try simp only [List.set_cons_zero])
        refine wpAnyH_take (i := 4) (oi := { dst := some 90, op := Op.binOp BinOp.eql 2 (Operand.tmp 87) (Operand.tmp 89) 2, type := 4, pos := "law.go:113", after := #[{ on := 1, ground := Ground.data }, { on := 3, ground := Ground.data }], guard := none }) (v := ?vk194) rfl (by kernel_rfl) (by kernel_rfl) (by kernel_rfl) (fun _ _ _ h => h) (Or.inl ⟨by rfl, ?hk194⟩) (S2.old ((Old.refl w9).drew) (C4.two (C4.old (U7.out.trans UD.out) HC.out))) ?rk194
        case hk194 => (intro wz hSw; (try dsimp only at hSw); go_simp; try with_reducible rfl)
        (try simp only [Act.put]); (try simp only [List.setIfInBounds_toArray]); (try simp only [List.set_cons_succ]); (try simp only [List.set_cons_zero])
        refine wpAnyH_take (i := 5) (oi := { dst := some 91, op := Op.move (Operand.tmp 90), type := 4, pos := "law.go:113", after := #[{ on := 4, ground := Ground.data }, { on := 1, ground := Ground.chain }], guard := none }) (v := ?vk195) rfl (by kernel_rfl) (by kernel_rfl) (by kernel_rfl) (fun _ _ _ h => h) (Or.inl ⟨by rfl, ?hk195⟩) (S2.old ((Old.refl w9).drew) (C4.two (C4.old (U7.out.trans UD.out) HC.out))) ?rk195
        case hk195 => (intro wz hSw; (try dsimp only at hSw); go_simp; try with_reducible rfl)
        (try simp only [Act.put]); (try simp only [List.setIfInBounds_toArray]); (try simp only [List.set_cons_succ]); (try simp only [List.set_cons_zero])
        refine wpAnyH_take (i := 6) (oi := { dst := some 92, op := Op.move (Operand.tmp 13), type := 25, pos := "law.go:113", after := #[{ on := 5, ground := Ground.guard }], guard := some (5, true) }) (v := ?vk196) rfl (by kernel_rfl) (by kernel_rfl) (by kernel_rfl) (fun _ _ _ h => h) (Or.inl ⟨by rfl, ?hk196⟩) (S2.old ((Old.refl w9).drew) (C4.two (C4.old (U7.out.trans UD.out) HC.out))) ?rk196
        case hk196 => (intro wz hSw; (try dsimp only at hSw); go_simp; try with_reducible rfl)
        (try simp only [Act.put]); (try simp only [List.setIfInBounds_toArray]); (try simp only [List.set_cons_succ]); (try simp only [List.set_cons_zero])
        refine wpAnyH_take (i := 8) (oi := { dst := some 94, op := Op.fieldAddr 36 (Operand.tmp 5) 2, type := 0, pos := "law.go:113", after := #[{ on := 5, ground := Ground.guard }], guard := some (5, true) }) (v := ?vk197) rfl (by kernel_rfl) (by kernel_rfl) (by kernel_rfl) (fun _ _ _ h => h) (Or.inl ⟨by rfl, ?hk197⟩) (S2.old ((Old.refl w9).drew) (C4.two (C4.old (U7.out.trans UD.out) HC.out))) ?rk197
        case hk197 => (intro wz hSw; (try dsimp only at hSw); go_simp; try with_reducible rfl)
        (try simp only [Act.put]); (try simp only [List.setIfInBounds_toArray]); (try simp only [List.set_cons_succ]); (try simp only [List.set_cons_zero])
        refine wpAnyH_take (i := 9) (oi := { dst := some 95, op := Op.load 3 (Operand.tmp 94), type := 3, pos := "law.go:113", after := #[{ on := 8, ground := Ground.data }, { on := 5, ground := Ground.guard }], guard := some (5, true) }) (v := ?vk198) rfl (by kernel_rfl) (by kernel_rfl) (by kernel_rfl) (fun _ _ _ h => h) (Or.inl ⟨by rfl, ?hk198⟩) (S2.old ((Old.refl w9).drew) (C4.two (C4.old (U7.out.trans UD.out) HC.out))) ?rk198
        case hk198 => (intro wz hSw; (try dsimp only at hSw); go_simp; try with_reducible rfl)
        (try simp only [Act.put]); (try simp only [List.setIfInBounds_toArray]); (try simp only [List.set_cons_succ]); (try simp only [List.set_cons_zero])
        refine wpAnyH_ready (rs := [7]) (by kernel_rfl) (by simp) ?_
        refine AllReadyH.cons (o := { dst := some 93, op := Op.call { callee := Callee.value (Operand.func 13), args := #[Operand.tmp 92], argTypes := #[25] }, type := 3, pos := "law.go:113", after := #[{ on := 6, ground := Ground.data }, { on := 5, ground := Ground.chain }, { on := 5, ground := Ground.guard }], guard := some (5, true) }) rfl (fun K hK => ?_) AllReadyH.nil
        refine wantCall1 ?_ 13 (.tmp 92) #[25] ?_ (.pointer (some ⟨hb2, 0, none⟩)) ?_ ?_ ((enters_of Tryd.func13 (by kernel_rfl) rfl) _ _) ?_
        · rfl
        · rfl
        · rfl
        · rfl
        refine (HVt.out _ (UD.out.drew)).mono ?_
        rintro o x199 ⟨rfl, hx199⟩
        subst hx199
        refine ⟨_, rfl, ?_⟩
        refine hK.out _ _ (S2.old ((Old.refl w9).drew) (C4.two (C4.old (U7.out.trans UD.out) HC.out))) (fun _ => ?_)
        clear hK K
        (try simp only [Act.put]); (try simp only [List.setIfInBounds_toArray]); (try simp only [List.set_cons_succ]); (try simp only [List.set_cons_zero])
        refine wpAnyH_take (i := 10) (oi := { dst := some 96, op := Op.binOp BinOp.eql 3 (Operand.tmp 93) (Operand.tmp 95) 3, type := 4, pos := "law.go:113", after := #[{ on := 7, ground := Ground.data }, { on := 9, ground := Ground.data }, { on := 5, ground := Ground.guard }], guard := some (5, true) }) (v := ?vk200) rfl (by kernel_rfl) (by kernel_rfl) (by kernel_rfl) (fun _ _ _ h => h) (Or.inl ⟨by rfl, ?hk200⟩) (S2.old ((Old.refl w9).drew) (C4.two (C4.old (U7.out.trans UD.out) HC.out))) ?rk200
        case hk200 => (intro wz hSw; (try dsimp only at hSw); go_simp; try with_reducible rfl)
        (try simp only [Act.put]); (try simp only [List.setIfInBounds_toArray]); (try simp only [List.set_cons_succ]); (try simp only [List.set_cons_zero])
        refine wpAnyH_take (i := 11) (oi := { dst := some 97, op := Op.pick (Operand.tmp 91) (Operand.tmp 96) (Operand.const (Value.bool false)), type := 4, pos := "law.go:113", after := #[{ on := 5, ground := Ground.data }, { on := 10, ground := Ground.data }], guard := none }) (v := ?vk201) rfl (by kernel_rfl) (by kernel_rfl) (by kernel_rfl) (fun _ _ _ h => h) (Or.inl ⟨by rfl, ?hk201⟩) (S2.old ((Old.refl w9).drew) (C4.two (C4.old (U7.out.trans UD.out) HC.out))) ?rk201
        case hk201 => (intro wz hSw; (try dsimp only at hSw); go_simp; try with_reducible rfl)
        (try simp only [Act.put]); (try simp only [List.setIfInBounds_toArray]); (try simp only [List.set_cons_succ]); (try simp only [List.set_cons_zero])
        refine wpAnyH_ready (rs := [12]) (by kernel_rfl) (by simp) ?_
        refine AllReadyH.cons (o := { dst := some 16, op := Op.assign (Operand.tmp 97), type := 4, pos := "law.go:113", after := #[{ on := 11, ground := Ground.data }, { on := 7, ground := Ground.chain }, { on := 0, ground := Ground.phase }, { on := 1, ground := Ground.phase }, { on := 2, ground := Ground.phase }, { on := 3, ground := Ground.phase }, { on := 4, ground := Ground.phase }, { on := 5, ground := Ground.phase }, { on := 6, ground := Ground.phase }, { on := 7, ground := Ground.phase }, { on := 8, ground := Ground.phase }, { on := 9, ground := Ground.phase }, { on := 10, ground := Ground.phase }, { on := 11, ground := Ground.phase }], guard := none }) rfl (fun K hK => ?_) AllReadyH.nil
        go_simp
        refine hK.out _ _ (S2.old ((Old.refl w9).drew) (C4.two (C4.old (U7.out.trans UD.out) HC.out))) (fun _ => ?_)
        clear hK K
        (try simp only [Act.put]); (try simp only [List.setIfInBounds_toArray]); (try simp only [List.set_cons_succ]); (try simp only [List.set_cons_zero])
        refine wpAnyH_done (by kernel_rfl) ?_ _
        refine NoPanic.normal ?_
        generalize World.drew w9 = w10 at *
        go_wp2
        go_ret
        exact ⟨rfl, U0.out.trans (U7.out.trans (UD.out.trans UE.out))⟩
end Go.Proofs.YtdjlkmghdpmdiaaDoor
