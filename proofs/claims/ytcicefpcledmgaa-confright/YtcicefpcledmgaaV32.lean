/- The law ConfRight; no condition. -/
import Derived.Test.YtcicefpcledmgaaV18
import Derived.Test.YtcicefpcledmgaaV20
import Derived.Test.YtcicefpcledmgaaV31
namespace Go.Proofs.Ytcicefpcledmgaa
open Go.RowKit Go.Lib
set_option linter.unusedVariables false
set_option linter.unusedSimpArgs false
set_option maxRecDepth 20000
abbrev BxD (B db : Nat) (a b c d : Value) : World → Prop := fun wz => wz.cell? ⟨B, 0, none⟩ = some a ∧ wz.cell? ⟨B, 1, none⟩ = some b ∧ wz.cell? ⟨db, 0, none⟩ = some c ∧ wz.cell? ⟨db, 1, none⟩ = some d
theorem BxD.old {B db : Nat} {a b c d : Value} {w w' : World} (u : Old w w') (h : BxD B db a b c d w) : BxD B db a b c d w' := ⟨u.keep h.1, u.keep h.2.1, u.keep h.2.2.1, u.keep h.2.2.2⟩
theorem sameBytesL (v u : Value) (L : List Nat) (w : World) (h1 : Pk.ByRow w v L.length (Pk.gd L)) (h2 : Pk.ByRow w u L.length (Pk.gd L)) : Calls Try.prog 23 #[v, u] w fun e w' => e = .returned (.bool true) ∧ Old w w' :=
  (Pk.sameBytes_eq v u L.length (Pk.gd L) (Pk.gd L) w h1 h2 (fun _ _ => rfl)).mono fun e w' h => ⟨h.1, by obtain ⟨m, q⟩ := h.2; rw [q]; exact (Old.refl w).drewN m⟩
theorem loadC (v : Value) (n m : Nat) (f g : Nat → Int) (w : World) (base : Nat) (hr : rightB n f m g = true) (h : Pk.OwnL base w v (bytesC (lsI f n) (lsI g m))) :
    Calls Try.prog 22 #[v] w fun e w' => ∃ p1 c1 p2 c2, e = .returned (.tuple #[.agg #[.slice p1 n c1, .slice p2 m c2], .int .i64 0]) ∧ NRowL w' (.slice p1 n c1) n f ∧ NRowL w' (.slice p2 m c2) m g ∧ Old w w' := by
  obtain ⟨_, r1, r2, _⟩ := rightB_parts hr
  have l1 := riK_few _ _ r1
  have l2 := riK_few _ _ r2
  refine (load_any _ w v h.row).mono ?_
  rintro e w' ⟨u, q⟩
  rw [ld_bytes hr] at q
  rcases q with ⟨a, b, v1, v2, e1, rfl, o1, o2⟩ | ⟨e1, _⟩
  · cases e1
    obtain ⟨p1, c1, x1⟩ := o1.len
    obtain ⟨p2, c2, x2⟩ := o2.len
    rw [lsI_len] at x1 x2
    subst x1 x2
    exact ⟨p1, c1, p2, c2, rfl, o1.rowL (by rw [lsI_len]; omega) (lsI_len f n) (fun i hi => lsI_get f n i hi), o2.rowL (by rw [lsI_len]; omega) (lsI_len g m) (fun i hi => lsI_get g m i hi), u⟩
  · cases e1
set_option maxHeartbeats 8000000 in
set_option maxRecDepth 20000 in
theorem rightLaw (v0 : Value) (x : Int) (w : World) (h0 : CfB w v0) :
    Calls Try.prog 6 #[v0, .int .i64 x] w fun e w' => e = .returned (.bool true) ∧ Old w w' := by
  obtain ⟨a1, a2, n, m, f, g, rfl, r1, r2, s1, s2⟩ := h0
  have R1 := hid r1
  have R2 := hid r2
  have S12 := hid (And.intro s1 s2)
  obtain ⟨_, p1, c1, rfl, _, _, _⟩ := r1
  obtain ⟨_, p2, c2, rfl, _, _, _⟩ := r2
  clear s1 s2
  go_enter Try.func6, Try.ntmps6
  go_upto_region 3 with (go_at_call 8; refine (alive_any _).mono ?_; rintro e w1 ⟨rfl, o1⟩; have O1 := hid (((Old.refl w).alloc _).trans o1); have x0 : w1.cell? ⟨w.heap.size, 0, none⟩ = some (.slice p1 n c1) := o1.keep (by simp); have x1 : w1.cell? ⟨w.heap.size, 1, none⟩ = some (.slice p2 m c2) := o1.keep (by simp); clear o1)
  generalize w.heap.size = B at *
  have HRr := hid (fun (W : World) (u : Old w W) => rRight_any (.slice p1 n c1) (.slice p2 m c2) n m f g W (R1.out.old u) (R2.out.old u))
  have HRi0 := hid (fun (W : World) (u : Old w W) => right_any (.slice p1 n c1) (.slice p2 m c2) n m f g W (R1.out.old u) (R2.out.old u))
  have HV0 := hid (fun (W : World) (u : Old w W) => voter_any (.slice p1 n c1) (.slice p2 m c2) n m f g x W (R1.out.old u) (R2.out.old u))
  have HRV0 := hid (fun (W : World) (u : Old w W) => rVoter_any (.slice p1 n c1) (.slice p2 m c2) n m f g x W (R1.out.old u) (R2.out.old u))
  have HM0 := hid (fun (W : World) (u : Old w W) => member_any (.slice p1 n c1) (.slice p2 m c2) n m f g x W (R1.out.old u) (R2.out.old u))
  have HRM0 := hid (fun (W : World) (u : Old w W) => rMember_any (.slice p1 n c1) (.slice p2 m c2) n m f g x W (R1.out.old u) (R2.out.old u))
  generalize hasK f x n = bv at *
  generalize memB n f m g x = bm at *
  have hv1 : (bv != bv) = false := by simp
  have hm1 : (bm != bm) = false := by simp
  cases hr : rightB n f m g with
  | false =>
    rw [hr] at HRr HRi0
    have HBn := hid (fun (W : World) (u : Old w W) => bytes_no (.slice p1 n c1) (.slice p2 m c2) n m f g W (R1.out.old u) (R2.out.old u) hr)
    go_upto_region 5 with (first | (go_at_call 18; refine (HRr.out _ O1.out).mono ?_; rintro e w2 ⟨rfl, u2⟩; have O2 := hid (O1.out.trans u2); have y0 := u2.keep x0; have y1 := u2.keep x1; clear u2) | (go_at_call 19; refine (HBn.out _ O2.out).mono ?_; rintro e w3 ⟨rfl, u3⟩; have O3 := hid (O2.out.trans u3); have HBx := hid (show BxS B (.slice p1 n c1) (.slice p2 m c2) w3 from ⟨u3.keep y0, u3.keep y1⟩); clear u3))
    clear x0 x1 y0 y1 O1 O2 HRr HBn
    have HRi := hid (fun (W : World) (u : Old w3 W) => HRi0.out W (O3.out.trans u))
    have HV := hid (fun (W : World) (u : Old w3 W) => HV0.out W (O3.out.trans u))
    have HRV := hid (fun (W : World) (u : Old w3 W) => HRV0.out W (O3.out.trans u))
    have HM := hid (fun (W : World) (u : Old w3 W) => HM0.out W (O3.out.trans u))
    have HRM := hid (fun (W : World) (u : Old w3 W) => HRM0.out W (O3.out.trans u))
    clear HRi0 HV0 HRV0 HM0 HRM0
    refine wp_region_noPanic ?_
    refine wp_region_held_drew (S := BxS B (.slice p1 n c1) (.slice p2 m c2)) (by kernel_rfl) ?_ (fun hHeld => ?_)
    · exact BxS.old ((Old.refl w3).drew) HBx.out
    (try simp only [Act.put]); (try simp only [List.setIfInBounds_toArray]); (try simp only [List.set_cons_succ]); (try simp only [List.set_cons_zero])
    clear hHeld
    refine wpAnyH_take (i := 0) (oi := { dst := some 19, op := Op.load 24 (Operand.tmp 2), type := 24, pos := "law.go:29", after := #[], guard := none }) (v := ?vk1) rfl (by kernel_rfl) (by kernel_rfl) (by kernel_rfl) (fun _ _ _ h => h) (Or.inl ⟨by rfl, ?hk1⟩) (BxS.old ((Old.refl w3).drew) HBx.out) ?rk1
    case hk1 => (intro wz hSw; (try dsimp only at hSw); go_simp; try with_reducible rfl)
    (try simp only [Act.put]); (try simp only [List.setIfInBounds_toArray]); (try simp only [List.set_cons_succ]); (try simp only [List.set_cons_zero])
    refine wpAnyH_take (i := 2) (oi := { dst := some 21, op := Op.move (Operand.tmp 5), type := 4, pos := "law.go:29", after := #[], guard := none }) (v := ?vk2) rfl (by kernel_rfl) (by kernel_rfl) (by kernel_rfl) (fun _ _ _ h => h) (Or.inl ⟨by rfl, ?hk2⟩) (BxS.old ((Old.refl w3).drew) HBx.out) ?rk2
    case hk2 => (intro wz hSw; (try dsimp only at hSw); go_simp; try with_reducible rfl)
    (try simp only [Act.put]); (try simp only [List.setIfInBounds_toArray]); (try simp only [List.set_cons_succ]); (try simp only [List.set_cons_zero])
    refine wpAnyH_ready (rs := [1]) (by kernel_rfl) (by simp) ?_
    refine AllReadyH.cons (o := { dst := some 20, op := Op.call { callee := Callee.value (Operand.func 9), args := #[Operand.tmp 19], argTypes := #[24] }, type := 4, pos := "law.go:29", after := #[{ on := 0, ground := Ground.data }], guard := none }) rfl (fun K hK => ?_) AllReadyH.nil
    refine wantCall1 ?_ 9 (.tmp 19) #[24] ?_ (.agg #[.slice p1 n c1, .slice p2 m c2]) ?_ ?_ ((enters_of Try.func9 (by kernel_rfl) rfl) _ _) ?_
    · rfl
    · rfl
    · rfl
    · rfl
    refine (HRi.out _ ((Old.refl w3).drew)).mono ?_
    rintro o x3 ⟨rfl, b3⟩
    refine ⟨_, rfl, ?_⟩
    have U3 := ((Old.refl w3).drew).trans b3
    refine hK.out _ _ (BxS.old U3 HBx.out) (fun _ => ?_)
    clear hK K
    (try simp only [Act.put]); (try simp only [List.setIfInBounds_toArray]); (try simp only [List.set_cons_succ]); (try simp only [List.set_cons_zero])
    refine wpAnyH_take (i := 3) (oi := { dst := some 22, op := Op.binOp BinOp.neq 4 (Operand.tmp 20) (Operand.tmp 21) 4, type := 4, pos := "law.go:29", after := #[{ on := 1, ground := Ground.data }, { on := 2, ground := Ground.data }], guard := none }) (v := ?vk4) rfl (by kernel_rfl) (by kernel_rfl) (by kernel_rfl) (fun _ _ _ h => h) (Or.inl ⟨by rfl, ?hk4⟩) (BxS.old U3 HBx.out) ?rk4
    case hk4 => (intro wz hSw; (try dsimp only at hSw); go_simp; try with_reducible rfl)
    (try simp only [Act.put]); (try simp only [List.setIfInBounds_toArray]); (try simp only [List.set_cons_succ]); (try simp only [List.set_cons_zero])
    refine wpAnyH_take (i := 4) (oi := { dst := some 23, op := Op.move (Operand.tmp 22), type := 4, pos := "law.go:29", after := #[{ on := 3, ground := Ground.data }, { on := 1, ground := Ground.chain }], guard := none }) (v := ?vk5) rfl (by kernel_rfl) (by kernel_rfl) (by kernel_rfl) (fun _ _ _ h => h) (Or.inl ⟨by rfl, ?hk5⟩) (BxS.old U3 HBx.out) ?rk5
    case hk5 => (intro wz hSw; (try dsimp only at hSw); go_simp; try with_reducible rfl)
    (try simp only [Act.put]); (try simp only [List.setIfInBounds_toArray]); (try simp only [List.set_cons_succ]); (try simp only [List.set_cons_zero])
    refine wpAnyH_take (i := 5) (oi := { dst := some 24, op := Op.load 24 (Operand.tmp 2), type := 24, pos := "law.go:29", after := #[{ on := 4, ground := Ground.guard }], guard := some (4, false) }) (v := ?vk6) rfl (by kernel_rfl) (by kernel_rfl) (by kernel_rfl) (fun _ _ _ h => h) (Or.inl ⟨by rfl, ?hk6⟩) (BxS.old U3 HBx.out) ?rk6
    case hk6 => (intro wz hSw; (try dsimp only at hSw); go_simp; try with_reducible rfl)
    (try simp only [Act.put]); (try simp only [List.setIfInBounds_toArray]); (try simp only [List.set_cons_succ]); (try simp only [List.set_cons_zero])
    refine wpAnyH_take (i := 6) (oi := { dst := some 25, op := Op.move (Operand.tmp 1), type := 3, pos := "law.go:29", after := #[{ on := 4, ground := Ground.guard }], guard := some (4, false) }) (v := ?vk7) rfl (by kernel_rfl) (by kernel_rfl) (by kernel_rfl) (fun _ _ _ h => h) (Or.inl ⟨by rfl, ?hk7⟩) (BxS.old U3 HBx.out) ?rk7
    case hk7 => (intro wz hSw; (try dsimp only at hSw); go_simp; try with_reducible rfl)
    (try simp only [Act.put]); (try simp only [List.setIfInBounds_toArray]); (try simp only [List.set_cons_succ]); (try simp only [List.set_cons_zero])
    refine wpAnyH_take (i := 8) (oi := { dst := some 27, op := Op.load 24 (Operand.tmp 2), type := 24, pos := "law.go:29", after := #[{ on := 4, ground := Ground.guard }], guard := some (4, false) }) (v := ?vk8) rfl (by kernel_rfl) (by kernel_rfl) (by kernel_rfl) (fun _ _ _ h => h) (Or.inl ⟨by rfl, ?hk8⟩) (BxS.old U3 HBx.out) ?rk8
    case hk8 => (intro wz hSw; (try dsimp only at hSw); go_simp; try with_reducible rfl)
    (try simp only [Act.put]); (try simp only [List.setIfInBounds_toArray]); (try simp only [List.set_cons_succ]); (try simp only [List.set_cons_zero])
    refine wpAnyH_take (i := 9) (oi := { dst := some 28, op := Op.move (Operand.tmp 1), type := 3, pos := "law.go:29", after := #[{ on := 4, ground := Ground.guard }], guard := some (4, false) }) (v := ?vk9) rfl (by kernel_rfl) (by kernel_rfl) (by kernel_rfl) (fun _ _ _ h => h) (Or.inl ⟨by rfl, ?hk9⟩) (BxS.old U3 HBx.out) ?rk9
    case hk9 => (intro wz hSw; (try dsimp only at hSw); go_simp; try with_reducible rfl)
    (try simp only [Act.put]); (try simp only [List.setIfInBounds_toArray]); (try simp only [List.set_cons_succ]); (try simp only [List.set_cons_zero])
    refine wpAnyH_ready (rs := [7]) (by kernel_rfl) (by simp) ?_
    refine AllReadyH.cons (o := { dst := some 26, op := Op.call { callee := Callee.value (Operand.func 12), args := #[Operand.tmp 24, Operand.tmp 25], argTypes := #[24, 3] }, type := 4, pos := "law.go:29", after := #[{ on := 5, ground := Ground.data }, { on := 6, ground := Ground.data }, { on := 4, ground := Ground.chain }, { on := 4, ground := Ground.guard }], guard := some (4, false) }) rfl (fun K hK => ?_) AllReadyH.nil
    refine wantCall2 ?_ 12 (.tmp 24) (.tmp 25) #[24, 3] ?_ (.agg #[.slice p1 n c1, .slice p2 m c2]) (.int .i64 x) ?_ ?_ ?_ ((enters_of Try.func12 (by kernel_rfl) rfl) _ _) ?_
    · rfl
    · rfl
    · rfl
    · rfl
    · rfl
    refine (HV.out _ U3).mono ?_
    rintro o x10 ⟨rfl, b10⟩
    refine ⟨_, rfl, ?_⟩
    have U10 := U3.trans b10
    refine hK.out _ _ (BxS.old U10 HBx.out) (fun _ => ?_)
    clear hK K
    (try simp only [Act.put]); (try simp only [List.setIfInBounds_toArray]); (try simp only [List.set_cons_succ]); (try simp only [List.set_cons_zero])
    refine wpAnyH_ready (rs := [10]) (by kernel_rfl) (by simp) ?_
    refine AllReadyH.cons (o := { dst := some 29, op := Op.call { callee := Callee.value (Operand.func 20), args := #[Operand.tmp 27, Operand.tmp 28], argTypes := #[24, 3] }, type := 4, pos := "law.go:29", after := #[{ on := 8, ground := Ground.data }, { on := 9, ground := Ground.data }, { on := 7, ground := Ground.chain }, { on := 4, ground := Ground.guard }], guard := some (4, false) }) rfl (fun K hK => ?_) AllReadyH.nil
    refine wantCall2 ?_ 20 (.tmp 27) (.tmp 28) #[24, 3] ?_ (.agg #[.slice p1 n c1, .slice p2 m c2]) (.int .i64 x) ?_ ?_ ?_ ((enters_of Try.func20 (by kernel_rfl) rfl) _ _) ?_
    · rfl
    · rfl
    · rfl
    · rfl
    · rfl
    refine (HRV.out _ U10).mono ?_
    rintro o x11 ⟨rfl, b11⟩
    refine ⟨_, rfl, ?_⟩
    have U11 := U10.trans b11
    refine hK.out _ _ (BxS.old U11 HBx.out) (fun _ => ?_)
    clear hK K
    (try simp only [Act.put]); (try simp only [List.setIfInBounds_toArray]); (try simp only [List.set_cons_succ]); (try simp only [List.set_cons_zero])
    refine wpAnyH_take (i := 11) (oi := { dst := some 30, op := Op.binOp BinOp.neq 4 (Operand.tmp 26) (Operand.tmp 29) 4, type := 4, pos := "law.go:29", after := #[{ on := 7, ground := Ground.data }, { on := 10, ground := Ground.data }, { on := 4, ground := Ground.guard }], guard := some (4, false) }) (v := ?vk12) rfl (by kernel_rfl) (by kernel_rfl) (by kernel_rfl) (fun _ _ _ h => h) (Or.inl ⟨by rfl, ?hk12⟩) (BxS.old U11 HBx.out) ?rk12
    case hk12 => (intro wz hSw; (try dsimp only at hSw); go_simp; try with_reducible rfl)
    (try simp only [Act.put]); (try simp only [List.setIfInBounds_toArray]); (try simp only [List.set_cons_succ]); (try simp only [List.set_cons_zero])
    refine wpAnyH_take (i := 12) (oi := { dst := some 31, op := Op.pick (Operand.tmp 23) (Operand.const (Value.bool true)) (Operand.tmp 30), type := 4, pos := "law.go:29", after := #[{ on := 4, ground := Ground.data }, { on := 11, ground := Ground.data }], guard := none }) (v := ?vk13) rfl (by kernel_rfl) (by kernel_rfl) (by kernel_rfl) (fun _ _ _ h => h) (Or.inl ⟨by rfl, ?hk13⟩) (BxS.old U11 HBx.out) ?rk13
    case hk13 => (intro wz hSw; (try dsimp only at hSw); go_simp; try with_reducible rfl)
    (try simp only [Act.put]); (try simp only [List.setIfInBounds_toArray]); (try simp only [List.set_cons_succ]); (try simp only [List.set_cons_zero])
    refine wpAnyH_take (i := 13) (oi := { dst := some 32, op := Op.move (Operand.tmp 31), type := 4, pos := "law.go:29", after := #[{ on := 12, ground := Ground.data }, { on := 10, ground := Ground.chain }], guard := none }) (v := ?vk14) rfl (by kernel_rfl) (by kernel_rfl) (by kernel_rfl) (fun _ _ _ h => h) (Or.inl ⟨by rfl, ?hk14⟩) (BxS.old U11 HBx.out) ?rk14
    case hk14 => (intro wz hSw; (try dsimp only at hSw); go_simp; try with_reducible rfl)
    (try simp only [Act.put]); (try simp only [List.setIfInBounds_toArray]); (try simp only [List.set_cons_succ]); (try simp only [List.set_cons_zero])
    refine wpAnyH_take (i := 14) (oi := { dst := some 33, op := Op.load 24 (Operand.tmp 2), type := 24, pos := "law.go:29", after := #[{ on := 13, ground := Ground.guard }], guard := some (13, false) }) (v := ?vk15) rfl (by kernel_rfl) (by kernel_rfl) (by kernel_rfl) (fun _ _ _ h => h) (Or.inl ⟨by rfl, ?hk15⟩) (BxS.old U11 HBx.out) ?rk15
    case hk15 => (intro wz hSw; (try dsimp only at hSw); go_simp; try with_reducible rfl)
    (try simp only [Act.put]); (try simp only [List.setIfInBounds_toArray]); (try simp only [List.set_cons_succ]); (try simp only [List.set_cons_zero])
    refine wpAnyH_take (i := 15) (oi := { dst := some 34, op := Op.move (Operand.tmp 1), type := 3, pos := "law.go:29", after := #[{ on := 13, ground := Ground.guard }], guard := some (13, false) }) (v := ?vk16) rfl (by kernel_rfl) (by kernel_rfl) (by kernel_rfl) (fun _ _ _ h => h) (Or.inl ⟨by rfl, ?hk16⟩) (BxS.old U11 HBx.out) ?rk16
    case hk16 => (intro wz hSw; (try dsimp only at hSw); go_simp; try with_reducible rfl)
    (try simp only [Act.put]); (try simp only [List.setIfInBounds_toArray]); (try simp only [List.set_cons_succ]); (try simp only [List.set_cons_zero])
    refine wpAnyH_take (i := 17) (oi := { dst := some 36, op := Op.load 24 (Operand.tmp 2), type := 24, pos := "law.go:29", after := #[{ on := 13, ground := Ground.guard }], guard := some (13, false) }) (v := ?vk17) rfl (by kernel_rfl) (by kernel_rfl) (by kernel_rfl) (fun _ _ _ h => h) (Or.inl ⟨by rfl, ?hk17⟩) (BxS.old U11 HBx.out) ?rk17
    case hk17 => (intro wz hSw; (try dsimp only at hSw); go_simp; try with_reducible rfl)
    (try simp only [Act.put]); (try simp only [List.setIfInBounds_toArray]); (try simp only [List.set_cons_succ]); (try simp only [List.set_cons_zero])
    refine wpAnyH_take (i := 18) (oi := { dst := some 37, op := Op.move (Operand.tmp 1), type := 3, pos := "law.go:29", after := #[{ on := 13, ground := Ground.guard }], guard := some (13, false) }) (v := ?vk18) rfl (by kernel_rfl) (by kernel_rfl) (by kernel_rfl) (fun _ _ _ h => h) (Or.inl ⟨by rfl, ?hk18⟩) (BxS.old U11 HBx.out) ?rk18
    case hk18 => (intro wz hSw; (try dsimp only at hSw); go_simp; try with_reducible rfl)
    (try simp only [Act.put]); (try simp only [List.setIfInBounds_toArray]); (try simp only [List.set_cons_succ]); (try simp only [List.set_cons_zero])
    refine wpAnyH_ready (rs := [16]) (by kernel_rfl) (by simp) ?_
    refine AllReadyH.cons (o := { dst := some 35, op := Op.call { callee := Callee.value (Operand.func 11), args := #[Operand.tmp 33, Operand.tmp 34], argTypes := #[24, 3] }, type := 4, pos := "law.go:29", after := #[{ on := 14, ground := Ground.data }, { on := 15, ground := Ground.data }, { on := 13, ground := Ground.chain }, { on := 13, ground := Ground.guard }], guard := some (13, false) }) rfl (fun K hK => ?_) AllReadyH.nil
    refine wantCall2 ?_ 11 (.tmp 33) (.tmp 34) #[24, 3] ?_ (.agg #[.slice p1 n c1, .slice p2 m c2]) (.int .i64 x) ?_ ?_ ?_ ((enters_of Try.func11 (by kernel_rfl) rfl) _ _) ?_
    · rfl
    · rfl
    · rfl
    · rfl
    · rfl
    refine (HM.out _ U11).mono ?_
    rintro o x19 ⟨rfl, b19⟩
    refine ⟨_, rfl, ?_⟩
    have U19 := U11.trans b19
    refine hK.out _ _ (BxS.old U19 HBx.out) (fun _ => ?_)
    clear hK K
    (try simp only [Act.put]); (try simp only [List.setIfInBounds_toArray]); (try simp only [List.set_cons_succ]); (try simp only [List.set_cons_zero])
    refine wpAnyH_ready (rs := [19]) (by kernel_rfl) (by simp) ?_
    refine AllReadyH.cons (o := { dst := some 38, op := Op.call { callee := Callee.value (Operand.func 21), args := #[Operand.tmp 36, Operand.tmp 37], argTypes := #[24, 3] }, type := 4, pos := "law.go:29", after := #[{ on := 17, ground := Ground.data }, { on := 18, ground := Ground.data }, { on := 16, ground := Ground.chain }, { on := 13, ground := Ground.guard }], guard := some (13, false) }) rfl (fun K hK => ?_) AllReadyH.nil
    refine wantCall2 ?_ 21 (.tmp 36) (.tmp 37) #[24, 3] ?_ (.agg #[.slice p1 n c1, .slice p2 m c2]) (.int .i64 x) ?_ ?_ ?_ ((enters_of Try.func21 (by kernel_rfl) rfl) _ _) ?_
    · rfl
    · rfl
    · rfl
    · rfl
    · rfl
    refine (HRM.out _ U19).mono ?_
    rintro o x20 ⟨rfl, b20⟩
    refine ⟨_, rfl, ?_⟩
    have U20 := U19.trans b20
    refine hK.out _ _ (BxS.old U20 HBx.out) (fun _ => ?_)
    clear hK K
    (try simp only [Act.put]); (try simp only [List.setIfInBounds_toArray]); (try simp only [List.set_cons_succ]); (try simp only [List.set_cons_zero])
    refine wpAnyH_take (i := 20) (oi := { dst := some 39, op := Op.binOp BinOp.neq 4 (Operand.tmp 35) (Operand.tmp 38) 4, type := 4, pos := "law.go:29", after := #[{ on := 16, ground := Ground.data }, { on := 19, ground := Ground.data }, { on := 13, ground := Ground.guard }], guard := some (13, false) }) (v := ?vk21) rfl (by kernel_rfl) (by kernel_rfl) (by kernel_rfl) (fun _ _ _ h => h) (Or.inl ⟨by rfl, ?hk21⟩) (BxS.old U20 HBx.out) ?rk21
    case hk21 => (intro wz hSw; (try dsimp only at hSw); go_simp; try with_reducible rfl)
    (try simp only [Act.put]); (try simp only [List.setIfInBounds_toArray]); (try simp only [List.set_cons_succ]); (try simp only [List.set_cons_zero])
    refine wpAnyH_take (i := 21) (oi := { dst := some 40, op := Op.pick (Operand.tmp 32) (Operand.const (Value.bool true)) (Operand.tmp 39), type := 4, pos := "law.go:29", after := #[{ on := 13, ground := Ground.data }, { on := 20, ground := Ground.data }], guard := none }) (v := ?vk22) rfl (by kernel_rfl) (by kernel_rfl) (by kernel_rfl) (fun _ _ _ h => h) (Or.inl ⟨by rfl, ?hk22⟩) (BxS.old U20 HBx.out) ?rk22
    case hk22 => (intro wz hSw; (try dsimp only at hSw); go_simp; try with_reducible rfl)
    (try simp only [Act.put]); (try simp only [List.setIfInBounds_toArray]); (try simp only [List.set_cons_succ]); (try simp only [List.set_cons_zero])
    refine wpAnyH_done (by kernel_rfl) ?_ _
    refine NoPanic.normal ?_
    have UZ := hid U20
    go_wp2
    go_ret
    exact ⟨rfl, O3.out.trans UZ.out⟩
  | true =>
    rw [hr] at HRr HRi0
    have HBn := hid (fun (W : World) (u : Old w W) => bytes_any (.slice p1 n c1) (.slice p2 m c2) n m f g W (R1.out.old u) (R2.out.old u) hr)
    have HLd := hid (fun (v : Value) (W : World) (base : Nat) (h : Pk.OwnL base W v (bytesC (lsI f n) (lsI g m))) => loadC v n m f g W base hr h)
    have hsm := rightB_parts hr
    have HBy0 := hid (fun (W : World) (u : Old w W) => rBytes_any (.slice p1 n c1) (.slice p2 m c2) n m f g W (by have := riK_few _ _ hsm.2.1; omega) (by have := riK_few _ _ hsm.2.2.1; omega) (fun i hi => riK_small f n hsm.2.1 _ (lsI_mem f n i hi)) (fun i hi => riK_small g m hsm.2.2.1 _ (lsI_mem g m i hi)) (R1.out.old u) (R2.out.old u))
    have HOt0 := hid (fun (W : World) (u : Old w W) => others_any (.slice p1 n c1) (.slice p2 m c2) n m f g x W (R1.out.old u) S12.out.1 (R2.out.old u) S12.out.2 (by have := riK_few _ _ hsm.2.1; omega) (by have := riK_few _ _ hsm.2.2.1; omega))
    have HRO0 := hid (fun (W : World) (u : Old w W) => rOthers_any (.slice p1 n c1) (.slice p2 m c2) n m f g x W (R1.out.old u) (R2.out.old u))
    rw [oth_doc x hr] at HOt0
    have HLT := hid (otD_len n f m g x 7)
    generalize otD n f m g x 7 = LT at *
    generalize bytesC (lsI f n) (lsI g m) = LB at *
    clear hsm
    go_upto_region 5 with (first | (go_at_call 18; refine (HRr.out _ O1.out).mono ?_; rintro e w2 ⟨rfl, u2⟩; have O2 := hid (O1.out.trans u2); have y0 := u2.keep x0; have y1 := u2.keep x1; clear u2) | (go_at_call 19; refine (HBn.out _ O2.out).mono ?_; rintro e w3 ⟨vb, rfl, ob, u3⟩; obtain ⟨pb, cb, eb⟩ := OwnL.slice' ob; obtain ⟨lb, hlb⟩ : ∃ lb, LB.length = lb := ⟨_, rfl⟩; rw [hlb] at eb; subst eb; have OB3 := hid ob; clear hlb ob; have O3 := hid (O2.out.trans u3); have HBx := hid (show BxS B (.slice p1 n c1) (.slice p2 m c2) w3 from ⟨u3.keep y0, u3.keep y1⟩); clear u3))
    generalize w2.heap.size = bz at *
    clear x0 x1 y0 y1 O1 O2 HRr HBn
    have HRi := hid (fun (W : World) (u : Old w3 W) => HRi0.out W (O3.out.trans u))
    have HV := hid (fun (W : World) (u : Old w3 W) => HV0.out W (O3.out.trans u))
    have HRV := hid (fun (W : World) (u : Old w3 W) => HRV0.out W (O3.out.trans u))
    have HM := hid (fun (W : World) (u : Old w3 W) => HM0.out W (O3.out.trans u))
    have HRM := hid (fun (W : World) (u : Old w3 W) => HRM0.out W (O3.out.trans u))
    clear HRi0 HV0 HRV0 HM0 HRM0
    refine wp_region_noPanic ?_
    refine wp_region_held_drew (S := BxS B (.slice p1 n c1) (.slice p2 m c2)) (by kernel_rfl) ?_ (fun hHeld => ?_)
    · exact BxS.old ((Old.refl w3).drew) HBx.out
    (try simp only [Act.put]); (try simp only [List.setIfInBounds_toArray]); (try simp only [List.set_cons_succ]); (try simp only [List.set_cons_zero])
    clear hHeld
    refine wpAnyH_take (i := 0) (oi := { dst := some 19, op := Op.load 24 (Operand.tmp 2), type := 24, pos := "law.go:29", after := #[], guard := none }) (v := ?vk23) rfl (by kernel_rfl) (by kernel_rfl) (by kernel_rfl) (fun _ _ _ h => h) (Or.inl ⟨by rfl, ?hk23⟩) (BxS.old ((Old.refl w3).drew) HBx.out) ?rk23
    case hk23 => (intro wz hSw; (try dsimp only at hSw); go_simp; try with_reducible rfl)
    (try simp only [Act.put]); (try simp only [List.setIfInBounds_toArray]); (try simp only [List.set_cons_succ]); (try simp only [List.set_cons_zero])
    refine wpAnyH_take (i := 2) (oi := { dst := some 21, op := Op.move (Operand.tmp 5), type := 4, pos := "law.go:29", after := #[], guard := none }) (v := ?vk24) rfl (by kernel_rfl) (by kernel_rfl) (by kernel_rfl) (fun _ _ _ h => h) (Or.inl ⟨by rfl, ?hk24⟩) (BxS.old ((Old.refl w3).drew) HBx.out) ?rk24
    case hk24 => (intro wz hSw; (try dsimp only at hSw); go_simp; try with_reducible rfl)
    (try simp only [Act.put]); (try simp only [List.setIfInBounds_toArray]); (try simp only [List.set_cons_succ]); (try simp only [List.set_cons_zero])
    refine wpAnyH_ready (rs := [1]) (by kernel_rfl) (by simp) ?_
    refine AllReadyH.cons (o := { dst := some 20, op := Op.call { callee := Callee.value (Operand.func 9), args := #[Operand.tmp 19], argTypes := #[24] }, type := 4, pos := "law.go:29", after := #[{ on := 0, ground := Ground.data }], guard := none }) rfl (fun K hK => ?_) AllReadyH.nil
    refine wantCall1 ?_ 9 (.tmp 19) #[24] ?_ (.agg #[.slice p1 n c1, .slice p2 m c2]) ?_ ?_ ((enters_of Try.func9 (by kernel_rfl) rfl) _ _) ?_
    · rfl
    · rfl
    · rfl
    · rfl
    refine (HRi.out _ ((Old.refl w3).drew)).mono ?_
    rintro o x25 ⟨rfl, b25⟩
    refine ⟨_, rfl, ?_⟩
    have U25 := ((Old.refl w3).drew).trans b25
    refine hK.out _ _ (BxS.old U25 HBx.out) (fun _ => ?_)
    clear hK K
    (try simp only [Act.put]); (try simp only [List.setIfInBounds_toArray]); (try simp only [List.set_cons_succ]); (try simp only [List.set_cons_zero])
    refine wpAnyH_take (i := 3) (oi := { dst := some 22, op := Op.binOp BinOp.neq 4 (Operand.tmp 20) (Operand.tmp 21) 4, type := 4, pos := "law.go:29", after := #[{ on := 1, ground := Ground.data }, { on := 2, ground := Ground.data }], guard := none }) (v := ?vk26) rfl (by kernel_rfl) (by kernel_rfl) (by kernel_rfl) (fun _ _ _ h => h) (Or.inl ⟨by rfl, ?hk26⟩) (BxS.old U25 HBx.out) ?rk26
    case hk26 => (intro wz hSw; (try dsimp only at hSw); go_simp; try with_reducible rfl)
    (try simp only [Act.put]); (try simp only [List.setIfInBounds_toArray]); (try simp only [List.set_cons_succ]); (try simp only [List.set_cons_zero])
    refine wpAnyH_take (i := 4) (oi := { dst := some 23, op := Op.move (Operand.tmp 22), type := 4, pos := "law.go:29", after := #[{ on := 3, ground := Ground.data }, { on := 1, ground := Ground.chain }], guard := none }) (v := ?vk27) rfl (by kernel_rfl) (by kernel_rfl) (by kernel_rfl) (fun _ _ _ h => h) (Or.inl ⟨by rfl, ?hk27⟩) (BxS.old U25 HBx.out) ?rk27
    case hk27 => (intro wz hSw; (try dsimp only at hSw); go_simp; try with_reducible rfl)
    (try simp only [Act.put]); (try simp only [List.setIfInBounds_toArray]); (try simp only [List.set_cons_succ]); (try simp only [List.set_cons_zero])
    refine wpAnyH_take (i := 5) (oi := { dst := some 24, op := Op.load 24 (Operand.tmp 2), type := 24, pos := "law.go:29", after := #[{ on := 4, ground := Ground.guard }], guard := some (4, false) }) (v := ?vk28) rfl (by kernel_rfl) (by kernel_rfl) (by kernel_rfl) (fun _ _ _ h => h) (Or.inl ⟨by rfl, ?hk28⟩) (BxS.old U25 HBx.out) ?rk28
    case hk28 => (intro wz hSw; (try dsimp only at hSw); go_simp; try with_reducible rfl)
    (try simp only [Act.put]); (try simp only [List.setIfInBounds_toArray]); (try simp only [List.set_cons_succ]); (try simp only [List.set_cons_zero])
    refine wpAnyH_take (i := 6) (oi := { dst := some 25, op := Op.move (Operand.tmp 1), type := 3, pos := "law.go:29", after := #[{ on := 4, ground := Ground.guard }], guard := some (4, false) }) (v := ?vk29) rfl (by kernel_rfl) (by kernel_rfl) (by kernel_rfl) (fun _ _ _ h => h) (Or.inl ⟨by rfl, ?hk29⟩) (BxS.old U25 HBx.out) ?rk29
    case hk29 => (intro wz hSw; (try dsimp only at hSw); go_simp; try with_reducible rfl)
    (try simp only [Act.put]); (try simp only [List.setIfInBounds_toArray]); (try simp only [List.set_cons_succ]); (try simp only [List.set_cons_zero])
    refine wpAnyH_take (i := 8) (oi := { dst := some 27, op := Op.load 24 (Operand.tmp 2), type := 24, pos := "law.go:29", after := #[{ on := 4, ground := Ground.guard }], guard := some (4, false) }) (v := ?vk30) rfl (by kernel_rfl) (by kernel_rfl) (by kernel_rfl) (fun _ _ _ h => h) (Or.inl ⟨by rfl, ?hk30⟩) (BxS.old U25 HBx.out) ?rk30
    case hk30 => (intro wz hSw; (try dsimp only at hSw); go_simp; try with_reducible rfl)
    (try simp only [Act.put]); (try simp only [List.setIfInBounds_toArray]); (try simp only [List.set_cons_succ]); (try simp only [List.set_cons_zero])
    refine wpAnyH_take (i := 9) (oi := { dst := some 28, op := Op.move (Operand.tmp 1), type := 3, pos := "law.go:29", after := #[{ on := 4, ground := Ground.guard }], guard := some (4, false) }) (v := ?vk31) rfl (by kernel_rfl) (by kernel_rfl) (by kernel_rfl) (fun _ _ _ h => h) (Or.inl ⟨by rfl, ?hk31⟩) (BxS.old U25 HBx.out) ?rk31
    case hk31 => (intro wz hSw; (try dsimp only at hSw); go_simp; try with_reducible rfl)
    (try simp only [Act.put]); (try simp only [List.setIfInBounds_toArray]); (try simp only [List.set_cons_succ]); (try simp only [List.set_cons_zero])
    refine wpAnyH_ready (rs := [7]) (by kernel_rfl) (by simp) ?_
    refine AllReadyH.cons (o := { dst := some 26, op := Op.call { callee := Callee.value (Operand.func 12), args := #[Operand.tmp 24, Operand.tmp 25], argTypes := #[24, 3] }, type := 4, pos := "law.go:29", after := #[{ on := 5, ground := Ground.data }, { on := 6, ground := Ground.data }, { on := 4, ground := Ground.chain }, { on := 4, ground := Ground.guard }], guard := some (4, false) }) rfl (fun K hK => ?_) AllReadyH.nil
    refine wantCall2 ?_ 12 (.tmp 24) (.tmp 25) #[24, 3] ?_ (.agg #[.slice p1 n c1, .slice p2 m c2]) (.int .i64 x) ?_ ?_ ?_ ((enters_of Try.func12 (by kernel_rfl) rfl) _ _) ?_
    · rfl
    · rfl
    · rfl
    · rfl
    · rfl
    refine (HV.out _ U25).mono ?_
    rintro o x32 ⟨rfl, b32⟩
    refine ⟨_, rfl, ?_⟩
    have U32 := U25.trans b32
    refine hK.out _ _ (BxS.old U32 HBx.out) (fun _ => ?_)
    clear hK K
    (try simp only [Act.put]); (try simp only [List.setIfInBounds_toArray]); (try simp only [List.set_cons_succ]); (try simp only [List.set_cons_zero])
    refine wpAnyH_ready (rs := [10]) (by kernel_rfl) (by simp) ?_
    refine AllReadyH.cons (o := { dst := some 29, op := Op.call { callee := Callee.value (Operand.func 20), args := #[Operand.tmp 27, Operand.tmp 28], argTypes := #[24, 3] }, type := 4, pos := "law.go:29", after := #[{ on := 8, ground := Ground.data }, { on := 9, ground := Ground.data }, { on := 7, ground := Ground.chain }, { on := 4, ground := Ground.guard }], guard := some (4, false) }) rfl (fun K hK => ?_) AllReadyH.nil
    refine wantCall2 ?_ 20 (.tmp 27) (.tmp 28) #[24, 3] ?_ (.agg #[.slice p1 n c1, .slice p2 m c2]) (.int .i64 x) ?_ ?_ ?_ ((enters_of Try.func20 (by kernel_rfl) rfl) _ _) ?_
    · rfl
    · rfl
    · rfl
    · rfl
    · rfl
    refine (HRV.out _ U32).mono ?_
    rintro o x33 ⟨rfl, b33⟩
    refine ⟨_, rfl, ?_⟩
    have U33 := U32.trans b33
    refine hK.out _ _ (BxS.old U33 HBx.out) (fun _ => ?_)
    clear hK K
    (try simp only [Act.put]); (try simp only [List.setIfInBounds_toArray]); (try simp only [List.set_cons_succ]); (try simp only [List.set_cons_zero])
    refine wpAnyH_take (i := 11) (oi := { dst := some 30, op := Op.binOp BinOp.neq 4 (Operand.tmp 26) (Operand.tmp 29) 4, type := 4, pos := "law.go:29", after := #[{ on := 7, ground := Ground.data }, { on := 10, ground := Ground.data }, { on := 4, ground := Ground.guard }], guard := some (4, false) }) (v := ?vk34) rfl (by kernel_rfl) (by kernel_rfl) (by kernel_rfl) (fun _ _ _ h => h) (Or.inl ⟨by rfl, ?hk34⟩) (BxS.old U33 HBx.out) ?rk34
    case hk34 => (intro wz hSw; (try dsimp only at hSw); go_simp; try with_reducible rfl)
    (try simp only [Act.put]); (try simp only [List.setIfInBounds_toArray]); (try simp only [List.set_cons_succ]); (try simp only [List.set_cons_zero])
    refine wpAnyH_take (i := 12) (oi := { dst := some 31, op := Op.pick (Operand.tmp 23) (Operand.const (Value.bool true)) (Operand.tmp 30), type := 4, pos := "law.go:29", after := #[{ on := 4, ground := Ground.data }, { on := 11, ground := Ground.data }], guard := none }) (v := ?vk35) rfl (by kernel_rfl) (by kernel_rfl) (by kernel_rfl) (fun _ _ _ h => h) (Or.inl ⟨by rfl, ?hk35⟩) (BxS.old U33 HBx.out) ?rk35
    case hk35 => (intro wz hSw; (try dsimp only at hSw); go_simp; try with_reducible rfl)
    (try simp only [Act.put]); (try simp only [List.setIfInBounds_toArray]); (try simp only [List.set_cons_succ]); (try simp only [List.set_cons_zero])
    refine wpAnyH_take (i := 13) (oi := { dst := some 32, op := Op.move (Operand.tmp 31), type := 4, pos := "law.go:29", after := #[{ on := 12, ground := Ground.data }, { on := 10, ground := Ground.chain }], guard := none }) (v := ?vk36) rfl (by kernel_rfl) (by kernel_rfl) (by kernel_rfl) (fun _ _ _ h => h) (Or.inl ⟨by rfl, ?hk36⟩) (BxS.old U33 HBx.out) ?rk36
    case hk36 => (intro wz hSw; (try dsimp only at hSw); go_simp; try with_reducible rfl)
    (try simp only [Act.put]); (try simp only [List.setIfInBounds_toArray]); (try simp only [List.set_cons_succ]); (try simp only [List.set_cons_zero])
    refine wpAnyH_take (i := 14) (oi := { dst := some 33, op := Op.load 24 (Operand.tmp 2), type := 24, pos := "law.go:29", after := #[{ on := 13, ground := Ground.guard }], guard := some (13, false) }) (v := ?vk37) rfl (by kernel_rfl) (by kernel_rfl) (by kernel_rfl) (fun _ _ _ h => h) (Or.inl ⟨by rfl, ?hk37⟩) (BxS.old U33 HBx.out) ?rk37
    case hk37 => (intro wz hSw; (try dsimp only at hSw); go_simp; try with_reducible rfl)
    (try simp only [Act.put]); (try simp only [List.setIfInBounds_toArray]); (try simp only [List.set_cons_succ]); (try simp only [List.set_cons_zero])
    refine wpAnyH_take (i := 15) (oi := { dst := some 34, op := Op.move (Operand.tmp 1), type := 3, pos := "law.go:29", after := #[{ on := 13, ground := Ground.guard }], guard := some (13, false) }) (v := ?vk38) rfl (by kernel_rfl) (by kernel_rfl) (by kernel_rfl) (fun _ _ _ h => h) (Or.inl ⟨by rfl, ?hk38⟩) (BxS.old U33 HBx.out) ?rk38
    case hk38 => (intro wz hSw; (try dsimp only at hSw); go_simp; try with_reducible rfl)
    (try simp only [Act.put]); (try simp only [List.setIfInBounds_toArray]); (try simp only [List.set_cons_succ]); (try simp only [List.set_cons_zero])
    refine wpAnyH_take (i := 17) (oi := { dst := some 36, op := Op.load 24 (Operand.tmp 2), type := 24, pos := "law.go:29", after := #[{ on := 13, ground := Ground.guard }], guard := some (13, false) }) (v := ?vk39) rfl (by kernel_rfl) (by kernel_rfl) (by kernel_rfl) (fun _ _ _ h => h) (Or.inl ⟨by rfl, ?hk39⟩) (BxS.old U33 HBx.out) ?rk39
    case hk39 => (intro wz hSw; (try dsimp only at hSw); go_simp; try with_reducible rfl)
    (try simp only [Act.put]); (try simp only [List.setIfInBounds_toArray]); (try simp only [List.set_cons_succ]); (try simp only [List.set_cons_zero])
    refine wpAnyH_take (i := 18) (oi := { dst := some 37, op := Op.move (Operand.tmp 1), type := 3, pos := "law.go:29", after := #[{ on := 13, ground := Ground.guard }], guard := some (13, false) }) (v := ?vk40) rfl (by kernel_rfl) (by kernel_rfl) (by kernel_rfl) (fun _ _ _ h => h) (Or.inl ⟨by rfl, ?hk40⟩) (BxS.old U33 HBx.out) ?rk40
    case hk40 => (intro wz hSw; (try dsimp only at hSw); go_simp; try with_reducible rfl)
    (try simp only [Act.put]); (try simp only [List.setIfInBounds_toArray]); (try simp only [List.set_cons_succ]); (try simp only [List.set_cons_zero])
    refine wpAnyH_ready (rs := [16]) (by kernel_rfl) (by simp) ?_
    refine AllReadyH.cons (o := { dst := some 35, op := Op.call { callee := Callee.value (Operand.func 11), args := #[Operand.tmp 33, Operand.tmp 34], argTypes := #[24, 3] }, type := 4, pos := "law.go:29", after := #[{ on := 14, ground := Ground.data }, { on := 15, ground := Ground.data }, { on := 13, ground := Ground.chain }, { on := 13, ground := Ground.guard }], guard := some (13, false) }) rfl (fun K hK => ?_) AllReadyH.nil
    refine wantCall2 ?_ 11 (.tmp 33) (.tmp 34) #[24, 3] ?_ (.agg #[.slice p1 n c1, .slice p2 m c2]) (.int .i64 x) ?_ ?_ ?_ ((enters_of Try.func11 (by kernel_rfl) rfl) _ _) ?_
    · rfl
    · rfl
    · rfl
    · rfl
    · rfl
    refine (HM.out _ U33).mono ?_
    rintro o x41 ⟨rfl, b41⟩
    refine ⟨_, rfl, ?_⟩
    have U41 := U33.trans b41
    refine hK.out _ _ (BxS.old U41 HBx.out) (fun _ => ?_)
    clear hK K
    (try simp only [Act.put]); (try simp only [List.setIfInBounds_toArray]); (try simp only [List.set_cons_succ]); (try simp only [List.set_cons_zero])
    refine wpAnyH_ready (rs := [19]) (by kernel_rfl) (by simp) ?_
    refine AllReadyH.cons (o := { dst := some 38, op := Op.call { callee := Callee.value (Operand.func 21), args := #[Operand.tmp 36, Operand.tmp 37], argTypes := #[24, 3] }, type := 4, pos := "law.go:29", after := #[{ on := 17, ground := Ground.data }, { on := 18, ground := Ground.data }, { on := 16, ground := Ground.chain }, { on := 13, ground := Ground.guard }], guard := some (13, false) }) rfl (fun K hK => ?_) AllReadyH.nil
    refine wantCall2 ?_ 21 (.tmp 36) (.tmp 37) #[24, 3] ?_ (.agg #[.slice p1 n c1, .slice p2 m c2]) (.int .i64 x) ?_ ?_ ?_ ((enters_of Try.func21 (by kernel_rfl) rfl) _ _) ?_
    · rfl
    · rfl
    · rfl
    · rfl
    · rfl
    refine (HRM.out _ U41).mono ?_
    rintro o x42 ⟨rfl, b42⟩
    refine ⟨_, rfl, ?_⟩
    have U42 := U41.trans b42
    refine hK.out _ _ (BxS.old U42 HBx.out) (fun _ => ?_)
    clear hK K
    (try simp only [Act.put]); (try simp only [List.setIfInBounds_toArray]); (try simp only [List.set_cons_succ]); (try simp only [List.set_cons_zero])
    refine wpAnyH_take (i := 20) (oi := { dst := some 39, op := Op.binOp BinOp.neq 4 (Operand.tmp 35) (Operand.tmp 38) 4, type := 4, pos := "law.go:29", after := #[{ on := 16, ground := Ground.data }, { on := 19, ground := Ground.data }, { on := 13, ground := Ground.guard }], guard := some (13, false) }) (v := ?vk43) rfl (by kernel_rfl) (by kernel_rfl) (by kernel_rfl) (fun _ _ _ h => h) (Or.inl ⟨by rfl, ?hk43⟩) (BxS.old U42 HBx.out) ?rk43
    case hk43 => (intro wz hSw; (try dsimp only at hSw); go_simp; try with_reducible rfl)
    (try simp only [Act.put]); (try simp only [List.setIfInBounds_toArray]); (try simp only [List.set_cons_succ]); (try simp only [List.set_cons_zero])
    refine wpAnyH_take (i := 21) (oi := { dst := some 40, op := Op.pick (Operand.tmp 32) (Operand.const (Value.bool true)) (Operand.tmp 39), type := 4, pos := "law.go:29", after := #[{ on := 13, ground := Ground.data }, { on := 20, ground := Ground.data }], guard := none }) (v := ?vk44) rfl (by kernel_rfl) (by kernel_rfl) (by kernel_rfl) (fun _ _ _ h => h) (Or.inl ⟨by rfl, ?hk44⟩) (BxS.old U42 HBx.out) ?rk44
    case hk44 => (intro wz hSw; (try dsimp only at hSw); go_simp; try with_reducible rfl)
    (try simp only [Act.put]); (try simp only [List.setIfInBounds_toArray]); (try simp only [List.set_cons_succ]); (try simp only [List.set_cons_zero])
    refine wpAnyH_done (by kernel_rfl) ?_ _
    refine NoPanic.normal ?_
    have UZ := hid U42
    have HB4 := hid (BxS.old UZ.out HBx.out)
    have O4 := hid (O3.out.trans UZ.out)
    have OB4 := hid (OwnL.old' OB3.out UZ.out)
    clear HRi HV HRV HM HRM HBx O3 OB3 UZ hv1 hm1
    go_upto_region 10 with (go_at_call 22; refine (HLd.out _ _ _ OB4.out).mono ?_; rintro e w6 ⟨q1, e1, q2, e2, rfl, n1, n2, u6⟩; have N1 := hid n1; have N2 := hid n2; have U6 := hid u6; clear n1 n2 u6)
    have HBd := hid (show BxD B w6.heap.size (.slice p1 n c1) (.slice p2 m c2) (.slice q1 n e1) (.slice q2 m e2) (w6.alloc (.cells #[.slice q1 n e1, .slice q2 m e2] 24)) from ⟨(U6.out.alloc _).keep HB4.out.1, (U6.out.alloc _).keep HB4.out.2, by simp, by simp⟩)
    have O5 := hid ((O4.out.trans U6.out).alloc (.cells #[.slice q1 n e1, .slice q2 m e2] 24))
    have OB := hid (OwnL.old' OB4.out (U6.out.alloc (.cells #[.slice q1 n e1, .slice q2 m e2] 24)))
    have M1 := hid (N1.out.old ((Old.refl w6).alloc (.cells #[.slice q1 n e1, .slice q2 m e2] 24)))
    have M2 := hid (N2.out.old ((Old.refl w6).alloc (.cells #[.slice q1 n e1, .slice q2 m e2] 24)))
    generalize w6.alloc (.cells #[.slice q1 n e1, .slice q2 m e2] 24) = w5 at *
    generalize w6.heap.size = db at *
    have HSa := hid (fun (W : World) (u : Old w5 W) => same_eq (.slice p1 n c1) (.slice p2 m c2) (.slice q1 n e1) (.slice q2 m e2) n m f g W (R1.out.old (O5.out.trans u)) (R2.out.old (O5.out.trans u)) (M1.out.old u) (M2.out.old u))
    have HBy := hid (fun (W : World) (u : Old w5 W) => HBy0.out W (O5.out.trans u))
    have HOt := hid (fun (W : World) (u : Old w5 W) => HOt0.out W (O5.out.trans u))
    have HRO := hid (fun (W : World) (u : Old w5 W) => HRO0.out W (O5.out.trans u))
    clear HBy0 HOt0 HRO0 HLd HB4 O4 OB4 N1 N2 U6 M1 M2 R1 R2 S12
    refine wp_region_noPanic ?_
    refine wp_region_held_drew (S := BxD B db (.slice p1 n c1) (.slice p2 m c2) (.slice q1 n e1) (.slice q2 m e2)) (by kernel_rfl) ?_ (fun hHeld => ?_)
    · exact BxD.old ((Old.refl w5).drew) HBd.out
    (try simp only [Act.put]); (try simp only [List.setIfInBounds_toArray]); (try simp only [List.set_cons_succ]); (try simp only [List.set_cons_zero])
    clear hHeld
    refine wpAnyH_take (i := 0) (oi := { dst := some 55, op := Op.move (Operand.tmp 7), type := 27, pos := "law.go:36", after := #[], guard := none }) (v := ?vk45) rfl (by kernel_rfl) (by kernel_rfl) (by kernel_rfl) (fun _ _ _ h => h) (Or.inl ⟨by rfl, ?hk45⟩) (BxD.old ((Old.refl w5).drew) HBd.out) ?rk45
    case hk45 => (intro wz hSw; (try dsimp only at hSw); go_simp; try with_reducible rfl)
    (try simp only [Act.put]); (try simp only [List.setIfInBounds_toArray]); (try simp only [List.set_cons_succ]); (try simp only [List.set_cons_zero])
    refine wpAnyH_take (i := 1) (oi := { dst := some 56, op := Op.binOp BinOp.eql 27 (Operand.tmp 55) (Operand.const (Value.int IntKind.i64 0)) 27, type := 4, pos := "law.go:36", after := #[{ on := 0, ground := Ground.data }], guard := none }) (v := ?vk46) rfl (by kernel_rfl) (by kernel_rfl) (by kernel_rfl) (fun _ _ _ h => h) (Or.inl ⟨by rfl, ?hk46⟩) (BxD.old ((Old.refl w5).drew) HBd.out) ?rk46
    case hk46 => (intro wz hSw; (try dsimp only at hSw); go_simp; try with_reducible rfl)
    (try simp only [Act.put]); (try simp only [List.setIfInBounds_toArray]); (try simp only [List.set_cons_succ]); (try simp only [List.set_cons_zero])
    refine wpAnyH_take (i := 2) (oi := { dst := some 57, op := Op.move (Operand.tmp 56), type := 4, pos := "law.go:36", after := #[{ on := 1, ground := Ground.data }], guard := none }) (v := ?vk47) rfl (by kernel_rfl) (by kernel_rfl) (by kernel_rfl) (fun _ _ _ h => h) (Or.inl ⟨by rfl, ?hk47⟩) (BxD.old ((Old.refl w5).drew) HBd.out) ?rk47
    case hk47 => (intro wz hSw; (try dsimp only at hSw); go_simp; try with_reducible rfl)
    (try simp only [Act.put]); (try simp only [List.setIfInBounds_toArray]); (try simp only [List.set_cons_succ]); (try simp only [List.set_cons_zero])
    refine wpAnyH_take (i := 3) (oi := { dst := some 58, op := Op.move (Operand.tmp 6), type := 39, pos := "law.go:36", after := #[{ on := 2, ground := Ground.guard }], guard := some (2, true) }) (v := ?vk48) rfl (by kernel_rfl) (by kernel_rfl) (by kernel_rfl) (fun _ _ _ h => h) (Or.inl ⟨by rfl, ?hk48⟩) (BxD.old ((Old.refl w5).drew) HBd.out) ?rk48
    case hk48 => (intro wz hSw; (try dsimp only at hSw); go_simp; try with_reducible rfl)
    (try simp only [Act.put]); (try simp only [List.setIfInBounds_toArray]); (try simp only [List.set_cons_succ]); (try simp only [List.set_cons_zero])
    refine wpAnyH_take (i := 4) (oi := { dst := some 59, op := Op.load 24 (Operand.tmp 2), type := 24, pos := "law.go:36", after := #[{ on := 2, ground := Ground.guard }], guard := some (2, true) }) (v := ?vk49) rfl (by kernel_rfl) (by kernel_rfl) (by kernel_rfl) (fun _ _ _ h => h) (Or.inl ⟨by rfl, ?hk49⟩) (BxD.old ((Old.refl w5).drew) HBd.out) ?rk49
    case hk49 => (intro wz hSw; (try dsimp only at hSw); go_simp; try with_reducible rfl)
    (try simp only [Act.put]); (try simp only [List.setIfInBounds_toArray]); (try simp only [List.set_cons_succ]); (try simp only [List.set_cons_zero])
    refine wpAnyH_ready (rs := [5]) (by kernel_rfl) (by simp) ?_
    refine AllReadyH.cons (o := { dst := some 60, op := Op.call { callee := Callee.value (Operand.func 24), args := #[Operand.tmp 59], argTypes := #[24] }, type := 39, pos := "law.go:36", after := #[{ on := 4, ground := Ground.data }, { on := 2, ground := Ground.chain }, { on := 2, ground := Ground.guard }], guard := some (2, true) }) rfl (fun K hK => ?_) AllReadyH.nil
    refine wantCall1 ?_ 24 (.tmp 59) #[24] ?_ (.agg #[.slice p1 n c1, .slice p2 m c2]) ?_ ?_ ((enters_of Try.func24 (by kernel_rfl) rfl) _ _) ?_
    · rfl
    · rfl
    · rfl
    · rfl
    refine (HBy.out _ ((Old.refl w5).drew)).mono ?_
    rintro o xa ⟨va, rfl, oa, ua⟩
    obtain ⟨pa, ca, ea⟩ := OwnL.slice' oa
    obtain ⟨la, hla⟩ : ∃ la, LB.length = la := ⟨_, rfl⟩
    rw [hla] at ea
    subst ea
    have Ua := ((Old.refl w5).drew).trans ua
    have HSB := hid (fun (W : World) (u : Old xa W) => sameBytesL _ _ LB W (OwnL.old' OB.out (Ua.trans u)).row (OwnL.old' oa u).row)
    clear oa hla
    refine ⟨_, rfl, ?_⟩
    refine hK.out _ _ (BxD.old Ua HBd.out) (fun _ => ?_)
    clear hK K
    (try simp only [Act.put]); (try simp only [List.setIfInBounds_toArray]); (try simp only [List.set_cons_succ]); (try simp only [List.set_cons_zero])
    refine wpAnyH_ready (rs := [6]) (by kernel_rfl) (by simp) ?_
    refine AllReadyH.cons (o := { dst := some 61, op := Op.call { callee := Callee.value (Operand.func 23), args := #[Operand.tmp 58, Operand.tmp 60], argTypes := #[39, 39] }, type := 4, pos := "law.go:36", after := #[{ on := 3, ground := Ground.data }, { on := 5, ground := Ground.data }, { on := 5, ground := Ground.chain }, { on := 2, ground := Ground.guard }], guard := some (2, true) }) rfl (fun K hK => ?_) AllReadyH.nil
    refine wantCall2 ?_ 23 (.tmp 58) (.tmp 60) #[39, 39] ?_ (.slice pb lb cb) (.slice pa la ca) ?_ ?_ ?_ ((enters_of Try.func23 (by kernel_rfl) rfl) _ _) ?_
    · rfl
    · rfl
    · rfl
    · rfl
    · rfl
    refine (HSB.out _ (Old.refl _)).mono ?_
    rintro o x51 ⟨rfl, b51⟩
    refine ⟨_, rfl, ?_⟩
    have U51 := Ua.trans b51
    refine hK.out _ _ (BxD.old U51 HBd.out) (fun _ => ?_)
    clear hK K
    (try simp only [Act.put]); (try simp only [List.setIfInBounds_toArray]); (try simp only [List.set_cons_succ]); (try simp only [List.set_cons_zero])
    refine wpAnyH_take (i := 7) (oi := { dst := some 62, op := Op.pick (Operand.tmp 57) (Operand.tmp 61) (Operand.const (Value.bool false)), type := 4, pos := "law.go:36", after := #[{ on := 2, ground := Ground.data }, { on := 6, ground := Ground.data }], guard := none }) (v := ?vk52) rfl (by kernel_rfl) (by kernel_rfl) (by kernel_rfl) (fun _ _ _ h => h) (Or.inl ⟨by rfl, ?hk52⟩) (BxD.old U51 HBd.out) ?rk52
    case hk52 => (intro wz hSw; (try dsimp only at hSw); go_simp; try with_reducible rfl)
    (try simp only [Act.put]); (try simp only [List.setIfInBounds_toArray]); (try simp only [List.set_cons_succ]); (try simp only [List.set_cons_zero])
    refine wpAnyH_take (i := 8) (oi := { dst := some 63, op := Op.move (Operand.tmp 62), type := 4, pos := "law.go:36", after := #[{ on := 7, ground := Ground.data }, { on := 6, ground := Ground.chain }], guard := none }) (v := ?vk53) rfl (by kernel_rfl) (by kernel_rfl) (by kernel_rfl) (fun _ _ _ h => h) (Or.inl ⟨by rfl, ?hk53⟩) (BxD.old U51 HBd.out) ?rk53
    case hk53 => (intro wz hSw; (try dsimp only at hSw); go_simp; try with_reducible rfl)
    (try simp only [Act.put]); (try simp only [List.setIfInBounds_toArray]); (try simp only [List.set_cons_succ]); (try simp only [List.set_cons_zero])
    refine wpAnyH_take (i := 9) (oi := { dst := some 64, op := Op.move (Operand.tmp 9), type := 27, pos := "law.go:36", after := #[{ on := 8, ground := Ground.guard }], guard := some (8, true) }) (v := ?vk54) rfl (by kernel_rfl) (by kernel_rfl) (by kernel_rfl) (fun _ _ _ h => h) (Or.inl ⟨by rfl, ?hk54⟩) (BxD.old U51 HBd.out) ?rk54
    case hk54 => (intro wz hSw; (try dsimp only at hSw); go_simp; try with_reducible rfl)
    (try simp only [Act.put]); (try simp only [List.setIfInBounds_toArray]); (try simp only [List.set_cons_succ]); (try simp only [List.set_cons_zero])
    refine wpAnyH_take (i := 10) (oi := { dst := some 65, op := Op.binOp BinOp.eql 27 (Operand.tmp 64) (Operand.const (Value.int IntKind.i64 0)) 27, type := 4, pos := "law.go:36", after := #[{ on := 9, ground := Ground.data }, { on := 8, ground := Ground.guard }], guard := some (8, true) }) (v := ?vk55) rfl (by kernel_rfl) (by kernel_rfl) (by kernel_rfl) (fun _ _ _ h => h) (Or.inl ⟨by rfl, ?hk55⟩) (BxD.old U51 HBd.out) ?rk55
    case hk55 => (intro wz hSw; (try dsimp only at hSw); go_simp; try with_reducible rfl)
    (try simp only [Act.put]); (try simp only [List.setIfInBounds_toArray]); (try simp only [List.set_cons_succ]); (try simp only [List.set_cons_zero])
    refine wpAnyH_take (i := 11) (oi := { dst := some 66, op := Op.pick (Operand.tmp 63) (Operand.tmp 65) (Operand.const (Value.bool false)), type := 4, pos := "law.go:36", after := #[{ on := 8, ground := Ground.data }, { on := 10, ground := Ground.data }], guard := none }) (v := ?vk56) rfl (by kernel_rfl) (by kernel_rfl) (by kernel_rfl) (fun _ _ _ h => h) (Or.inl ⟨by rfl, ?hk56⟩) (BxD.old U51 HBd.out) ?rk56
    case hk56 => (intro wz hSw; (try dsimp only at hSw); go_simp; try with_reducible rfl)
    (try simp only [Act.put]); (try simp only [List.setIfInBounds_toArray]); (try simp only [List.set_cons_succ]); (try simp only [List.set_cons_zero])
    refine wpAnyH_take (i := 12) (oi := { dst := some 67, op := Op.move (Operand.tmp 66), type := 4, pos := "law.go:36", after := #[{ on := 11, ground := Ground.data }, { on := 8, ground := Ground.chain }], guard := none }) (v := ?vk57) rfl (by kernel_rfl) (by kernel_rfl) (by kernel_rfl) (fun _ _ _ h => h) (Or.inl ⟨by rfl, ?hk57⟩) (BxD.old U51 HBd.out) ?rk57
    case hk57 => (intro wz hSw; (try dsimp only at hSw); go_simp; try with_reducible rfl)
    (try simp only [Act.put]); (try simp only [List.setIfInBounds_toArray]); (try simp only [List.set_cons_succ]); (try simp only [List.set_cons_zero])
    refine wpAnyH_take (i := 13) (oi := { dst := some 68, op := Op.load 24 (Operand.tmp 2), type := 24, pos := "law.go:36", after := #[{ on := 12, ground := Ground.guard }], guard := some (12, true) }) (v := ?vk58) rfl (by kernel_rfl) (by kernel_rfl) (by kernel_rfl) (fun _ _ _ h => h) (Or.inl ⟨by rfl, ?hk58⟩) (BxD.old U51 HBd.out) ?rk58
    case hk58 => (intro wz hSw; (try dsimp only at hSw); go_simp; try with_reducible rfl)
    (try simp only [Act.put]); (try simp only [List.setIfInBounds_toArray]); (try simp only [List.set_cons_succ]); (try simp only [List.set_cons_zero])
    refine wpAnyH_take (i := 14) (oi := { dst := some 69, op := Op.load 24 (Operand.tmp 8), type := 24, pos := "law.go:36", after := #[{ on := 12, ground := Ground.guard }], guard := some (12, true) }) (v := ?vk59) rfl (by kernel_rfl) (by kernel_rfl) (by kernel_rfl) (fun _ _ _ h => h) (Or.inl ⟨by rfl, ?hk59⟩) (BxD.old U51 HBd.out) ?rk59
    case hk59 => (intro wz hSw; (try dsimp only at hSw); go_simp; try with_reducible rfl)
    (try simp only [Act.put]); (try simp only [List.setIfInBounds_toArray]); (try simp only [List.set_cons_succ]); (try simp only [List.set_cons_zero])
    refine wpAnyH_ready (rs := [15]) (by kernel_rfl) (by simp) ?_
    refine AllReadyH.cons (o := { dst := some 70, op := Op.call { callee := Callee.value (Operand.func 16), args := #[Operand.tmp 68, Operand.tmp 69], argTypes := #[24, 24] }, type := 4, pos := "law.go:36", after := #[{ on := 13, ground := Ground.data }, { on := 14, ground := Ground.data }, { on := 12, ground := Ground.chain }, { on := 12, ground := Ground.guard }], guard := some (12, true) }) rfl (fun K hK => ?_) AllReadyH.nil
    refine wantCall2 ?_ 16 (.tmp 68) (.tmp 69) #[24, 24] ?_ (.agg #[.slice p1 n c1, .slice p2 m c2]) (.agg #[.slice q1 n e1, .slice q2 m e2]) ?_ ?_ ?_ ((enters_of Try.func16 (by kernel_rfl) rfl) _ _) ?_
    · rfl
    · rfl
    · rfl
    · rfl
    · rfl
    refine (HSa.out _ U51).mono ?_
    rintro o x60 ⟨rfl, b60⟩
    refine ⟨_, rfl, ?_⟩
    have U60 := U51.trans b60
    refine hK.out _ _ (BxD.old U60 HBd.out) (fun _ => ?_)
    clear hK K
    (try simp only [Act.put]); (try simp only [List.setIfInBounds_toArray]); (try simp only [List.set_cons_succ]); (try simp only [List.set_cons_zero])
    refine wpAnyH_take (i := 16) (oi := { dst := some 71, op := Op.pick (Operand.tmp 67) (Operand.tmp 70) (Operand.const (Value.bool false)), type := 4, pos := "law.go:36", after := #[{ on := 12, ground := Ground.data }, { on := 15, ground := Ground.data }], guard := none }) (v := ?vk61) rfl (by kernel_rfl) (by kernel_rfl) (by kernel_rfl) (fun _ _ _ h => h) (Or.inl ⟨by rfl, ?hk61⟩) (BxD.old U60 HBd.out) ?rk61
    case hk61 => (intro wz hSw; (try dsimp only at hSw); go_simp; try with_reducible rfl)
    (try simp only [Act.put]); (try simp only [List.setIfInBounds_toArray]); (try simp only [List.set_cons_succ]); (try simp only [List.set_cons_zero])
    refine wpAnyH_take (i := 17) (oi := { dst := some 72, op := Op.move (Operand.tmp 71), type := 4, pos := "law.go:36", after := #[{ on := 16, ground := Ground.data }, { on := 15, ground := Ground.chain }], guard := none }) (v := ?vk62) rfl (by kernel_rfl) (by kernel_rfl) (by kernel_rfl) (fun _ _ _ h => h) (Or.inl ⟨by rfl, ?hk62⟩) (BxD.old U60 HBd.out) ?rk62
    case hk62 => (intro wz hSw; (try dsimp only at hSw); go_simp; try with_reducible rfl)
    (try simp only [Act.put]); (try simp only [List.setIfInBounds_toArray]); (try simp only [List.set_cons_succ]); (try simp only [List.set_cons_zero])
    refine wpAnyH_take (i := 18) (oi := { dst := some 73, op := Op.load 24 (Operand.tmp 2), type := 24, pos := "law.go:36", after := #[{ on := 17, ground := Ground.guard }], guard := some (17, true) }) (v := ?vk63) rfl (by kernel_rfl) (by kernel_rfl) (by kernel_rfl) (fun _ _ _ h => h) (Or.inl ⟨by rfl, ?hk63⟩) (BxD.old U60 HBd.out) ?rk63
    case hk63 => (intro wz hSw; (try dsimp only at hSw); go_simp; try with_reducible rfl)
    (try simp only [Act.put]); (try simp only [List.setIfInBounds_toArray]); (try simp only [List.set_cons_succ]); (try simp only [List.set_cons_zero])
    refine wpAnyH_take (i := 19) (oi := { dst := some 74, op := Op.move (Operand.tmp 1), type := 3, pos := "law.go:36", after := #[{ on := 17, ground := Ground.guard }], guard := some (17, true) }) (v := ?vk64) rfl (by kernel_rfl) (by kernel_rfl) (by kernel_rfl) (fun _ _ _ h => h) (Or.inl ⟨by rfl, ?hk64⟩) (BxD.old U60 HBd.out) ?rk64
    case hk64 => (intro wz hSw; (try dsimp only at hSw); go_simp; try with_reducible rfl)
    (try simp only [Act.put]); (try simp only [List.setIfInBounds_toArray]); (try simp only [List.set_cons_succ]); (try simp only [List.set_cons_zero])
    refine wpAnyH_take (i := 21) (oi := { dst := some 76, op := Op.load 24 (Operand.tmp 2), type := 24, pos := "law.go:36", after := #[{ on := 17, ground := Ground.guard }], guard := some (17, true) }) (v := ?vk65) rfl (by kernel_rfl) (by kernel_rfl) (by kernel_rfl) (fun _ _ _ h => h) (Or.inl ⟨by rfl, ?hk65⟩) (BxD.old U60 HBd.out) ?rk65
    case hk65 => (intro wz hSw; (try dsimp only at hSw); go_simp; try with_reducible rfl)
    (try simp only [Act.put]); (try simp only [List.setIfInBounds_toArray]); (try simp only [List.set_cons_succ]); (try simp only [List.set_cons_zero])
    refine wpAnyH_take (i := 22) (oi := { dst := some 77, op := Op.move (Operand.tmp 1), type := 3, pos := "law.go:36", after := #[{ on := 17, ground := Ground.guard }], guard := some (17, true) }) (v := ?vk66) rfl (by kernel_rfl) (by kernel_rfl) (by kernel_rfl) (fun _ _ _ h => h) (Or.inl ⟨by rfl, ?hk66⟩) (BxD.old U60 HBd.out) ?rk66
    case hk66 => (intro wz hSw; (try dsimp only at hSw); go_simp; try with_reducible rfl)
    (try simp only [Act.put]); (try simp only [List.setIfInBounds_toArray]); (try simp only [List.set_cons_succ]); (try simp only [List.set_cons_zero])
    refine wpAnyH_ready (rs := [20]) (by kernel_rfl) (by simp) ?_
    refine AllReadyH.cons (o := { dst := some 75, op := Op.call { callee := Callee.value (Operand.func 25), args := #[Operand.tmp 73, Operand.tmp 74], argTypes := #[24, 3] }, type := 22, pos := "law.go:36", after := #[{ on := 18, ground := Ground.data }, { on := 19, ground := Ground.data }, { on := 17, ground := Ground.chain }, { on := 17, ground := Ground.guard }], guard := some (17, true) }) rfl (fun K hK => ?_) AllReadyH.nil
    refine wantCall2 ?_ 25 (.tmp 73) (.tmp 74) #[24, 3] ?_ (.agg #[.slice p1 n c1, .slice p2 m c2]) (.int .i64 x) ?_ ?_ ?_ ((enters_of Try.func25 (by kernel_rfl) rfl) _ _) ?_
    · rfl
    · rfl
    · rfl
    · rfl
    · rfl
    refine (HOt.out _ U60).mono ?_
    rintro o xo ⟨vo, rfl, oo, uo⟩
    obtain ⟨po, co, eo⟩ := oo.len
    obtain ⟨lo, hlo⟩ : ∃ lo, LT.length = lo := ⟨_, rfl⟩
    rw [hlo] at eo
    subst eo
    have Uo := U60.trans uo
    have OO := hid oo
    clear oo hlo
    refine ⟨_, rfl, ?_⟩
    refine hK.out _ _ (BxD.old Uo HBd.out) (fun _ => ?_)
    clear hK K
    (try simp only [Act.put]); (try simp only [List.setIfInBounds_toArray]); (try simp only [List.set_cons_succ]); (try simp only [List.set_cons_zero])
    refine wpAnyH_ready (rs := [23]) (by kernel_rfl) (by simp) ?_
    refine AllReadyH.cons (o := { dst := some 78, op := Op.call { callee := Callee.value (Operand.func 26), args := #[Operand.tmp 76, Operand.tmp 77], argTypes := #[24, 3] }, type := 22, pos := "law.go:36", after := #[{ on := 21, ground := Ground.data }, { on := 22, ground := Ground.data }, { on := 20, ground := Ground.chain }, { on := 17, ground := Ground.guard }], guard := some (17, true) }) rfl (fun K hK => ?_) AllReadyH.nil
    refine wantCall2 ?_ 26 (.tmp 76) (.tmp 77) #[24, 3] ?_ (.agg #[.slice p1 n c1, .slice p2 m c2]) (.int .i64 x) ?_ ?_ ?_ ((enters_of Try.func26 (by kernel_rfl) rfl) _ _) ?_
    · rfl
    · rfl
    · rfl
    · rfl
    · rfl
    refine (HRO.out _ Uo).mono ?_
    rintro o xr ⟨vr, rfl, or, ur⟩
    obtain ⟨pr, cr, er⟩ := or.len
    obtain ⟨lr, hlr⟩ : ∃ lr, LT.length = lr := ⟨_, rfl⟩
    rw [hlr] at er
    subst er
    have Ur := Uo.trans ur
    have HSI := hid (fun (W : World) (u : Old xr W) => sameInts_eq _ _ LT.length (gI LT) W (((OO.out.up ur).up u).rowG (by have := HLT.out; omega)) ((or.up u).rowG (by have := HLT.out; omega)))
    clear or hlr
    refine ⟨_, rfl, ?_⟩
    refine hK.out _ _ (BxD.old Ur HBd.out) (fun _ => ?_)
    clear hK K
    (try simp only [Act.put]); (try simp only [List.setIfInBounds_toArray]); (try simp only [List.set_cons_succ]); (try simp only [List.set_cons_zero])
    refine wpAnyH_ready (rs := [24]) (by kernel_rfl) (by simp) ?_
    refine AllReadyH.cons (o := { dst := some 79, op := Op.call { callee := Callee.value (Operand.func 17), args := #[Operand.tmp 75, Operand.tmp 78], argTypes := #[22, 22] }, type := 4, pos := "law.go:36", after := #[{ on := 20, ground := Ground.data }, { on := 23, ground := Ground.data }, { on := 23, ground := Ground.chain }, { on := 17, ground := Ground.guard }], guard := some (17, true) }) rfl (fun K hK => ?_) AllReadyH.nil
    refine wantCall2 ?_ 17 (.tmp 75) (.tmp 78) #[22, 22] ?_ (.slice po lo co) (.slice pr lr cr) ?_ ?_ ?_ ((enters_of Try.func17 (by kernel_rfl) rfl) _ _) ?_
    · rfl
    · rfl
    · rfl
    · rfl
    · rfl
    refine (HSI.out _ (Old.refl _)).mono ?_
    rintro o x69 ⟨rfl, b69⟩
    refine ⟨_, rfl, ?_⟩
    have U69 := Ur.trans b69
    refine hK.out _ _ (BxD.old U69 HBd.out) (fun _ => ?_)
    clear hK K
    (try simp only [Act.put]); (try simp only [List.setIfInBounds_toArray]); (try simp only [List.set_cons_succ]); (try simp only [List.set_cons_zero])
    refine wpAnyH_take (i := 25) (oi := { dst := some 80, op := Op.pick (Operand.tmp 72) (Operand.tmp 79) (Operand.const (Value.bool false)), type := 4, pos := "law.go:36", after := #[{ on := 17, ground := Ground.data }, { on := 24, ground := Ground.data }], guard := none }) (v := ?vk70) rfl (by kernel_rfl) (by kernel_rfl) (by kernel_rfl) (fun _ _ _ h => h) (Or.inl ⟨by rfl, ?hk70⟩) (BxD.old U69 HBd.out) ?rk70
    case hk70 => (intro wz hSw; (try dsimp only at hSw); go_simp; try with_reducible rfl)
    (try simp only [Act.put]); (try simp only [List.setIfInBounds_toArray]); (try simp only [List.set_cons_succ]); (try simp only [List.set_cons_zero])
    refine wpAnyH_ready (rs := [26]) (by kernel_rfl) (by simp) ?_
    refine AllReadyH.cons (o := { dst := some 4, op := Op.assign (Operand.tmp 80), type := 4, pos := "law.go:36", after := #[{ on := 25, ground := Ground.data }, { on := 24, ground := Ground.chain }, { on := 0, ground := Ground.phase }, { on := 1, ground := Ground.phase }, { on := 2, ground := Ground.phase }, { on := 3, ground := Ground.phase }, { on := 4, ground := Ground.phase }, { on := 5, ground := Ground.phase }, { on := 6, ground := Ground.phase }, { on := 7, ground := Ground.phase }, { on := 8, ground := Ground.phase }, { on := 9, ground := Ground.phase }, { on := 10, ground := Ground.phase }, { on := 11, ground := Ground.phase }, { on := 12, ground := Ground.phase }, { on := 13, ground := Ground.phase }, { on := 14, ground := Ground.phase }, { on := 15, ground := Ground.phase }, { on := 16, ground := Ground.phase }, { on := 17, ground := Ground.phase }, { on := 18, ground := Ground.phase }, { on := 19, ground := Ground.phase }, { on := 20, ground := Ground.phase }, { on := 21, ground := Ground.phase }, { on := 22, ground := Ground.phase }, { on := 23, ground := Ground.phase }, { on := 24, ground := Ground.phase }, { on := 25, ground := Ground.phase }], guard := none }) rfl (fun K hK => ?_) AllReadyH.nil
    go_simp
    refine hK.out _ _ (BxD.old U69 HBd.out) (fun _ => ?_)
    clear hK K
    (try simp only [Act.put]); (try simp only [List.setIfInBounds_toArray]); (try simp only [List.set_cons_succ]); (try simp only [List.set_cons_zero])
    refine wpAnyH_done (by kernel_rfl) ?_ _
    refine NoPanic.normal ?_
    have UZ := hid U69
    go_wp2
    go_ret
    exact ⟨rfl, O5.out.trans UZ.out⟩
end Go.Proofs.Ytcicefpcledmgaa
