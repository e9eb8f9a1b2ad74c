/- The document's Same of layer 6 at two rows of entries that tell the same; conditions: they lie in memory. -/
import Derived.Test.YtgpfmohaogppiaaRl12
namespace Go.Proofs.Ytgpfmohaogppiaa
open Go.RowKit Go.Lib
set_option linter.unusedVariables false
set_option linter.unusedSimpArgs false
set_option maxRecDepth 20000
abbrev SmS (ga oa gb ob k : Nat) (ei et ek : Int) (pa : Option Addr) (na ca : Nat) (pb : Option Addr) (cb : Nat) : World → Prop := fun w =>
  (w.cell? ⟨ga, oa + k * 4, none⟩ = some (.int .i64 ei) ∧ w.cell? ⟨ga, oa + k * 4 + 1, none⟩ = some (.int .i64 et) ∧ w.cell? ⟨ga, oa + k * 4 + 2, none⟩ = some (.int .i64 ek) ∧ w.cell? ⟨ga, oa + k * 4 + 3, none⟩ = some (.slice pa na ca)) ∧
  (w.cell? ⟨gb, ob + k * 4, none⟩ = some (.int .i64 ei) ∧ w.cell? ⟨gb, ob + k * 4 + 1, none⟩ = some (.int .i64 et) ∧ w.cell? ⟨gb, ob + k * 4 + 2, none⟩ = some (.int .i64 ek) ∧ w.cell? ⟨gb, ob + k * 4 + 3, none⟩ = some (.slice pb na cb))
theorem SmS.old {ga oa gb ob k : Nat} {ei et ek : Int} {pa : Option Addr} {na ca : Nat} {pb : Option Addr} {cb : Nat} {w w' : World} (u : Old w w') (h : SmS ga oa gb ob k ei et ek pa na ca pb cb w) : SmS ga oa gb ob k ei et ek pa na ca pb cb w' :=
  ⟨⟨u.keep h.1.1, u.keep h.1.2.1, u.keep h.1.2.2.1, u.keep h.1.2.2.2⟩, ⟨u.keep h.2.1, u.keep h.2.2.1, u.keep h.2.2.2.1, u.keep h.2.2.2.2⟩⟩
theorem Rw.same {w : World} {u v : Value} {d : List Nat} (hu : Rw w u d) (hv : Rw w v d) : Calls Try.prog 37 #[u, v] w fun e w' => e = .returned (.bool true) ∧ Old w w' := by
  refine (Pk.sameBytes_eq u v d.length (gd d) (gd d) w hu hv (fun _ _ => rfl)).mono ?_
  rintro e w' ⟨rfl, m, rfl⟩
  exact ⟨rfl, (Old.refl w).drewN m⟩
set_option maxHeartbeats 4000000 in
set_option maxRecDepth 20000 in
theorem sameE_eq (va vb : Value) (A B : List En) (w : World) (hA : ERow w va A) (hB : ERow w vb B) (he : pls A = pls B) :
    Calls Try.prog 21 #[va, vb] w fun e w' => e = .returned (.bool true) ∧ Old w w' := by
  have hl : B.length = A.length := by rw [← pls_len A, he, pls_len]
  obtain ⟨hm, ⟨p, c, rfl, hmc, hcm, hcA⟩, hdA⟩ := hA
  obtain ⟨-, ⟨p2, c2, rfl, hmc2, hcm2, hcB⟩, hdB⟩ := hB
  have HCA := hid hcA
  have HCB := hid hcB
  have HDA := hid hdA
  have HDB := hid hdB
  have HEE := hid he
  rw [hl] at hmc2 HCB ⊢
  have hmm : (A.length : Int) ≤ 2932031007402 := by omega
  have HL := hid hl
  obtain ⟨m, hmX⟩ : ∃ m, A.length = m := ⟨_, rfl⟩
  have HM := hid hmX
  rw [hmX] at hm hmc hmm hmc2 HCA HCB HL ⊢
  clear hmX hl hcA hcB hdA hdB he
  go_enter Try.func21, Try.ntmps21
  go_wp2
  go_loopw [5] (fun i wx => ∃ k : Nat, k ≤ m ∧ i = .int .i64 (k : Nat) ∧ Old w wx) (fun i _ => m - (intOf i).toNat)
  case atStart => exact ⟨0, Nat.zero_le _, rfl, Old.refl _⟩
  case round =>
    obtain ⟨k, hk, rfl, hu⟩ := hrel
    have UK := hid hu
    clear hu
    by_cases hlt : k < m
    · obtain ⟨ga, oa, e1, x4⟩ := HCA.out k hlt
      obtain ⟨gb, ob, e2, z4⟩ := HCB.out k hlt
      subst e1 e2
      have hka : k < A.length := by rw [HM.out]; exact hlt
      have hkb : k < B.length := by rw [HL.out]; exact hlt
      have hxe : (atE A k).pl = (atE B k).pl := by rw [← atE_pls _ _ hka, ← atE_pls _ _ hkb, HEE.out]
      have HRA := hid (HDA.out _ (atE_mem A k hka))
      have HRB := hid (HDB.out _ (atE_mem B k hkb))
      generalize atE A k = EA at *
      generalize atE B k = EB at *
      obtain ⟨ei, et, ek, ep, ec, ed⟩ := EA
      obtain ⟨ei', et', ek', ep', ec', ed'⟩ := EB
      simp only [En.pl, En.mk.injEq] at hxe
      obtain ⟨rfl, rfl, rfl, -, -, rfl⟩ := hxe
      dsimp only [En.e] at x4 z4
      dsimp only [En.s] at HRA HRB
      have HS := hid (show SmS ga oa gb ob k ei et ek ep ed.length ec ep' ec' wr from ⟨x4.old UK.out, z4.old UK.out⟩)
      have HSB := hid (fun (W : World) (u : Old wr W) => Rw.same (HRA.out.old (UK.out.trans u)) (HRB.out.old (UK.out.trans u)))
      have l1 : (0 : Int) ≤ (k : Int) := by omega
      have l2 : (k : Int) < (m : Int) := by omega
      clear x4 z4 hka hkb HRA HRB
      generalize ed.length = edl at *
      go_upto_region 6 with (fail)
      refine wp_region_noPanic ?_
      refine wp_region_held_drew (S := SmS ga oa gb ob k ei et ek ep edl ec ep' ec') (by kernel_rfl) ?_ (fun hHeld => ?_)
      · exact SmS.old ((Old.refl _).drew) HS.out
      (try simp only [Act.put]); (try simp only [List.setIfInBounds_toArray]); (try simp only [List.set_cons_succ]); (try simp only [List.set_cons_zero])
      clear hHeld
      refine wpAnyH_take (i := 0) (oi := { dst := some 17, op := Op.move (Operand.tmp 0), type := 29, pos := "ref.go:372", after := #[], guard := none }) (v := ?vk1) rfl (by kernel_rfl) (by kernel_rfl) (by kernel_rfl) (fun _ _ _ h => h) (Or.inl ⟨by rfl, ?hk1⟩) (SmS.old ((Old.refl wr).drew) HS.out) ?rk1
      case hk1 => (intro wz hSw; (try dsimp only at hSw); go_simp; try with_reducible rfl)
      (try simp only [Act.put]); (try simp only [List.setIfInBounds_toArray]); (try simp only [List.set_cons_succ]); (try simp only [List.set_cons_zero])
      refine wpAnyH_take (i := 1) (oi := { dst := some 18, op := Op.move (Operand.tmp 5), type := 3, pos := "ref.go:372", after := #[], guard := none }) (v := ?vk2) rfl (by kernel_rfl) (by kernel_rfl) (by kernel_rfl) (fun _ _ _ h => h) (Or.inl ⟨by rfl, ?hk2⟩) (SmS.old ((Old.refl wr).drew) HS.out) ?rk2
      case hk2 => (intro wz hSw; (try dsimp only at hSw); go_simp; try with_reducible rfl)
      (try simp only [Act.put]); (try simp only [List.setIfInBounds_toArray]); (try simp only [List.set_cons_succ]); (try simp only [List.set_cons_zero])
      refine wpAnyH_take (i := 2) (oi := { dst := some 19, op := Op.indexAddr 29 (Operand.tmp 17) (Operand.tmp 18), type := 0, pos := "ref.go:372", after := #[{ on := 0, ground := Ground.data }, { on := 1, ground := Ground.data }], guard := none }) (v := ?vk3) rfl (by kernel_rfl) (by kernel_rfl) (by kernel_rfl) (fun _ _ _ h => h) (Or.inl ⟨by rfl, ?hk3⟩) (SmS.old ((Old.refl wr).drew) HS.out) ?rk3
      case hk3 => (intro wz hSw; (try dsimp only at hSw); go_simp; try with_reducible rfl)
      (try simp only [Act.put]); (try simp only [List.setIfInBounds_toArray]); (try simp only [List.set_cons_succ]); (try simp only [List.set_cons_zero])
      refine wpAnyH_take (i := 3) (oi := { dst := some 20, op := Op.fieldAddr 41 (Operand.tmp 19) 0, type := 0, pos := "ref.go:372", after := #[{ on := 2, ground := Ground.data }], guard := none }) (v := ?vk4) rfl (by kernel_rfl) (by kernel_rfl) (by kernel_rfl) (fun _ _ _ h => h) (Or.inl ⟨by rfl, ?hk4⟩) (SmS.old ((Old.refl wr).drew) HS.out) ?rk4
      case hk4 => (intro wz hSw; (try dsimp only at hSw); go_simp; try with_reducible rfl)
      (try simp only [Act.put]); (try simp only [List.setIfInBounds_toArray]); (try simp only [List.set_cons_succ]); (try simp only [List.set_cons_zero])
      refine wpAnyH_take (i := 4) (oi := { dst := some 21, op := Op.load 2 (Operand.tmp 20), type := 2, pos := "ref.go:372", after := #[{ on := 3, ground := Ground.data }], guard := none }) (v := ?vk5) rfl (by kernel_rfl) (by kernel_rfl) (by kernel_rfl) (fun _ _ _ h => h) (Or.inl ⟨by rfl, ?hk5⟩) (SmS.old ((Old.refl wr).drew) HS.out) ?rk5
      case hk5 => (intro wz hSw; (try dsimp only at hSw); go_simp; try with_reducible rfl)
      (try simp only [Act.put]); (try simp only [List.setIfInBounds_toArray]); (try simp only [List.set_cons_succ]); (try simp only [List.set_cons_zero])
      refine wpAnyH_take (i := 5) (oi := { dst := some 22, op := Op.move (Operand.tmp 1), type := 29, pos := "ref.go:372", after := #[], guard := none }) (v := ?vk6) rfl (by kernel_rfl) (by kernel_rfl) (by kernel_rfl) (fun _ _ _ h => h) (Or.inl ⟨by rfl, ?hk6⟩) (SmS.old ((Old.refl wr).drew) HS.out) ?rk6
      case hk6 => (intro wz hSw; (try dsimp only at hSw); go_simp; try with_reducible rfl)
      (try simp only [Act.put]); (try simp only [List.setIfInBounds_toArray]); (try simp only [List.set_cons_succ]); (try simp only [List.set_cons_zero])
      refine wpAnyH_take (i := 6) (oi := { dst := some 23, op := Op.move (Operand.tmp 5), type := 3, pos := "ref.go:372", after := #[], guard := none }) (v := ?vk7) rfl (by kernel_rfl) (by kernel_rfl) (by kernel_rfl) (fun _ _ _ h => h) (Or.inl ⟨by rfl, ?hk7⟩) (SmS.old ((Old.refl wr).drew) HS.out) ?rk7
      case hk7 => (intro wz hSw; (try dsimp only at hSw); go_simp; try with_reducible rfl)
      (try simp only [Act.put]); (try simp only [List.setIfInBounds_toArray]); (try simp only [List.set_cons_succ]); (try simp only [List.set_cons_zero])
      refine wpAnyH_take (i := 7) (oi := { dst := some 24, op := Op.indexAddr 29 (Operand.tmp 22) (Operand.tmp 23), type := 0, pos := "ref.go:372", after := #[{ on := 5, ground := Ground.data }, { on := 6, ground := Ground.data }], guard := none }) (v := ?vk8) rfl (by kernel_rfl) (by kernel_rfl) (by kernel_rfl) (fun _ _ _ h => h) (Or.inl ⟨by rfl, ?hk8⟩) (SmS.old ((Old.refl wr).drew) HS.out) ?rk8
      case hk8 => (intro wz hSw; (try dsimp only at hSw); go_simp; try with_reducible rfl)
      (try simp only [Act.put]); (try simp only [List.setIfInBounds_toArray]); (try simp only [List.set_cons_succ]); (try simp only [List.set_cons_zero])
      refine wpAnyH_take (i := 8) (oi := { dst := some 25, op := Op.fieldAddr 41 (Operand.tmp 24) 0, type := 0, pos := "ref.go:372", after := #[{ on := 7, ground := Ground.data }], guard := none }) (v := ?vk9) rfl (by kernel_rfl) (by kernel_rfl) (by kernel_rfl) (fun _ _ _ h => h) (Or.inl ⟨by rfl, ?hk9⟩) (SmS.old ((Old.refl wr).drew) HS.out) ?rk9
      case hk9 => (intro wz hSw; (try dsimp only at hSw); go_simp; try with_reducible rfl)
      (try simp only [Act.put]); (try simp only [List.setIfInBounds_toArray]); (try simp only [List.set_cons_succ]); (try simp only [List.set_cons_zero])
      refine wpAnyH_take (i := 9) (oi := { dst := some 26, op := Op.load 2 (Operand.tmp 25), type := 2, pos := "ref.go:372", after := #[{ on := 8, ground := Ground.data }], guard := none }) (v := ?vk10) rfl (by kernel_rfl) (by kernel_rfl) (by kernel_rfl) (fun _ _ _ h => h) (Or.inl ⟨by rfl, ?hk10⟩) (SmS.old ((Old.refl wr).drew) HS.out) ?rk10
      case hk10 => (intro wz hSw; (try dsimp only at hSw); go_simp; try with_reducible rfl)
      (try simp only [Act.put]); (try simp only [List.setIfInBounds_toArray]); (try simp only [List.set_cons_succ]); (try simp only [List.set_cons_zero])
      refine wpAnyH_take (i := 10) (oi := { dst := some 27, op := Op.binOp BinOp.neq 2 (Operand.tmp 21) (Operand.tmp 26) 2, type := 4, pos := "ref.go:372", after := #[{ on := 4, ground := Ground.data }, { on := 9, ground := Ground.data }], guard := none }) (v := ?vk11) rfl (by kernel_rfl) (by kernel_rfl) (by kernel_rfl) (fun _ _ _ h => h) (Or.inl ⟨by rfl, ?hk11⟩) (SmS.old ((Old.refl wr).drew) HS.out) ?rk11
      case hk11 => (intro wz hSw; (try dsimp only at hSw); go_simp; try with_reducible rfl)
      (try simp only [Act.put]); (try simp only [List.setIfInBounds_toArray]); (try simp only [List.set_cons_succ]); (try simp only [List.set_cons_zero])
      refine wpAnyH_take (i := 11) (oi := { dst := some 28, op := Op.move (Operand.tmp 27), type := 4, pos := "ref.go:372", after := #[{ on := 10, ground := Ground.data }], guard := none }) (v := ?vk12) rfl (by kernel_rfl) (by kernel_rfl) (by kernel_rfl) (fun _ _ _ h => h) (Or.inl ⟨by rfl, ?hk12⟩) (SmS.old ((Old.refl wr).drew) HS.out) ?rk12
      case hk12 => (intro wz hSw; (try dsimp only at hSw); go_simp; try with_reducible rfl)
      (try simp only [Act.put]); (try simp only [List.setIfInBounds_toArray]); (try simp only [List.set_cons_succ]); (try simp only [List.set_cons_zero])
      refine wpAnyH_take (i := 12) (oi := { dst := some 29, op := Op.move (Operand.tmp 0), type := 29, pos := "ref.go:372", after := #[{ on := 11, ground := Ground.guard }], guard := some (11, false) }) (v := ?vk13) rfl (by kernel_rfl) (by kernel_rfl) (by kernel_rfl) (fun _ _ _ h => h) (Or.inl ⟨by rfl, ?hk13⟩) (SmS.old ((Old.refl wr).drew) HS.out) ?rk13
      case hk13 => (intro wz hSw; (try dsimp only at hSw); go_simp; try with_reducible rfl)
      (try simp only [Act.put]); (try simp only [List.setIfInBounds_toArray]); (try simp only [List.set_cons_succ]); (try simp only [List.set_cons_zero])
      refine wpAnyH_take (i := 13) (oi := { dst := some 30, op := Op.move (Operand.tmp 5), type := 3, pos := "ref.go:372", after := #[{ on := 11, ground := Ground.guard }], guard := some (11, false) }) (v := ?vk14) rfl (by kernel_rfl) (by kernel_rfl) (by kernel_rfl) (fun _ _ _ h => h) (Or.inl ⟨by rfl, ?hk14⟩) (SmS.old ((Old.refl wr).drew) HS.out) ?rk14
      case hk14 => (intro wz hSw; (try dsimp only at hSw); go_simp; try with_reducible rfl)
      (try simp only [Act.put]); (try simp only [List.setIfInBounds_toArray]); (try simp only [List.set_cons_succ]); (try simp only [List.set_cons_zero])
      refine wpAnyH_take (i := 14) (oi := { dst := some 31, op := Op.indexAddr 29 (Operand.tmp 29) (Operand.tmp 30), type := 0, pos := "ref.go:372", after := #[{ on := 12, ground := Ground.data }, { on := 13, ground := Ground.data }, { on := 11, ground := Ground.guard }], guard := some (11, false) }) (v := ?vk15) rfl (by kernel_rfl) (by kernel_rfl) (by kernel_rfl) (fun _ _ _ h => h) (Or.inl ⟨by rfl, ?hk15⟩) (SmS.old ((Old.refl wr).drew) HS.out) ?rk15
      case hk15 => (intro wz hSw; (try dsimp only at hSw); go_simp; try with_reducible rfl)
      (try simp only [Act.put]); (try simp only [List.setIfInBounds_toArray]); (try simp only [List.set_cons_succ]); (try simp only [List.set_cons_zero])
      refine wpAnyH_take (i := 15) (oi := { dst := some 32, op := Op.fieldAddr 41 (Operand.tmp 31) 1, type := 0, pos := "ref.go:372", after := #[{ on := 14, ground := Ground.data }, { on := 11, ground := Ground.guard }], guard := some (11, false) }) (v := ?vk16) rfl (by kernel_rfl) (by kernel_rfl) (by kernel_rfl) (fun _ _ _ h => h) (Or.inl ⟨by rfl, ?hk16⟩) (SmS.old ((Old.refl wr).drew) HS.out) ?rk16
      case hk16 => (intro wz hSw; (try dsimp only at hSw); go_simp; try with_reducible rfl)
      (try simp only [Act.put]); (try simp only [List.setIfInBounds_toArray]); (try simp only [List.set_cons_succ]); (try simp only [List.set_cons_zero])
      refine wpAnyH_take (i := 16) (oi := { dst := some 33, op := Op.load 2 (Operand.tmp 32), type := 2, pos := "ref.go:372", after := #[{ on := 15, ground := Ground.data }, { on := 11, ground := Ground.guard }], guard := some (11, false) }) (v := ?vk17) rfl (by kernel_rfl) (by kernel_rfl) (by kernel_rfl) (fun _ _ _ h => h) (Or.inl ⟨by rfl, ?hk17⟩) (SmS.old ((Old.refl wr).drew) HS.out) ?rk17
      case hk17 => (intro wz hSw; (try dsimp only at hSw); go_simp; try with_reducible rfl)
      (try simp only [Act.put]); (try simp only [List.setIfInBounds_toArray]); (try simp only [List.set_cons_succ]); (try simp only [List.set_cons_zero])
      refine wpAnyH_take (i := 17) (oi := { dst := some 34, op := Op.move (Operand.tmp 1), type := 29, pos := "ref.go:372", after := #[{ on := 11, ground := Ground.guard }], guard := some (11, false) }) (v := ?vk18) rfl (by kernel_rfl) (by kernel_rfl) (by kernel_rfl) (fun _ _ _ h => h) (Or.inl ⟨by rfl, ?hk18⟩) (SmS.old ((Old.refl wr).drew) HS.out) ?rk18
      case hk18 => (intro wz hSw; (try dsimp only at hSw); go_simp; try with_reducible rfl)
      (try simp only [Act.put]); (try simp only [List.setIfInBounds_toArray]); (try simp only [List.set_cons_succ]); (try simp only [List.set_cons_zero])
      refine wpAnyH_take (i := 18) (oi := { dst := some 35, op := Op.move (Operand.tmp 5), type := 3, pos := "ref.go:372", after := #[{ on := 11, ground := Ground.guard }], guard := some (11, false) }) (v := ?vk19) rfl (by kernel_rfl) (by kernel_rfl) (by kernel_rfl) (fun _ _ _ h => h) (Or.inl ⟨by rfl, ?hk19⟩) (SmS.old ((Old.refl wr).drew) HS.out) ?rk19
      case hk19 => (intro wz hSw; (try dsimp only at hSw); go_simp; try with_reducible rfl)
      (try simp only [Act.put]); (try simp only [List.setIfInBounds_toArray]); (try simp only [List.set_cons_succ]); (try simp only [List.set_cons_zero])
      refine wpAnyH_take (i := 19) (oi := { dst := some 36, op := Op.indexAddr 29 (Operand.tmp 34) (Operand.tmp 35), type := 0, pos := "ref.go:372", after := #[{ on := 17, ground := Ground.data }, { on := 18, ground := Ground.data }, { on := 11, ground := Ground.guard }], guard := some (11, false) }) (v := ?vk20) rfl (by kernel_rfl) (by kernel_rfl) (by kernel_rfl) (fun _ _ _ h => h) (Or.inl ⟨by rfl, ?hk20⟩) (SmS.old ((Old.refl wr).drew) HS.out) ?rk20
      case hk20 => (intro wz hSw; (try dsimp only at hSw); go_simp; try with_reducible rfl)
      (try simp only [Act.put]); (try simp only [List.setIfInBounds_toArray]); (try simp only [List.set_cons_succ]); (try simp only [List.set_cons_zero])
      refine wpAnyH_take (i := 20) (oi := { dst := some 37, op := Op.fieldAddr 41 (Operand.tmp 36) 1, type := 0, pos := "ref.go:372", after := #[{ on := 19, ground := Ground.data }, { on := 11, ground := Ground.guard }], guard := some (11, false) }) (v := ?vk21) rfl (by kernel_rfl) (by kernel_rfl) (by kernel_rfl) (fun _ _ _ h => h) (Or.inl ⟨by rfl, ?hk21⟩) (SmS.old ((Old.refl wr).drew) HS.out) ?rk21
      case hk21 => (intro wz hSw; (try dsimp only at hSw); go_simp; try with_reducible rfl)
      (try simp only [Act.put]); (try simp only [List.setIfInBounds_toArray]); (try simp only [List.set_cons_succ]); (try simp only [List.set_cons_zero])
      refine wpAnyH_take (i := 21) (oi := { dst := some 38, op := Op.load 2 (Operand.tmp 37), type := 2, pos := "ref.go:372", after := #[{ on := 20, ground := Ground.data }, { on := 11, ground := Ground.guard }], guard := some (11, false) }) (v := ?vk22) rfl (by kernel_rfl) (by kernel_rfl) (by kernel_rfl) (fun _ _ _ h => h) (Or.inl ⟨by rfl, ?hk22⟩) (SmS.old ((Old.refl wr).drew) HS.out) ?rk22
      case hk22 => (intro wz hSw; (try dsimp only at hSw); go_simp; try with_reducible rfl)
      (try simp only [Act.put]); (try simp only [List.setIfInBounds_toArray]); (try simp only [List.set_cons_succ]); (try simp only [List.set_cons_zero])
      refine wpAnyH_take (i := 22) (oi := { dst := some 39, op := Op.binOp BinOp.neq 2 (Operand.tmp 33) (Operand.tmp 38) 2, type := 4, pos := "ref.go:372", after := #[{ on := 16, ground := Ground.data }, { on := 21, ground := Ground.data }, { on := 11, ground := Ground.guard }], guard := some (11, false) }) (v := ?vk23) rfl (by kernel_rfl) (by kernel_rfl) (by kernel_rfl) (fun _ _ _ h => h) (Or.inl ⟨by rfl, ?hk23⟩) (SmS.old ((Old.refl wr).drew) HS.out) ?rk23
      case hk23 => (intro wz hSw; (try dsimp only at hSw); go_simp; try with_reducible rfl)
      (try simp only [Act.put]); (try simp only [List.setIfInBounds_toArray]); (try simp only [List.set_cons_succ]); (try simp only [List.set_cons_zero])
      refine wpAnyH_take (i := 23) (oi := { dst := some 40, op := Op.pick (Operand.tmp 28) (Operand.const (Value.bool true)) (Operand.tmp 39), type := 4, pos := "ref.go:372", after := #[{ on := 11, ground := Ground.data }, { on := 22, ground := Ground.data }], guard := none }) (v := ?vk24) rfl (by kernel_rfl) (by kernel_rfl) (by kernel_rfl) (fun _ _ _ h => h) (Or.inl ⟨by rfl, ?hk24⟩) (SmS.old ((Old.refl wr).drew) HS.out) ?rk24
      case hk24 => (intro wz hSw; (try dsimp only at hSw); go_simp; try with_reducible rfl)
      (try simp only [Act.put]); (try simp only [List.setIfInBounds_toArray]); (try simp only [List.set_cons_succ]); (try simp only [List.set_cons_zero])
      refine wpAnyH_take (i := 24) (oi := { dst := some 41, op := Op.move (Operand.tmp 40), type := 4, pos := "ref.go:372", after := #[{ on := 23, ground := Ground.data }, { on := 11, ground := Ground.chain }], guard := none }) (v := ?vk25) rfl (by kernel_rfl) (by kernel_rfl) (by kernel_rfl) (fun _ _ _ h => h) (Or.inl ⟨by rfl, ?hk25⟩) (SmS.old ((Old.refl wr).drew) HS.out) ?rk25
      case hk25 => (intro wz hSw; (try dsimp only at hSw); go_simp; try with_reducible rfl)
      (try simp only [Act.put]); (try simp only [List.setIfInBounds_toArray]); (try simp only [List.set_cons_succ]); (try simp only [List.set_cons_zero])
      refine wpAnyH_take (i := 25) (oi := { dst := some 42, op := Op.move (Operand.tmp 0), type := 29, pos := "ref.go:372", after := #[{ on := 24, ground := Ground.guard }], guard := some (24, false) }) (v := ?vk26) rfl (by kernel_rfl) (by kernel_rfl) (by kernel_rfl) (fun _ _ _ h => h) (Or.inl ⟨by rfl, ?hk26⟩) (SmS.old ((Old.refl wr).drew) HS.out) ?rk26
      case hk26 => (intro wz hSw; (try dsimp only at hSw); go_simp; try with_reducible rfl)
      (try simp only [Act.put]); (try simp only [List.setIfInBounds_toArray]); (try simp only [List.set_cons_succ]); (try simp only [List.set_cons_zero])
      refine wpAnyH_take (i := 26) (oi := { dst := some 43, op := Op.move (Operand.tmp 5), type := 3, pos := "ref.go:372", after := #[{ on := 24, ground := Ground.guard }], guard := some (24, false) }) (v := ?vk27) rfl (by kernel_rfl) (by kernel_rfl) (by kernel_rfl) (fun _ _ _ h => h) (Or.inl ⟨by rfl, ?hk27⟩) (SmS.old ((Old.refl wr).drew) HS.out) ?rk27
      case hk27 => (intro wz hSw; (try dsimp only at hSw); go_simp; try with_reducible rfl)
      (try simp only [Act.put]); (try simp only [List.setIfInBounds_toArray]); (try simp only [List.set_cons_succ]); (try simp only [List.set_cons_zero])
      refine wpAnyH_take (i := 27) (oi := { dst := some 44, op := Op.indexAddr 29 (Operand.tmp 42) (Operand.tmp 43), type := 0, pos := "ref.go:372", after := #[{ on := 25, ground := Ground.data }, { on := 26, ground := Ground.data }, { on := 24, ground := Ground.guard }], guard := some (24, false) }) (v := ?vk28) rfl (by kernel_rfl) (by kernel_rfl) (by kernel_rfl) (fun _ _ _ h => h) (Or.inl ⟨by rfl, ?hk28⟩) (SmS.old ((Old.refl wr).drew) HS.out) ?rk28
      case hk28 => (intro wz hSw; (try dsimp only at hSw); go_simp; try with_reducible rfl)
      (try simp only [Act.put]); (try simp only [List.setIfInBounds_toArray]); (try simp only [List.set_cons_succ]); (try simp only [List.set_cons_zero])
      refine wpAnyH_take (i := 28) (oi := { dst := some 45, op := Op.fieldAddr 41 (Operand.tmp 44) 2, type := 0, pos := "ref.go:372", after := #[{ on := 27, ground := Ground.data }, { on := 24, ground := Ground.guard }], guard := some (24, false) }) (v := ?vk29) rfl (by kernel_rfl) (by kernel_rfl) (by kernel_rfl) (fun _ _ _ h => h) (Or.inl ⟨by rfl, ?hk29⟩) (SmS.old ((Old.refl wr).drew) HS.out) ?rk29
      case hk29 => (intro wz hSw; (try dsimp only at hSw); go_simp; try with_reducible rfl)
      (try simp only [Act.put]); (try simp only [List.setIfInBounds_toArray]); (try simp only [List.set_cons_succ]); (try simp only [List.set_cons_zero])
      refine wpAnyH_take (i := 29) (oi := { dst := some 46, op := Op.load 3 (Operand.tmp 45), type := 3, pos := "ref.go:372", after := #[{ on := 28, ground := Ground.data }, { on := 24, ground := Ground.guard }], guard := some (24, false) }) (v := ?vk30) rfl (by kernel_rfl) (by kernel_rfl) (by kernel_rfl) (fun _ _ _ h => h) (Or.inl ⟨by rfl, ?hk30⟩) (SmS.old ((Old.refl wr).drew) HS.out) ?rk30
      case hk30 => (intro wz hSw; (try dsimp only at hSw); go_simp; try with_reducible rfl)
      (try simp only [Act.put]); (try simp only [List.setIfInBounds_toArray]); (try simp only [List.set_cons_succ]); (try simp only [List.set_cons_zero])
      refine wpAnyH_take (i := 30) (oi := { dst := some 47, op := Op.move (Operand.tmp 1), type := 29, pos := "ref.go:372", after := #[{ on := 24, ground := Ground.guard }], guard := some (24, false) }) (v := ?vk31) rfl (by kernel_rfl) (by kernel_rfl) (by kernel_rfl) (fun _ _ _ h => h) (Or.inl ⟨by rfl, ?hk31⟩) (SmS.old ((Old.refl wr).drew) HS.out) ?rk31
      case hk31 => (intro wz hSw; (try dsimp only at hSw); go_simp; try with_reducible rfl)
      (try simp only [Act.put]); (try simp only [List.setIfInBounds_toArray]); (try simp only [List.set_cons_succ]); (try simp only [List.set_cons_zero])
      refine wpAnyH_take (i := 31) (oi := { dst := some 48, op := Op.move (Operand.tmp 5), type := 3, pos := "ref.go:372", after := #[{ on := 24, ground := Ground.guard }], guard := some (24, false) }) (v := ?vk32) rfl (by kernel_rfl) (by kernel_rfl) (by kernel_rfl) (fun _ _ _ h => h) (Or.inl ⟨by rfl, ?hk32⟩) (SmS.old ((Old.refl wr).drew) HS.out) ?rk32
      case hk32 => (intro wz hSw; (try dsimp only at hSw); go_simp; try with_reducible rfl)
      (try simp only [Act.put]); (try simp only [List.setIfInBounds_toArray]); (try simp only [List.set_cons_succ]); (try simp only [List.set_cons_zero])
      refine wpAnyH_take (i := 32) (oi := { dst := some 49, op := Op.indexAddr 29 (Operand.tmp 47) (Operand.tmp 48), type := 0, pos := "ref.go:372", after := #[{ on := 30, ground := Ground.data }, { on := 31, ground := Ground.data }, { on := 24, ground := Ground.guard }], guard := some (24, false) }) (v := ?vk33) rfl (by kernel_rfl) (by kernel_rfl) (by kernel_rfl) (fun _ _ _ h => h) (Or.inl ⟨by rfl, ?hk33⟩) (SmS.old ((Old.refl wr).drew) HS.out) ?rk33
      case hk33 => (intro wz hSw; (try dsimp only at hSw); go_simp; try with_reducible rfl)
      (try simp only [Act.put]); (try simp only [List.setIfInBounds_toArray]); (try simp only [List.set_cons_succ]); (try simp only [List.set_cons_zero])
      refine wpAnyH_take (i := 33) (oi := { dst := some 50, op := Op.fieldAddr 41 (Operand.tmp 49) 2, type := 0, pos := "ref.go:372", after := #[{ on := 32, ground := Ground.data }, { on := 24, ground := Ground.guard }], guard := some (24, false) }) (v := ?vk34) rfl (by kernel_rfl) (by kernel_rfl) (by kernel_rfl) (fun _ _ _ h => h) (Or.inl ⟨by rfl, ?hk34⟩) (SmS.old ((Old.refl wr).drew) HS.out) ?rk34
      case hk34 => (intro wz hSw; (try dsimp only at hSw); go_simp; try with_reducible rfl)
      (try simp only [Act.put]); (try simp only [List.setIfInBounds_toArray]); (try simp only [List.set_cons_succ]); (try simp only [List.set_cons_zero])
      refine wpAnyH_take (i := 34) (oi := { dst := some 51, op := Op.load 3 (Operand.tmp 50), type := 3, pos := "ref.go:372", after := #[{ on := 33, ground := Ground.data }, { on := 24, ground := Ground.guard }], guard := some (24, false) }) (v := ?vk35) rfl (by kernel_rfl) (by kernel_rfl) (by kernel_rfl) (fun _ _ _ h => h) (Or.inl ⟨by rfl, ?hk35⟩) (SmS.old ((Old.refl wr).drew) HS.out) ?rk35
      case hk35 => (intro wz hSw; (try dsimp only at hSw); go_simp; try with_reducible rfl)
      (try simp only [Act.put]); (try simp only [List.setIfInBounds_toArray]); (try simp only [List.set_cons_succ]); (try simp only [List.set_cons_zero])
      refine wpAnyH_take (i := 35) (oi := { dst := some 52, op := Op.binOp BinOp.neq 3 (Operand.tmp 46) (Operand.tmp 51) 3, type := 4, pos := "ref.go:372", after := #[{ on := 29, ground := Ground.data }, { on := 34, ground := Ground.data }, { on := 24, ground := Ground.guard }], guard := some (24, false) }) (v := ?vk36) rfl (by kernel_rfl) (by kernel_rfl) (by kernel_rfl) (fun _ _ _ h => h) (Or.inl ⟨by rfl, ?hk36⟩) (SmS.old ((Old.refl wr).drew) HS.out) ?rk36
      case hk36 => (intro wz hSw; (try dsimp only at hSw); go_simp; try with_reducible rfl)
      (try simp only [Act.put]); (try simp only [List.setIfInBounds_toArray]); (try simp only [List.set_cons_succ]); (try simp only [List.set_cons_zero])
      refine wpAnyH_take (i := 36) (oi := { dst := some 53, op := Op.pick (Operand.tmp 41) (Operand.const (Value.bool true)) (Operand.tmp 52), type := 4, pos := "ref.go:372", after := #[{ on := 24, ground := Ground.data }, { on := 35, ground := Ground.data }], guard := none }) (v := ?vk37) rfl (by kernel_rfl) (by kernel_rfl) (by kernel_rfl) (fun _ _ _ h => h) (Or.inl ⟨by rfl, ?hk37⟩) (SmS.old ((Old.refl wr).drew) HS.out) ?rk37
      case hk37 => (intro wz hSw; (try dsimp only at hSw); go_simp; try with_reducible rfl)
      (try simp only [Act.put]); (try simp only [List.setIfInBounds_toArray]); (try simp only [List.set_cons_succ]); (try simp only [List.set_cons_zero])
      refine wpAnyH_take (i := 37) (oi := { dst := some 54, op := Op.move (Operand.tmp 53), type := 4, pos := "ref.go:372", after := #[{ on := 36, ground := Ground.data }, { on := 24, ground := Ground.chain }], guard := none }) (v := ?vk38) rfl (by kernel_rfl) (by kernel_rfl) (by kernel_rfl) (fun _ _ _ h => h) (Or.inl ⟨by rfl, ?hk38⟩) (SmS.old ((Old.refl wr).drew) HS.out) ?rk38
      case hk38 => (intro wz hSw; (try dsimp only at hSw); go_simp; try with_reducible rfl)
      (try simp only [Act.put]); (try simp only [List.setIfInBounds_toArray]); (try simp only [List.set_cons_succ]); (try simp only [List.set_cons_zero])
      refine wpAnyH_take (i := 38) (oi := { dst := some 55, op := Op.move (Operand.tmp 0), type := 29, pos := "ref.go:372", after := #[{ on := 37, ground := Ground.guard }], guard := some (37, false) }) (v := ?vk39) rfl (by kernel_rfl) (by kernel_rfl) (by kernel_rfl) (fun _ _ _ h => h) (Or.inl ⟨by rfl, ?hk39⟩) (SmS.old ((Old.refl wr).drew) HS.out) ?rk39
      case hk39 => (intro wz hSw; (try dsimp only at hSw); go_simp; try with_reducible rfl)
      (try simp only [Act.put]); (try simp only [List.setIfInBounds_toArray]); (try simp only [List.set_cons_succ]); (try simp only [List.set_cons_zero])
      refine wpAnyH_take (i := 39) (oi := { dst := some 56, op := Op.move (Operand.tmp 5), type := 3, pos := "ref.go:372", after := #[{ on := 37, ground := Ground.guard }], guard := some (37, false) }) (v := ?vk40) rfl (by kernel_rfl) (by kernel_rfl) (by kernel_rfl) (fun _ _ _ h => h) (Or.inl ⟨by rfl, ?hk40⟩) (SmS.old ((Old.refl wr).drew) HS.out) ?rk40
      case hk40 => (intro wz hSw; (try dsimp only at hSw); go_simp; try with_reducible rfl)
      (try simp only [Act.put]); (try simp only [List.setIfInBounds_toArray]); (try simp only [List.set_cons_succ]); (try simp only [List.set_cons_zero])
      refine wpAnyH_take (i := 40) (oi := { dst := some 57, op := Op.indexAddr 29 (Operand.tmp 55) (Operand.tmp 56), type := 0, pos := "ref.go:372", after := #[{ on := 38, ground := Ground.data }, { on := 39, ground := Ground.data }, { on := 37, ground := Ground.guard }], guard := some (37, false) }) (v := ?vk41) rfl (by kernel_rfl) (by kernel_rfl) (by kernel_rfl) (fun _ _ _ h => h) (Or.inl ⟨by rfl, ?hk41⟩) (SmS.old ((Old.refl wr).drew) HS.out) ?rk41
      case hk41 => (intro wz hSw; (try dsimp only at hSw); go_simp; try with_reducible rfl)
      (try simp only [Act.put]); (try simp only [List.setIfInBounds_toArray]); (try simp only [List.set_cons_succ]); (try simp only [List.set_cons_zero])
      refine wpAnyH_take (i := 41) (oi := { dst := some 58, op := Op.fieldAddr 41 (Operand.tmp 57) 3, type := 0, pos := "ref.go:372", after := #[{ on := 40, ground := Ground.data }, { on := 37, ground := Ground.guard }], guard := some (37, false) }) (v := ?vk42) rfl (by kernel_rfl) (by kernel_rfl) (by kernel_rfl) (fun _ _ _ h => h) (Or.inl ⟨by rfl, ?hk42⟩) (SmS.old ((Old.refl wr).drew) HS.out) ?rk42
      case hk42 => (intro wz hSw; (try dsimp only at hSw); go_simp; try with_reducible rfl)
      (try simp only [Act.put]); (try simp only [List.setIfInBounds_toArray]); (try simp only [List.set_cons_succ]); (try simp only [List.set_cons_zero])
      refine wpAnyH_take (i := 42) (oi := { dst := some 59, op := Op.load 39 (Operand.tmp 58), type := 39, pos := "ref.go:372", after := #[{ on := 41, ground := Ground.data }, { on := 37, ground := Ground.guard }], guard := some (37, false) }) (v := ?vk43) rfl (by kernel_rfl) (by kernel_rfl) (by kernel_rfl) (fun _ _ _ h => h) (Or.inl ⟨by rfl, ?hk43⟩) (SmS.old ((Old.refl wr).drew) HS.out) ?rk43
      case hk43 => (intro wz hSw; (try dsimp only at hSw); go_simp; try with_reducible rfl)
      (try simp only [Act.put]); (try simp only [List.setIfInBounds_toArray]); (try simp only [List.set_cons_succ]); (try simp only [List.set_cons_zero])
      refine wpAnyH_take (i := 43) (oi := { dst := some 60, op := Op.move (Operand.tmp 1), type := 29, pos := "ref.go:372", after := #[{ on := 37, ground := Ground.guard }], guard := some (37, false) }) (v := ?vk44) rfl (by kernel_rfl) (by kernel_rfl) (by kernel_rfl) (fun _ _ _ h => h) (Or.inl ⟨by rfl, ?hk44⟩) (SmS.old ((Old.refl wr).drew) HS.out) ?rk44
      case hk44 => (intro wz hSw; (try dsimp only at hSw); go_simp; try with_reducible rfl)
      (try simp only [Act.put]); (try simp only [List.setIfInBounds_toArray]); (try simp only [List.set_cons_succ]); (try simp only [List.set_cons_zero])
      refine wpAnyH_take (i := 44) (oi := { dst := some 61, op := Op.move (Operand.tmp 5), type := 3, pos := "ref.go:372", after := #[{ on := 37, ground := Ground.guard }], guard := some (37, false) }) (v := ?vk45) rfl (by kernel_rfl) (by kernel_rfl) (by kernel_rfl) (fun _ _ _ h => h) (Or.inl ⟨by rfl, ?hk45⟩) (SmS.old ((Old.refl wr).drew) HS.out) ?rk45
      case hk45 => (intro wz hSw; (try dsimp only at hSw); go_simp; try with_reducible rfl)
      (try simp only [Act.put]); (try simp only [List.setIfInBounds_toArray]); (try simp only [List.set_cons_succ]); (try simp only [List.set_cons_zero])
      refine wpAnyH_take (i := 45) (oi := { dst := some 62, op := Op.indexAddr 29 (Operand.tmp 60) (Operand.tmp 61), type := 0, pos := "ref.go:372", after := #[{ on := 43, ground := Ground.data }, { on := 44, ground := Ground.data }, { on := 37, ground := Ground.guard }], guard := some (37, false) }) (v := ?vk46) rfl (by kernel_rfl) (by kernel_rfl) (by kernel_rfl) (fun _ _ _ h => h) (Or.inl ⟨by rfl, ?hk46⟩) (SmS.old ((Old.refl wr).drew) HS.out) ?rk46
      case hk46 => (intro wz hSw; (try dsimp only at hSw); go_simp; try with_reducible rfl)
      (try simp only [Act.put]); (try simp only [List.setIfInBounds_toArray]); (try simp only [List.set_cons_succ]); (try simp only [List.set_cons_zero])
      refine wpAnyH_take (i := 46) (oi := { dst := some 63, op := Op.fieldAddr 41 (Operand.tmp 62) 3, type := 0, pos := "ref.go:372", after := #[{ on := 45, ground := Ground.data }, { on := 37, ground := Ground.guard }], guard := some (37, false) }) (v := ?vk47) rfl (by kernel_rfl) (by kernel_rfl) (by kernel_rfl) (fun _ _ _ h => h) (Or.inl ⟨by rfl, ?hk47⟩) (SmS.old ((Old.refl wr).drew) HS.out) ?rk47
      case hk47 => (intro wz hSw; (try dsimp only at hSw); go_simp; try with_reducible rfl)
      (try simp only [Act.put]); (try simp only [List.setIfInBounds_toArray]); (try simp only [List.set_cons_succ]); (try simp only [List.set_cons_zero])
      refine wpAnyH_take (i := 47) (oi := { dst := some 64, op := Op.load 39 (Operand.tmp 63), type := 39, pos := "ref.go:372", after := #[{ on := 46, ground := Ground.data }, { on := 37, ground := Ground.guard }], guard := some (37, false) }) (v := ?vk48) rfl (by kernel_rfl) (by kernel_rfl) (by kernel_rfl) (fun _ _ _ h => h) (Or.inl ⟨by rfl, ?hk48⟩) (SmS.old ((Old.refl wr).drew) HS.out) ?rk48
      case hk48 => (intro wz hSw; (try dsimp only at hSw); go_simp; try with_reducible rfl)
      (try simp only [Act.put]); (try simp only [List.setIfInBounds_toArray]); (try simp only [List.set_cons_succ]); (try simp only [List.set_cons_zero])
      refine wpAnyH_ready (rs := [48]) (by kernel_rfl) (by simp) ?_
      refine AllReadyH.cons (o := { dst := some 65, op := Op.call { callee := Callee.value (Operand.func 37), args := #[Operand.tmp 59, Operand.tmp 64], argTypes := #[39, 39] }, type := 4, pos := "ref.go:372", after := #[{ on := 42, ground := Ground.data }, { on := 47, ground := Ground.data }, { on := 37, ground := Ground.chain }, { on := 37, ground := Ground.guard }], guard := some (37, false) }) rfl (fun K hK => ?_) AllReadyH.nil
      refine wantCall2 ?_ 37 (.tmp 59) (.tmp 64) #[39, 39] ?_ (.slice ep edl ec) (.slice ep' edl ec') ?_ ?_ ?_ ((enters_of Try.func37 (by kernel_rfl) rfl) _ _) ?_
      · rfl
      · rfl
      · rfl
      · rfl
      · rfl
      refine (HSB.out _ ((Old.refl wr).drew)).mono ?_
      rintro o x49 ⟨rfl, b49⟩
      refine ⟨_, rfl, ?_⟩
      have U49 := ((Old.refl wr).drew).trans b49
      refine hK.out _ _ (SmS.old U49 HS.out) (fun _ => ?_)
      clear hK K
      (try simp only [Act.put]); (try simp only [List.setIfInBounds_toArray]); (try simp only [List.set_cons_succ]); (try simp only [List.set_cons_zero])
      refine wpAnyH_take (i := 49) (oi := { dst := some 66, op := Op.unOp UnOp.not 4 (Operand.tmp 65), type := 4, pos := "ref.go:372", after := #[{ on := 48, ground := Ground.data }, { on := 37, ground := Ground.guard }], guard := some (37, false) }) (v := ?vk50) rfl (by kernel_rfl) (by kernel_rfl) (by kernel_rfl) (fun _ _ _ h => h) (Or.inl ⟨by rfl, ?hk50⟩) (SmS.old U49 HS.out) ?rk50
      case hk50 => (intro wz hSw; (try dsimp only at hSw); go_simp; try with_reducible rfl)
      (try simp only [Act.put]); (try simp only [List.setIfInBounds_toArray]); (try simp only [List.set_cons_succ]); (try simp only [List.set_cons_zero])
      refine wpAnyH_take (i := 50) (oi := { dst := some 67, op := Op.pick (Operand.tmp 54) (Operand.const (Value.bool true)) (Operand.tmp 66), type := 4, pos := "ref.go:372", after := #[{ on := 37, ground := Ground.data }, { on := 49, ground := Ground.data }], guard := none }) (v := ?vk51) rfl (by kernel_rfl) (by kernel_rfl) (by kernel_rfl) (fun _ _ _ h => h) (Or.inl ⟨by rfl, ?hk51⟩) (SmS.old U49 HS.out) ?rk51
      case hk51 => (intro wz hSw; (try dsimp only at hSw); go_simp; try with_reducible rfl)
      (try simp only [Act.put]); (try simp only [List.setIfInBounds_toArray]); (try simp only [List.set_cons_succ]); (try simp only [List.set_cons_zero])
      refine wpAnyH_done (by kernel_rfl) ?_ _
      refine NoPanic.normal ?_
      have UZ := hid (UK.out.trans U49)
      go_wp2
      exact ⟨⟨k + 1, hlt, by go_num, UZ.out⟩, by simp [intOf]; omega⟩
    · obtain rfl : m = k := by omega
      go_wp2
      go_ret
      exact ⟨rfl, UK.out⟩
end Go.Proofs.Ytgpfmohaogppiaa
