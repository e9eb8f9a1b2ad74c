/- rlog's Entries at the example; the document's SameInts, Same; the example that the laws of layer 16 begin with; no condition. -/
import Derived.Test.YtgpfmohaogppiaaL7
import Derived.Laws.MakeOwn
namespace Go.Proofs.Ytgpfmohaogppiaa
open Go.RowKit Go.Lib
set_option linter.unusedVariables false
set_option linter.unusedSimpArgs false
set_option maxRecDepth 20000
theorem CcS.old {lb : Nat} {v : Value} {w w' : World} (u : Old w w') (h : w.cell? ⟨lb, 2, none⟩ = some v) : w'.cell? ⟨lb, 2, none⟩ = some v := u.keep h
/-- A new place for one entry. -/
structure E4 (ob : Nat) (w : World) : Prop where
  s : ∀ j, j < 4 → (w.cell? ⟨ob, j, none⟩).isSome = true
  f : ∀ j, w.frozen? ⟨ob, j, none⟩ = false
theorem E4.old {ob : Nat} {w w' : World} (h : E4 ob w) (u : Old w w') : E4 ob w' := by
  refine ⟨fun j hj => ?_, fun j => ?_⟩
  · obtain ⟨v, hv⟩ := Option.isSome_iff_exists.1 (h.s j hj); rw [u.keep hv]; rfl
  · obtain ⟨v, hv⟩ := Option.isSome_iff_exists.1 (h.s 0 (by omega))
    rw [Below.frozen (p := ⟨ob, j, none⟩) u (show ob < _ from World.block_lt_of_cell? w ⟨ob, 0, none⟩ hv)]; exact h.f j
theorem new1E (w : World) : E4 w.heap.size (w.alloc (.cells #[.int .i64 0, .int .i64 0, .int .i64 0, .slice none 0 0] 41)) := ⟨fun j hj => by
  match j, hj with
  | 0, _ => simp
  | 1, _ => simp
  | 2, _ => simp
  | 3, _ => simp, fun j => by simp⟩
theorem mk1E (w : World) : (Instr.makeSlice 29 (.int .i64 1) (.int .i64 1)).run Try.prog w = .ok (.slice (some ⟨w.heap.size, 0, none⟩) 1 1) (w.alloc (.cells #[.int .i64 0, .int .i64 0, .int .i64 0, .slice none 0 0] 41)) := by
  obtain ⟨i0, hi, hz0, hz1, hz2⟩ := info_parts infoEnt
  have q := run_make (P := Try.prog) w 29 41 i0 _ Try.underlying29 hi hz0 .i64 .i64 1 1 (by omega) (Int.le_refl _) (by rw [hz2]; omega) (by omega)
  rw [hz1] at q
  have e : madeCells (Value.agg #[.int .i64 0, .int .i64 0, .int .i64 0, .slice none 0 0]).cells (Int.toNat 1 * 4) = #[.int .i64 0, .int .i64 0, .int .i64 0, .slice none 0 0] := by kernel_rfl
  rw [e] at q
  exact q
theorem E4.there {ob : Nat} {w : World} (h : E4 ob w) : w.there ob 0 4 := fun j hj => by rw [Nat.zero_add]; exact ⟨h.s j hj, h.f j⟩
theorem infoE4 : (Try.prog.info? 41).map (·.size) = some 4 := by kernel_rfl
theorem Ex.s {w0 W : World} {lb gc g : Nat} {u1 u2 : Value} (h : Ex w0 lb gc g u1 u2 W) : LogS W lb 1 1 1 (fun _ => en 2 3) := by
  obtain ⟨c, h2, h3, h4⟩ := h.c2
  refine ⟨⟨h.c0, h.c1, by omega, _, c, h2, h3, h4, fun i hi => ⟨g, 4, rfl, ?_⟩⟩, by omega, by omega, fun i hi => ?_⟩
  · obtain rfl : i = 0 := by omega
    exact h.e
  · obtain rfl : i = 0 := by omega
    rfl
theorem EntIn.setCells {w : World} {g o b : Nat} {e : Ent} (h : EntIn w g o e) (hn : g ≠ b) (vs : List Value) : EntIn (w.setCells b 0 vs) g o e :=
  have q : ∀ j, (w.setCells b 0 vs).cell? ⟨g, j, none⟩ = w.cell? ⟨g, j, none⟩ := fun j => World.cell?_setCells_out b vs 0 w ⟨g, j, none⟩ (fun e => absurd e hn)
  ⟨(q _).trans h.1, (q _).trans h.2.1, (q _).trans h.2.2.1, (q _).trans h.2.2.2⟩
set_option maxHeartbeats 4000000 in
set_option maxRecDepth 20000 in
theorem entries_ex (w0 : World) (lb gc g : Nat) (u1 u2 : Value) (w : World) (h : Ex w0 lb gc g u1 u2 w) :
    Calls Try.prog 14 #[.pointer (some ⟨lb, 0, none⟩), .int .i64 0, .int .i64 9] w fun e w' => ∃ p c, e = .returned (.slice p 1 c) ∧ Old w w' := by
  have HAh := hid (fun (W : World) (u : Old w W) => ahead_any lb 1 1 1 (fun _ => en 2 3) 0 W (h.s.old u))
  rw [show ahN 1 1 0 = 0 from by decide] at HAh
  have HE := hid h.e
  obtain ⟨c, h2, h3, h4⟩ := h.c2
  have HS := hid h2
  clear h h2
  go_enter Try.func14, Try.ntmps14
  go_upto_region 1 with (fail)
  refine wp_region_noPanic ?_
  refine wp_region_held_drew (S := fun wz => wz.cell? ⟨lb, 2, none⟩ = some (.slice (some ⟨g, 4, none⟩) 1 c)) (by kernel_rfl) ?_ (fun hHeld => ?_)
  · exact CcS.old ((Old.refl _).drew) HS.out
  (try simp only [Act.put]); (try simp only [List.setIfInBounds_toArray]); (try simp only [List.set_cons_succ]); (try simp only [List.set_cons_zero])
  clear hHeld
  refine wpAnyH_take (i := 0) (oi := { dst := some 10, op := Op.move (Operand.tmp 0), type := 26, pos := "tell.go:31", after := #[], guard := none }) (v := ?vk1) rfl (by kernel_rfl) (by kernel_rfl) (by kernel_rfl) (fun _ _ _ h => h) (Or.inl ⟨by rfl, ?hk1⟩) (CcS.old ((Old.refl w).drew) HS.out) ?rk1
  case hk1 => (intro wz hSw; (try dsimp only at hSw); go_simp; try with_reducible rfl)
  (try simp only [Act.put]); (try simp only [List.setIfInBounds_toArray]); (try simp only [List.set_cons_succ]); (try simp only [List.set_cons_zero])
  refine wpAnyH_take (i := 1) (oi := { dst := some 11, op := Op.nilCheck (Operand.tmp 10), type := 0, pos := "tell.go:31", after := #[{ on := 0, ground := Ground.data }], guard := none }) (v := ?vk2) rfl (by kernel_rfl) (by kernel_rfl) (by kernel_rfl) (fun _ _ _ h => h) (Or.inl ⟨by rfl, ?hk2⟩) (CcS.old ((Old.refl w).drew) HS.out) ?rk2
  case hk2 => (intro wz hSw; (try dsimp only at hSw); go_simp; try with_reducible rfl)
  (try simp only [Act.put]); (try simp only [List.setIfInBounds_toArray]); (try simp only [List.set_cons_succ]); (try simp only [List.set_cons_zero])
  refine wpAnyH_take (i := 2) (oi := { dst := some 12, op := Op.fieldAddr 68 (Operand.tmp 11) 2, type := 0, pos := "tell.go:31", after := #[{ on := 1, ground := Ground.data }], guard := none }) (v := ?vk3) rfl (by kernel_rfl) (by kernel_rfl) (by kernel_rfl) (fun _ _ _ h => h) (Or.inl ⟨by rfl, ?hk3⟩) (CcS.old ((Old.refl w).drew) HS.out) ?rk3
  case hk3 => (intro wz hSw; (try dsimp only at hSw); go_simp; try with_reducible rfl)
  (try simp only [Act.put]); (try simp only [List.setIfInBounds_toArray]); (try simp only [List.set_cons_succ]); (try simp only [List.set_cons_zero])
  refine wpAnyH_take (i := 3) (oi := { dst := some 13, op := Op.load 29 (Operand.tmp 12), type := 29, pos := "tell.go:31", after := #[{ on := 2, ground := Ground.data }], guard := none }) (v := ?vk4) rfl (by kernel_rfl) (by kernel_rfl) (by kernel_rfl) (fun _ _ _ h => h) (Or.inl ⟨by rfl, ?hk4⟩) (CcS.old ((Old.refl w).drew) HS.out) ?rk4
  case hk4 => (intro wz hSw; (try dsimp only at hSw); go_simp; try with_reducible rfl)
  (try simp only [Act.put]); (try simp only [List.setIfInBounds_toArray]); (try simp only [List.set_cons_succ]); (try simp only [List.set_cons_zero])
  refine wpAnyH_take (i := 4) (oi := { dst := some 14, op := Op.move (Operand.tmp 0), type := 26, pos := "tell.go:31", after := #[], guard := none }) (v := ?vk5) rfl (by kernel_rfl) (by kernel_rfl) (by kernel_rfl) (fun _ _ _ h => h) (Or.inl ⟨by rfl, ?hk5⟩) (CcS.old ((Old.refl w).drew) HS.out) ?rk5
  case hk5 => (intro wz hSw; (try dsimp only at hSw); go_simp; try with_reducible rfl)
  (try simp only [Act.put]); (try simp only [List.setIfInBounds_toArray]); (try simp only [List.set_cons_succ]); (try simp only [List.set_cons_zero])
  refine wpAnyH_take (i := 5) (oi := { dst := some 15, op := Op.move (Operand.tmp 1), type := 2, pos := "tell.go:31", after := #[], guard := none }) (v := ?vk6) rfl (by kernel_rfl) (by kernel_rfl) (by kernel_rfl) (fun _ _ _ h => h) (Or.inl ⟨by rfl, ?hk6⟩) (CcS.old ((Old.refl w).drew) HS.out) ?rk6
  case hk6 => (intro wz hSw; (try dsimp only at hSw); go_simp; try with_reducible rfl)
  (try simp only [Act.put]); (try simp only [List.setIfInBounds_toArray]); (try simp only [List.set_cons_succ]); (try simp only [List.set_cons_zero])
  refine wpAnyH_ready (rs := [6]) (by kernel_rfl) (by simp) ?_
  refine AllReadyH.cons (o := { dst := some 16, op := Op.call { callee := Callee.value (Operand.func 33), args := #[Operand.tmp 14, Operand.tmp 15], argTypes := #[26, 2] }, type := 3, pos := "tell.go:31", after := #[{ on := 4, ground := Ground.data }, { on := 5, ground := Ground.data }], guard := none }) rfl (fun K hK => ?_) AllReadyH.nil
  refine wantCall2 ?_ 33 (.tmp 14) (.tmp 15) #[26, 2] ?_ (.pointer (some ⟨lb, 0, none⟩)) (.int .i64 0) ?_ ?_ ?_ ((enters_of Try.func33 (by kernel_rfl) rfl) _ _) ?_
  · rfl
  · rfl
  · rfl
  · rfl
  · rfl
  refine (HAh.out _ ((Old.refl w).drew)).mono ?_
  rintro o x7 ⟨rfl, b7⟩
  refine ⟨_, rfl, ?_⟩
  have U7 := ((Old.refl w).drew).trans b7
  refine hK.out _ _ (CcS.old U7 HS.out) (fun _ => ?_)
  clear hK K
  (try simp only [Act.put]); (try simp only [List.setIfInBounds_toArray]); (try simp only [List.set_cons_succ]); (try simp only [List.set_cons_zero])
  refine wpAnyH_take (i := 7) (oi := { dst := some 17, op := Op.slice 29 (Operand.tmp 13) (some (Operand.tmp 16)) none none, type := 29, pos := "tell.go:31", after := #[{ on := 3, ground := Ground.data }, { on := 6, ground := Ground.data }], guard := none }) (v := ?vk8) rfl (by kernel_rfl) (by kernel_rfl) (by kernel_rfl) (fun _ _ _ h => h) (Or.inl ⟨by rfl, ?hk8⟩) (CcS.old U7 HS.out) ?rk8
  case hk8 => (intro wz hSw; (try dsimp only at hSw); go_simp; try with_reducible rfl)
  (try simp only [Act.put]); (try simp only [List.setIfInBounds_toArray]); (try simp only [List.set_cons_succ]); (try simp only [List.set_cons_zero])
  refine wpAnyH_ready (rs := [8]) (by kernel_rfl) (by simp) ?_
  refine AllReadyH.cons (o := { dst := some 7, op := Op.assign (Operand.tmp 17), type := 29, pos := "tell.go:31", after := #[{ on := 7, ground := Ground.data }, { on := 6, ground := Ground.chain }, { on := 0, ground := Ground.phase }, { on := 1, ground := Ground.phase }, { on := 2, ground := Ground.phase }, { on := 3, ground := Ground.phase }, { on := 4, ground := Ground.phase }, { on := 5, ground := Ground.phase }, { on := 6, ground := Ground.phase }, { on := 7, ground := Ground.phase }], guard := none }) rfl (fun K hK => ?_) AllReadyH.nil
  go_simp
  refine hK.out _ _ (CcS.old U7 HS.out) (fun _ => ?_)
  clear hK K
  (try simp only [Act.put]); (try simp only [List.setIfInBounds_toArray]); (try simp only [List.set_cons_succ]); (try simp only [List.set_cons_zero])
  refine wpAnyH_done (by kernel_rfl) ?_ _
  refine NoPanic.normal ?_
  have UZ := hid U7
  generalize x7 = wz at *
  simp only [Exit.then]
  have hmk := mk1E wz
  go_upto_region 3 with (fail)
  have hnew := new1E wz
  have UY := hid ((Old.refl wz).alloc (.cells #[.int .i64 0, .int .i64 0, .int .i64 0, .slice none 0 0] 41))
  have HEo := hid (EntIn.old (EntIn.old HE.out UZ.out) UY.out)
  generalize hwy : wz.alloc (.cells #[.int .i64 0, .int .i64 0, .int .i64 0, .slice none 0 0] 41) = wy at *
  have HOb : Hid (wz.heap.size ≤ wz.heap.size) := hid (Nat.le_refl _)
  have HGo : Hid (g ≠ wz.heap.size) := hid (by have := World.block_lt_of_cell? wz _ (EntIn.old HE.out UZ.out).1; simp at this; omega)
  obtain ⟨ob, hob⟩ : ∃ ob, wz.heap.size = ob := ⟨_, rfl⟩
  rw [hob] at hnew HGo ⊢
  have HOb : Hid (wz.heap.size ≤ ob) := hid (Nat.le_of_eq hob)
  go_wp2
  go_loopw [26] (fun i wx => ∃ k : Nat, k ≤ 1 ∧ i = .int .i64 k ∧ Old wz wx ∧ (k = 0 → E4 ob wx) ∧ EntIn wx g 4 (en 2 3)) (fun i _ => 1 - (intOf i).toNat)
  case atStart => exact ⟨0, by omega, rfl, UY.out, fun _ => hnew, HEo.out⟩
  case round =>
    obtain ⟨k, hk, rfl, hu, h4, he⟩ := hrel
    by_cases hlt : k < 1
    · obtain rfl : k = 0 := by omega
      have H4 := hid (h4 rfl)
      have HU := hid hu
      obtain ⟨x0, x1, x2, x3⟩ := he
      dsimp only [en] at x0 x1 x2 x3
      have HEx := hid (show EntIn wr g 4 (en 2 3) from ⟨x0, x1, x2, x3⟩)
      clear h4 hu
      have HOg : Hid (g ≠ ob) := HGo
      go_wp2_with (go_at_call 35; refine (cloneE_nil 2 3 _).mono ?_; rintro e w5 ⟨rfl, o5⟩; have O5 := hid (HU.out.trans o5); have H5 := H4.out.old o5; obtain ⟨t0, ht0⟩ := Option.isSome_iff_exists.1 (H5.s 0 (by omega)); obtain ⟨t1, ht1⟩ := Option.isSome_iff_exists.1 (H5.s 1 (by omega)); obtain ⟨t2, ht2⟩ := Option.isSome_iff_exists.1 (H5.s 2 (by omega)); obtain ⟨t3, ht3⟩ := Option.isSome_iff_exists.1 (H5.s 3 (by omega)); have hf0 := H5.f 0; have hf1 := H5.f 1; have hf2 := H5.f 2; have hf3 := H5.f 3; clear H5; have HEy := hid (HEx.out.old o5); clear o5)
      exact ⟨⟨1, by omega, by go_num, by repeat (first | exact O5.out | refine Old.setCell ?_ HOb.out _), fun q => by omega, by repeat (first | exact HEy.out | refine EntIn.oth ?_ (Ne.symm HOg.out))⟩, by simp [intOf]⟩
    · obtain rfl : k = 1 := by omega
      go_wp2
      go_ret
      exact ⟨_, _, rfl, UZ.out.trans hu⟩
end Go.Proofs.Ytgpfmohaogppiaa
