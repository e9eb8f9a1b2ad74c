/- rlog's Conf and ConfAt at every log; conditions: it lies in memory. -/
import Derived.Test.YtgpfmohaogppiaaRl12
import Derived.Test.YtgpfmohaogppiaaL9
namespace Go.Proofs.Ytgpfmohaogppiaa
open Go.RowKit Go.Lib
set_option linter.unusedVariables false
set_option linter.unusedSimpArgs false
set_option maxRecDepth 20000
abbrev CfG (lb gc off N c j : Nat) (at0 : Int) (k1 k2 : Value) : World → Prop := fun wz => wz.cell? ⟨lb, 3, none⟩ = some (.slice (some ⟨gc, off, none⟩) N c) ∧ wz.cell? ⟨gc, off + j * 3, none⟩ = some (.int .i64 at0) ∧ wz.cell? ⟨gc, off + j * 3 + 1, none⟩ = some k1 ∧ wz.cell? ⟨gc, off + j * 3 + 2, none⟩ = some k2
theorem CfG.old {lb gc off N c j : Nat} {at0 : Int} {k1 k2 : Value} {w w' : World} (u : Old w w') (h : CfG lb gc off N c j at0 k1 k2 w) : CfG lb gc off N c j at0 k1 k2 w' := ⟨u.keep h.1, u.keep h.2.1, u.keep h.2.2.1, u.keep h.2.2.2⟩
theorem CfG.set {lb gc off N c j rb : Nat} {at0 : Int} {k1 k2 : Value} {w : World} (h : CfG lb gc off N c j at0 k1 k2 w) (vs : List Value) (h1 : lb ≠ rb) (h2 : gc ≠ rb) : CfG lb gc off N c j at0 k1 k2 (w.setCells rb 0 vs) :=
  ⟨(World.cell?_setCells_out rb vs 0 w ⟨lb, 3, none⟩ (fun e => absurd e h1)).trans h.1, (World.cell?_setCells_out rb vs 0 w ⟨gc, _, none⟩ (fun e => absurd e h2)).trans h.2.1, (World.cell?_setCells_out rb vs 0 w ⟨gc, _, none⟩ (fun e => absurd e h2)).trans h.2.2.1, (World.cell?_setCells_out rb vs 0 w ⟨gc, _, none⟩ (fun e => absurd e h2)).trans h.2.2.2⟩
/-- The configuration at a place of a log. -/
theorem LogM.at {base lb : Nat} {G : Lg} {w : World} (h : LogM base lb G w) (j : Nat) (hj : j < G.cs.length) (hs : ∀ y ∈ G.cs, y.a.length ≤ 17592186044000 ∧ y.b.length ≤ 17592186044000) : ∃ gc off c, CfG lb gc off G.cs.length c j (atP G.cs j).x (atP G.cs j).u (atP G.cs j).v w ∧ gc < w.heap.size ∧ G.cs.length ≤ c ∧ c ≤ 9223372036854775807 ∧ NRowL w (atP G.cs j).u (atP G.cs j).a.length (gI (atP G.cs j).a) ∧ NRowL w (atP G.cs j).v (atP G.cs j).b.length (gI (atP G.cs j).b) := by
  obtain ⟨gc, off, c, e, h1, h2, h3⟩ := h.conf (by omega)
  obtain ⟨-, -, -, x3, -⟩ := h.cells
  rw [e] at x3
  obtain ⟨q0, q1, q2⟩ := h3 j hj
  have hm := atP_mem G.cs j hj
  exact ⟨gc, off, c, ⟨x3, q0, q1, q2⟩, World.block_lt_of_cell? w _ q0, h1, h2, (h.dc _ hm).1.rowH (hs _ hm).1, (h.dc _ hm).2.rowH (hs _ hm).2⟩
set_option maxHeartbeats 4000000 in
set_option maxRecDepth 20000 in
theorem conf_any (base lb : Nat) (G : Lg) (j : Nat) (w : World) (h : LogM base lb G w) (ok : LgOk G) (hj : j + 1 = G.cs.length) :
    Calls Try.prog 17 #[.pointer (some ⟨lb, 0, none⟩)] w fun e w' => ∃ u1 u2, e = .returned (.tuple #[.agg #[u1, u2], .int .i64 (atP G.cs j).x]) ∧ OwnI 0 w' u1 (atP G.cs j).a ∧ OwnI 0 w' u2 (atP G.cs j).b ∧ Old w w' := by
  obtain ⟨gc, off, cv, hC, -, hcv1, hcv2, h1, h2⟩ := h.at j (by omega) ok.sm
  have hfew := ok.few.2
  have HC0 := hid (fun (W : World) (u : Old w W) => clone2 _ _ _ _ _ _ W (h1.old u) (h2.old u))
  simp only [lsI_gI] at HC0
  obtain ⟨_, p1, c1, e1, _⟩ := h1
  obtain ⟨_, p2, c2, e2, _⟩ := h2
  generalize G.cs.length = N at *
  generalize atP G.cs j = Y at *
  obtain ⟨at0, yu, yv, ya, yb⟩ := Y
  dsimp only at e1 e2 hC HC0 ⊢
  subst e1 e2
  obtain ⟨n1, hn1⟩ : ∃ n1, ya.length = n1 := ⟨_, rfl⟩
  obtain ⟨n2, hn2⟩ : ∃ n2, yb.length = n2 := ⟨_, rfl⟩
  have HA := hid hn1
  have HB := hid hn2
  rw [hn1, hn2] at hC HC0
  have q0 : (N : Int) - 1 = (j : Int) := by omega
  have q1 : (0 : Int) ≤ (j : Int) := by omega
  have q2 : (j : Int) < (N : Int) := by omega
  have q3 : (N : Int) ≤ 1099511627777 := by omega
  have qw : IntKind.i64.wrap (j : Int) = (j : Int) := by rw [IntKind.wrap_i64]; omega
  have qb : (0 : Int) ≤ (j : Int) ∧ (j : Int) < (N : Int) := ⟨q1, q2⟩
  clear h hj hn1 hn2
  go_enter Try.func17, Try.ntmps17
  go_upto_region 1 with (fail)
  have HUw := hid (show Old w (w.alloc (.cells #[.slice none 0 0, .slice none 0 0] 24)) from (Old.refl w).alloc _)
  have HT := hid (show T2 w.heap.size (w.alloc (.cells #[.slice none 0 0, .slice none 0 0] 24)) from ⟨by simp, by simp, by simp, by simp⟩)
  have HS := hid (CfG.old HUw.out hC)
  have HPz : Hid (w.heap.size < (w.alloc (.cells #[.slice none 0 0, .slice none 0 0] 24)).heap.size) := hid (by simp)
  generalize w.alloc (.cells #[.slice none 0 0, .slice none 0 0] 24) = w1 at *
  have HCl := hid (fun (W : World) (u : Old w1 W) => HC0.out W (HUw.out.trans u))
  clear HC0 hC
  obtain ⟨rb, hrb⟩ : ∃ rb, w.heap.size = rb := ⟨_, rfl⟩
  rw [hrb] at HT HPz ⊢
  have HRb : Hid (w.heap.size ≤ rb) := hid (Nat.le_of_eq hrb)
  clear hrb
  refine wp_region_noPanic ?_
  refine wp_region_held_drew (S := CfG lb gc off N cv j at0 (.slice p1 n1 c1) (.slice p2 n2 c2)) (by kernel_rfl) ?_ (fun hHeld => ?_)
  · exact CfG.old ((Old.refl _).drew) HS.out
  (try simp only [Act.put]); (try simp only [List.setIfInBounds_toArray]); (try simp only [List.set_cons_succ]); (try simp only [List.set_cons_zero])
  clear hHeld
  refine wpAnyH_take (i := 0) (oi := { dst := some 5, op := Op.move (Operand.tmp 0), type := 26, pos := "tell.go:41", after := #[], guard := none }) (v := ?vk7) rfl (by kernel_rfl) (by kernel_rfl) (by kernel_rfl) (fun _ _ _ h => h) (Or.inl ⟨by rfl, ?hk7⟩) (CfG.old ((Old.refl _).drew) HS.out) ?rk7
  case hk7 => (intro wz hSw; (try dsimp only at hSw); go_simp; (try simp only [qw, if_pos qb, Int.toNat_natCast]); try with_reducible rfl)
  (try simp only [Act.put]); (try simp only [List.setIfInBounds_toArray]); (try simp only [List.set_cons_succ]); (try simp only [List.set_cons_zero])
  refine wpAnyH_take (i := 1) (oi := { dst := some 6, op := Op.nilCheck (Operand.tmp 5), type := 0, pos := "tell.go:41", after := #[{ on := 0, ground := Ground.data }], guard := none }) (v := ?vk8) rfl (by kernel_rfl) (by kernel_rfl) (by kernel_rfl) (fun _ _ _ h => h) (Or.inl ⟨by rfl, ?hk8⟩) (CfG.old ((Old.refl _).drew) HS.out) ?rk8
  case hk8 => (intro wz hSw; (try dsimp only at hSw); go_simp; (try simp only [qw, if_pos qb, Int.toNat_natCast]); try with_reducible rfl)
  (try simp only [Act.put]); (try simp only [List.setIfInBounds_toArray]); (try simp only [List.set_cons_succ]); (try simp only [List.set_cons_zero])
  refine wpAnyH_take (i := 2) (oi := { dst := some 7, op := Op.fieldAddr 68 (Operand.tmp 6) 3, type := 0, pos := "tell.go:41", after := #[{ on := 1, ground := Ground.data }], guard := none }) (v := ?vk9) rfl (by kernel_rfl) (by kernel_rfl) (by kernel_rfl) (fun _ _ _ h => h) (Or.inl ⟨by rfl, ?hk9⟩) (CfG.old ((Old.refl _).drew) HS.out) ?rk9
  case hk9 => (intro wz hSw; (try dsimp only at hSw); go_simp; (try simp only [qw, if_pos qb, Int.toNat_natCast]); try with_reducible rfl)
  (try simp only [Act.put]); (try simp only [List.setIfInBounds_toArray]); (try simp only [List.set_cons_succ]); (try simp only [List.set_cons_zero])
  refine wpAnyH_take (i := 3) (oi := { dst := some 8, op := Op.load 66 (Operand.tmp 7), type := 66, pos := "tell.go:41", after := #[{ on := 2, ground := Ground.data }], guard := none }) (v := ?vk10) rfl (by kernel_rfl) (by kernel_rfl) (by kernel_rfl) (fun _ _ _ h => h) (Or.inl ⟨by rfl, ?hk10⟩) (CfG.old ((Old.refl _).drew) HS.out) ?rk10
  case hk10 => (intro wz hSw; (try dsimp only at hSw); go_simp; (try simp only [qw, if_pos qb, Int.toNat_natCast]); try with_reducible rfl)
  (try simp only [Act.put]); (try simp only [List.setIfInBounds_toArray]); (try simp only [List.set_cons_succ]); (try simp only [List.set_cons_zero])
  refine wpAnyH_take (i := 4) (oi := { dst := some 9, op := Op.move (Operand.tmp 0), type := 26, pos := "tell.go:41", after := #[], guard := none }) (v := ?vk11) rfl (by kernel_rfl) (by kernel_rfl) (by kernel_rfl) (fun _ _ _ h => h) (Or.inl ⟨by rfl, ?hk11⟩) (CfG.old ((Old.refl _).drew) HS.out) ?rk11
  case hk11 => (intro wz hSw; (try dsimp only at hSw); go_simp; (try simp only [qw, if_pos qb, Int.toNat_natCast]); try with_reducible rfl)
  (try simp only [Act.put]); (try simp only [List.setIfInBounds_toArray]); (try simp only [List.set_cons_succ]); (try simp only [List.set_cons_zero])
  refine wpAnyH_take (i := 5) (oi := { dst := some 10, op := Op.nilCheck (Operand.tmp 9), type := 0, pos := "tell.go:41", after := #[{ on := 4, ground := Ground.data }], guard := none }) (v := ?vk12) rfl (by kernel_rfl) (by kernel_rfl) (by kernel_rfl) (fun _ _ _ h => h) (Or.inl ⟨by rfl, ?hk12⟩) (CfG.old ((Old.refl _).drew) HS.out) ?rk12
  case hk12 => (intro wz hSw; (try dsimp only at hSw); go_simp; (try simp only [qw, if_pos qb, Int.toNat_natCast]); try with_reducible rfl)
  (try simp only [Act.put]); (try simp only [List.setIfInBounds_toArray]); (try simp only [List.set_cons_succ]); (try simp only [List.set_cons_zero])
  refine wpAnyH_take (i := 6) (oi := { dst := some 11, op := Op.fieldAddr 68 (Operand.tmp 10) 3, type := 0, pos := "tell.go:41", after := #[{ on := 5, ground := Ground.data }], guard := none }) (v := ?vk13) rfl (by kernel_rfl) (by kernel_rfl) (by kernel_rfl) (fun _ _ _ h => h) (Or.inl ⟨by rfl, ?hk13⟩) (CfG.old ((Old.refl _).drew) HS.out) ?rk13
  case hk13 => (intro wz hSw; (try dsimp only at hSw); go_simp; (try simp only [qw, if_pos qb, Int.toNat_natCast]); try with_reducible rfl)
  (try simp only [Act.put]); (try simp only [List.setIfInBounds_toArray]); (try simp only [List.set_cons_succ]); (try simp only [List.set_cons_zero])
  refine wpAnyH_take (i := 7) (oi := { dst := some 12, op := Op.load 66 (Operand.tmp 11), type := 66, pos := "tell.go:41", after := #[{ on := 6, ground := Ground.data }], guard := none }) (v := ?vk14) rfl (by kernel_rfl) (by kernel_rfl) (by kernel_rfl) (fun _ _ _ h => h) (Or.inl ⟨by rfl, ?hk14⟩) (CfG.old ((Old.refl _).drew) HS.out) ?rk14
  case hk14 => (intro wz hSw; (try dsimp only at hSw); go_simp; (try simp only [qw, if_pos qb, Int.toNat_natCast]); try with_reducible rfl)
  (try simp only [Act.put]); (try simp only [List.setIfInBounds_toArray]); (try simp only [List.set_cons_succ]); (try simp only [List.set_cons_zero])
  refine wpAnyH_take (i := 8) (oi := { dst := some 13, op := Op.call { callee := Callee.builtin Builtin.len, args := #[Operand.tmp 12], argTypes := #[66] }, type := 3, pos := "tell.go:41", after := #[{ on := 7, ground := Ground.data }], guard := none }) (v := ?vk15) rfl (by kernel_rfl) (by kernel_rfl) (by kernel_rfl) (fun _ _ _ h => h) (Or.inl ⟨by rfl, ?hk15⟩) (CfG.old ((Old.refl _).drew) HS.out) ?rk15
  case hk15 => (intro wz hSw; (try dsimp only at hSw); go_simp; (try simp only [qw, if_pos qb, Int.toNat_natCast]); try with_reducible rfl)
  (try simp only [Act.put]); (try simp only [List.setIfInBounds_toArray]); (try simp only [List.set_cons_succ]); (try simp only [List.set_cons_zero])
  refine wpAnyH_take (i := 9) (oi := { dst := some 14, op := Op.binOp BinOp.sub 3 (Operand.tmp 13) (Operand.const (Value.int IntKind.i64 1)) 3, type := 3, pos := "tell.go:41", after := #[{ on := 8, ground := Ground.data }], guard := none }) (v := ?vk16) rfl (by kernel_rfl) (by kernel_rfl) (by kernel_rfl) (fun _ _ _ h => h) (Or.inl ⟨by rfl, ?hk16⟩) (CfG.old ((Old.refl _).drew) HS.out) ?rk16
  case hk16 => (intro wz hSw; (try dsimp only at hSw); go_simp; (try simp only [qw, if_pos qb, Int.toNat_natCast]); try with_reducible rfl)
  (try simp only [Act.put]); (try simp only [List.setIfInBounds_toArray]); (try simp only [List.set_cons_succ]); (try simp only [List.set_cons_zero])
  refine wpAnyH_take (i := 10) (oi := { dst := some 15, op := Op.indexAddr 66 (Operand.tmp 8) (Operand.tmp 14), type := 0, pos := "tell.go:41", after := #[{ on := 3, ground := Ground.data }, { on := 9, ground := Ground.data }], guard := none }) (v := ?vk17) rfl (by kernel_rfl) (by kernel_rfl) (by kernel_rfl) (fun _ _ _ h => h) (Or.inl ⟨by rfl, ?hk17⟩) (CfG.old ((Old.refl _).drew) HS.out) ?rk17
  case hk17 => (intro wz hSw; (try dsimp only at hSw); go_simp; (try simp only [qw, if_pos qb, Int.toNat_natCast]); try with_reducible rfl)
  (try simp only [Act.put]); (try simp only [List.setIfInBounds_toArray]); (try simp only [List.set_cons_succ]); (try simp only [List.set_cons_zero])
  refine wpAnyH_take (i := 11) (oi := { dst := some 16, op := Op.load 65 (Operand.tmp 15), type := 65, pos := "tell.go:41", after := #[{ on := 10, ground := Ground.data }], guard := none }) (v := ?vk18) rfl (by kernel_rfl) (by kernel_rfl) (by kernel_rfl) (fun _ _ _ h => h) (Or.inl ⟨by rfl, ?hk18⟩) (CfG.old ((Old.refl _).drew) HS.out) ?rk18
  case hk18 => (intro wz hSw; (try dsimp only at hSw); go_simp; (try simp only [qw, if_pos qb, Int.toNat_natCast]); try with_reducible rfl)
  (try simp only [Act.put]); (try simp only [List.setIfInBounds_toArray]); (try simp only [List.set_cons_succ]); (try simp only [List.set_cons_zero])
  refine wpAnyH_ready (rs := [12]) (by kernel_rfl) (by simp) ?_
  refine AllReadyH.cons (o := { dst := some 4, op := Op.alloc 65, type := 0, pos := "tell.go:41", after := #[], guard := none }) rfl (fun K hK => ?_) AllReadyH.nil
  · skip
    refine stepAllocP ?_ ?_ ?_
    · rfl
    · rfl
    intro m19 y19 hm19 hy19
    have V19 : Old w1 y19 := by rw [hy19]; exact ((Old.refl w1).drew).alloc _
    have P19 : P3 m19 y19 := by rw [hy19, hm19]; exact P3.new _
    have Z19 : w1.heap.size ≤ m19 := by rw [hm19]; exact ((Old.refl w1).drew).size
    have S19 := CfG.old V19 HS.out
    clear hm19 hy19
    refine hK.out _ _ S19 (fun _ => ?_)
    clear hK K
    (try simp only [Act.put]); (try simp only [List.setIfInBounds_toArray]); (try simp only [List.set_cons_succ]); (try simp only [List.set_cons_zero])
    refine wpAnyH_ready (rs := [13]) (by kernel_rfl) (by simp) ?_
    refine AllReadyH.cons (o := { dst := none, op := Op.store 65 (Operand.tmp 4) (Operand.tmp 16), type := 0, pos := "tell.go:41", after := #[{ on := 12, ground := Ground.data }, { on := 11, ground := Ground.data }, { on := 0, ground := Ground.phase }, { on := 1, ground := Ground.phase }, { on := 2, ground := Ground.phase }, { on := 3, ground := Ground.phase }, { on := 4, ground := Ground.phase }, { on := 5, ground := Ground.phase }, { on := 6, ground := Ground.phase }, { on := 7, ground := Ground.phase }, { on := 8, ground := Ground.phase }, { on := 9, ground := Ground.phase }, { on := 10, ground := Ground.phase }, { on := 11, ground := Ground.phase }, { on := 12, ground := Ground.phase }], guard := none }) rfl (fun K hK => ?_) AllReadyH.nil
    · skip
      refine stepStoreP ?_ (.tmp 4) (.tmp 16) ?_ m19 (.int .i64 at0) (.slice p1 n1 c1) (.slice p2 n2 c2) ?_ ?_ P19.there rfl rfl rfl ?_
      · rfl
      · rfl
      · rfl
      · rfl
      have V20 : Old w1 _ := Old.setCells Z19 [.int .i64 at0, .slice p1 n1 c1, .slice p2 n2 c2] 0 V19
      have G20 := P19.set (.int .i64 at0) (.slice p1 n1 c1) (.slice p2 n2 c2)
      have S20 := CfG.old V20 HS.out
      refine hK.out _ _ S20 (fun _ => ?_)
      clear hK K
      (try simp only [Act.put]); (try simp only [List.setIfInBounds_toArray]); (try simp only [List.set_cons_succ]); (try simp only [List.set_cons_zero])
      refine wpAnyH_done (by kernel_rfl) ?_ _
      refine NoPanic.normal ?_
      have UZ := hid V20
      have GZ := hid G20
      have HPR := hid (show m19 ≠ rb from by have := Z19; have := HPz.out; omega)
      generalize hwz : World.setCells _ m19 0 _ = wz at *
      generalize m19 = pb at *
      clear hwz
      simp only [Exit.then]
      go_upto_region 2 with (fail)
      have S0 := GZ.out
      refine wp_region_noPanic ?_
      refine wp_region_held_drew (S := PbS pb (.int .i64 at0) (.slice p1 n1 c1) (.slice p2 n2 c2)) (by kernel_rfl) ?_ (fun hHeld => ?_)
      · exact PbS.old ((Old.refl _).drew) S0
      (try simp only [Act.put]); (try simp only [List.setIfInBounds_toArray]); (try simp only [List.set_cons_succ]); (try simp only [List.set_cons_zero])
      clear hHeld
      refine wpAnyH_take (i := 0) (oi := { dst := some 17, op := Op.fieldAddr 65 (Operand.tmp 4) 1, type := 0, pos := "tell.go:42", after := #[], guard := none }) (v := ?vk1) rfl (by kernel_rfl) (by kernel_rfl) (by kernel_rfl) (fun _ _ _ h => h) (Or.inl ⟨by rfl, ?hk1⟩) (PbS.old ((Old.refl _).drew) S0) ?rk1
      case hk1 => (intro wz hSw; (try dsimp only at hSw); go_simp; (try simp only [qw, if_pos qb, Int.toNat_natCast]); try with_reducible rfl)
      (try simp only [Act.put]); (try simp only [List.setIfInBounds_toArray]); (try simp only [List.set_cons_succ]); (try simp only [List.set_cons_zero])
      refine wpAnyH_take (i := 1) (oi := { dst := some 18, op := Op.load 24 (Operand.tmp 17), type := 24, pos := "tell.go:42", after := #[{ on := 0, ground := Ground.data }], guard := none }) (v := ?vk2) rfl (by kernel_rfl) (by kernel_rfl) (by kernel_rfl) (fun _ _ _ h => h) (Or.inl ⟨by rfl, ?hk2⟩) (PbS.old ((Old.refl _).drew) S0) ?rk2
      case hk2 => (intro wz hSw; (try dsimp only at hSw); go_simp; (try simp only [qw, if_pos qb, Int.toNat_natCast]); try with_reducible rfl)
      (try simp only [Act.put]); (try simp only [List.setIfInBounds_toArray]); (try simp only [List.set_cons_succ]); (try simp only [List.set_cons_zero])
      refine wpAnyH_take (i := 3) (oi := { dst := some 20, op := Op.fieldAddr 65 (Operand.tmp 4) 0, type := 0, pos := "tell.go:42", after := #[{ on := 5, ground := Ground.gcOnly Departure.lateStores }], guard := none }) (v := ?vk3) rfl (by kernel_rfl) (by kernel_rfl) (by kernel_rfl) (fun _ _ _ h => h) (Or.inl ⟨by rfl, ?hk3⟩) (PbS.old ((Old.refl _).drew) S0) ?rk3
      case hk3 => (intro wz hSw; (try dsimp only at hSw); go_simp; (try simp only [qw, if_pos qb, Int.toNat_natCast]); try with_reducible rfl)
      (try simp only [Act.put]); (try simp only [List.setIfInBounds_toArray]); (try simp only [List.set_cons_succ]); (try simp only [List.set_cons_zero])
      refine wpAnyH_take (i := 4) (oi := { dst := some 21, op := Op.load 2 (Operand.tmp 20), type := 2, pos := "tell.go:42", after := #[{ on := 3, ground := Ground.data }, { on := 5, ground := Ground.gcOnly Departure.lateStores }], guard := none }) (v := ?vk4) rfl (by kernel_rfl) (by kernel_rfl) (by kernel_rfl) (fun _ _ _ h => h) (Or.inl ⟨by rfl, ?hk4⟩) (PbS.old ((Old.refl _).drew) S0) ?rk4
      case hk4 => (intro wz hSw; (try dsimp only at hSw); go_simp; (try simp only [qw, if_pos qb, Int.toNat_natCast]); try with_reducible rfl)
      (try simp only [Act.put]); (try simp only [List.setIfInBounds_toArray]); (try simp only [List.set_cons_succ]); (try simp only [List.set_cons_zero])
      refine wpAnyH_ready (rs := [2]) (by kernel_rfl) (by simp) ?_
      refine AllReadyH.cons (o := { dst := some 19, op := Op.call { callee := Callee.value (Operand.func 30), args := #[Operand.tmp 18], argTypes := #[24] }, type := 24, pos := "tell.go:42", after := #[{ on := 1, ground := Ground.data }], guard := none }) rfl (fun K hK => ?_) AllReadyH.nil
      · skip
        refine stepCallF1 ?_ 30 (.tmp 18) #[24] ?_ (.agg #[.slice p1 n1 c1, .slice p2 n2 c2]) ?_ ?_ (enters_of Try.func30 (by kernel_rfl) rfl _ _) ?_
        · rfl
        · rfl
        · rfl
        · rfl
        refine (HCl.out _ (UZ.out.trans ((Old.refl _).drew))).mono ?_
        rintro o x5 ⟨u1, u2, rfl, r1, r2, b5⟩
        refine ⟨_, rfl, ?_⟩
        obtain ⟨p1', c1', e1'⟩ := r1.len
        rw [HA.out] at e1'
        subst e1'
        obtain ⟨p2', c2', e2'⟩ := r2.len
        rw [HB.out] at e2'
        subst e2'
        have Y5 := (UZ.out.trans ((Old.refl _).drew)).size
        have U5 := ((Old.refl _).drew).trans b5
        have S5 := PbS.old U5 S0
        refine hK.out _ _ S5 (fun _ => ?_)
        clear hK K
        (try simp only [Act.put]); (try simp only [List.setIfInBounds_toArray]); (try simp only [List.set_cons_succ]); (try simp only [List.set_cons_zero])
        refine wpAnyH_ready (rs := [5]) (by kernel_rfl) (by simp) ?_
        refine AllReadyH.cons (o := { dst := none, op := Op.store 24 (Operand.tmp 2) (Operand.tmp 19), type := 0, pos := "tell.go:42", after := #[{ on := 2, ground := Ground.data }, { on := 2, ground := Ground.chain }, { on := 0, ground := Ground.phase }, { on := 1, ground := Ground.phase }, { on := 2, ground := Ground.phase }, { on := 3, ground := Ground.textOnly Departure.lateStores }, { on := 4, ground := Ground.textOnly Departure.lateStores }], guard := none }) rfl (fun K hK => ?_) AllReadyH.nil
        · skip
          have T6 := T2.old (UZ.out.trans U5) HT.out
          refine stepStoreC ?_ (.tmp 2) (.tmp 19) ?_ rb (.slice p1' n1 c1') (.slice p2' n2 c2') ?_ ?_ T6.there rfl rfl ?_
          · rfl
          · rfl
          · rfl
          · rfl
          have V6 := hid (Old.setCells (a := w) (b := rb) HRb.out [.slice p1' n1 c1', .slice p2' n2 c2'] 0 (HUw.out.trans (UZ.out.trans U5)))
          have G6 := hid (T6.set (.slice p1' n1 c1') (.slice p2' n2 c2'))
          have M1 := hid ((r1.chg (Chg.setCells rb [.slice p1' n1 c1', .slice p2' n2 c2'] 0 _) (fun g e => by have := (World.ownsRow.lt r1 g e).1; have := Y5; have := HPz.out; simp; omega)).mono (Nat.zero_le _))
          have M2 := hid ((r2.chg (Chg.setCells rb [.slice p1' n1 c1', .slice p2' n2 c2'] 0 _) (fun g e => by have := (World.ownsRow.lt r2 g e).1; have := Y5; have := HPz.out; simp; omega)).mono (Nat.zero_le _))
          have S6 := PbS.set S5 T6 [.slice p1' n1 c1', .slice p2' n2 c2'] HPR.out
          refine hK.out _ _ S6 (fun _ => ?_)
          clear hK K
          (try simp only [Act.put]); (try simp only [List.setIfInBounds_toArray]); (try simp only [List.set_cons_succ]); (try simp only [List.set_cons_zero])
          refine wpAnyH_ready (rs := [6]) (by kernel_rfl) (by simp) ?_
          refine AllReadyH.cons (o := { dst := some 3, op := Op.assign (Operand.tmp 21), type := 2, pos := "tell.go:42", after := #[{ on := 4, ground := Ground.data }, { on := 5, ground := Ground.chain }, { on := 0, ground := Ground.phase }, { on := 1, ground := Ground.phase }, { on := 2, ground := Ground.phase }, { on := 3, ground := Ground.phase }, { on := 4, ground := Ground.phase }, { on := 5, ground := Ground.phase }], guard := none }) rfl (fun K hK => ?_) AllReadyH.nil
          · skip
            go_simp
            refine hK.out _ _ S6 (fun _ => ?_)
            clear hK K
            (try simp only [Act.put]); (try simp only [List.setIfInBounds_toArray]); (try simp only [List.set_cons_succ]); (try simp only [List.set_cons_zero])
            refine wpAnyH_done (by kernel_rfl) ?_ _
            refine NoPanic.normal ?_
            obtain ⟨g0, g1⟩ := G6.out
            go_wp2
            refine bodyPost_ret (v := .tuple #[.agg #[.slice p1' n1 c1', .slice p2' n2 c2'], .int .i64 at0]) (by simp [results, Try.results17, go_sem, g0, g1]) rfl ⟨_, _, rfl, M1.out, M2.out, V6.out⟩
set_option maxHeartbeats 4000000 in
set_option maxRecDepth 20000 in
theorem confAt_any (base lb : Nat) (G : Lg) (ix : Int) (p j : Nat) (w : World) (h : LogM base lb G w) (ok : LgOk G) (hp : p ≤ G.cs.length) (g1 : ∀ i, i < p → (atP G.cs i).x ≤ ix) (g2 : ∀ i, p ≤ i → i < G.cs.length → ix < (atP G.cs i).x) (hj : j + 1 = max 1 p) :
    Calls Try.prog 20 #[.pointer (some ⟨lb, 0, none⟩), .int .i64 ix] w fun e w' => ∃ u1 u2, e = .returned (.agg #[u1, u2]) ∧ OwnI 0 w' u1 (atP G.cs j).a ∧ OwnI 0 w' u2 (atP G.cs j).b ∧ Old w w' := by
  have hcl := ok.cslen
  have hfew := ok.few.2
  obtain ⟨gc, off, cv, hC, hgc, hcv1, hcv2, h1, h2⟩ := h.at j (by omega) ok.sm
  have hlbl := heap_lt h.bx
  have HC0 := hid (fun (W : World) (u : Old w W) => clone2 _ _ _ _ _ _ W (h1.old u) (h2.old u))
  have HU0 := hid (fun (W : World) (u : Old w W) => upTo_any base lb G ix p W (h.old u) (by omega) hfew hp g1 g2)
  rw [← hj] at HU0
  simp only [lsI_gI] at HC0
  obtain ⟨_, p1, c1, e1, _⟩ := h1
  obtain ⟨_, p2, c2, e2, _⟩ := h2
  have q2 : (j : Int) < (G.cs.length : Int) := by omega
  generalize G.cs.length = N at *
  generalize atP G.cs j = Y at *
  obtain ⟨at0, yu, yv, ya, yb⟩ := Y
  dsimp only at e1 e2 hC HC0 ⊢
  subst e1 e2
  obtain ⟨n1, hn1⟩ : ∃ n1, ya.length = n1 := ⟨_, rfl⟩
  obtain ⟨n2, hn2⟩ : ∃ n2, yb.length = n2 := ⟨_, rfl⟩
  have HA := hid hn1
  have HB := hid hn2
  rw [hn1, hn2] at hC HC0
  have q0 : ((j + 1 : Nat) : Int) - 1 = (j : Int) := by omega
  push_cast at HU0 q0
  have q1 : (0 : Int) ≤ (j : Int) := by omega
  have q3 : (N : Int) ≤ 1099511627777 := by omega
  have qw : IntKind.i64.wrap (j : Int) = (j : Int) := by rw [IntKind.wrap_i64]; omega
  have qb : (0 : Int) ≤ (j : Int) ∧ (j : Int) < (N : Int) := ⟨q1, q2⟩
  clear h hn1 hn2 g1 g2 hp hj hcl
  go_enter Try.func20, Try.ntmps20
  go_upto_region 1 with (fail)
  have HUw := hid (show Old w (w.alloc (.cells #[.slice none 0 0, .slice none 0 0] 24)) from (Old.refl w).alloc _)
  have HT := hid (show T2 w.heap.size (w.alloc (.cells #[.slice none 0 0, .slice none 0 0] 24)) from ⟨by simp, by simp, by simp, by simp⟩)
  have HS := hid (CfG.old HUw.out hC)
  have HPz : Hid (w.heap.size < (w.alloc (.cells #[.slice none 0 0, .slice none 0 0] 24)).heap.size) := hid (by simp)
  have HNb := hid (show lb ≠ w.heap.size ∧ gc ≠ w.heap.size from by omega)
  generalize w.alloc (.cells #[.slice none 0 0, .slice none 0 0] 24) = w1 at *
  have HCl := hid (fun (W : World) (u : Old w1 W) => HC0.out W (HUw.out.trans u))
  have HUp := hid (fun (W : World) (u : Old w1 W) => HU0.out W (HUw.out.trans u))
  clear HC0 hC HU0 hgc hlbl
  obtain ⟨rb, hrb⟩ : ∃ rb, w.heap.size = rb := ⟨_, rfl⟩
  rw [hrb] at HT HPz HNb ⊢
  have HRb : Hid (w.heap.size ≤ rb) := hid (Nat.le_of_eq hrb)
  clear hrb
  refine wp_region_noPanic ?_
  refine wp_region_held_drew (S := CfG lb gc off N cv j at0 (.slice p1 n1 c1) (.slice p2 n2 c2)) (by kernel_rfl) ?_ (fun hHeld => ?_)
  · exact CfG.old ((Old.refl _).drew) HS.out
  (try simp only [Act.put]); (try simp only [List.setIfInBounds_toArray]); (try simp only [List.set_cons_succ]); (try simp only [List.set_cons_zero])
  clear hHeld
  refine wpAnyH_take (i := 0) (oi := { dst := some 5, op := Op.move (Operand.tmp 0), type := 26, pos := "tell.go:47", after := #[], guard := none }) (v := ?vk21) rfl (by kernel_rfl) (by kernel_rfl) (by kernel_rfl) (fun _ _ _ h => h) (Or.inl ⟨by rfl, ?hk21⟩) (CfG.old ((Old.refl _).drew) HS.out) ?rk21
  case hk21 => (intro wz hSw; (try dsimp only at hSw); go_simp; (try simp only [qw, if_pos qb, Int.toNat_natCast]); try with_reducible rfl)
  (try simp only [Act.put]); (try simp only [List.setIfInBounds_toArray]); (try simp only [List.set_cons_succ]); (try simp only [List.set_cons_zero])
  refine wpAnyH_take (i := 1) (oi := { dst := some 6, op := Op.nilCheck (Operand.tmp 5), type := 0, pos := "tell.go:47", after := #[{ on := 0, ground := Ground.data }], guard := none }) (v := ?vk22) rfl (by kernel_rfl) (by kernel_rfl) (by kernel_rfl) (fun _ _ _ h => h) (Or.inl ⟨by rfl, ?hk22⟩) (CfG.old ((Old.refl _).drew) HS.out) ?rk22
  case hk22 => (intro wz hSw; (try dsimp only at hSw); go_simp; (try simp only [qw, if_pos qb, Int.toNat_natCast]); try with_reducible rfl)
  (try simp only [Act.put]); (try simp only [List.setIfInBounds_toArray]); (try simp only [List.set_cons_succ]); (try simp only [List.set_cons_zero])
  refine wpAnyH_take (i := 2) (oi := { dst := some 7, op := Op.fieldAddr 68 (Operand.tmp 6) 3, type := 0, pos := "tell.go:47", after := #[{ on := 1, ground := Ground.data }], guard := none }) (v := ?vk23) rfl (by kernel_rfl) (by kernel_rfl) (by kernel_rfl) (fun _ _ _ h => h) (Or.inl ⟨by rfl, ?hk23⟩) (CfG.old ((Old.refl _).drew) HS.out) ?rk23
  case hk23 => (intro wz hSw; (try dsimp only at hSw); go_simp; (try simp only [qw, if_pos qb, Int.toNat_natCast]); try with_reducible rfl)
  (try simp only [Act.put]); (try simp only [List.setIfInBounds_toArray]); (try simp only [List.set_cons_succ]); (try simp only [List.set_cons_zero])
  refine wpAnyH_take (i := 3) (oi := { dst := some 8, op := Op.load 66 (Operand.tmp 7), type := 66, pos := "tell.go:47", after := #[{ on := 2, ground := Ground.data }], guard := none }) (v := ?vk24) rfl (by kernel_rfl) (by kernel_rfl) (by kernel_rfl) (fun _ _ _ h => h) (Or.inl ⟨by rfl, ?hk24⟩) (CfG.old ((Old.refl _).drew) HS.out) ?rk24
  case hk24 => (intro wz hSw; (try dsimp only at hSw); go_simp; (try simp only [qw, if_pos qb, Int.toNat_natCast]); try with_reducible rfl)
  (try simp only [Act.put]); (try simp only [List.setIfInBounds_toArray]); (try simp only [List.set_cons_succ]); (try simp only [List.set_cons_zero])
  refine wpAnyH_take (i := 4) (oi := { dst := some 9, op := Op.move (Operand.tmp 0), type := 26, pos := "tell.go:47", after := #[], guard := none }) (v := ?vk25) rfl (by kernel_rfl) (by kernel_rfl) (by kernel_rfl) (fun _ _ _ h => h) (Or.inl ⟨by rfl, ?hk25⟩) (CfG.old ((Old.refl _).drew) HS.out) ?rk25
  case hk25 => (intro wz hSw; (try dsimp only at hSw); go_simp; (try simp only [qw, if_pos qb, Int.toNat_natCast]); try with_reducible rfl)
  (try simp only [Act.put]); (try simp only [List.setIfInBounds_toArray]); (try simp only [List.set_cons_succ]); (try simp only [List.set_cons_zero])
  refine wpAnyH_take (i := 5) (oi := { dst := some 10, op := Op.move (Operand.tmp 1), type := 2, pos := "tell.go:47", after := #[], guard := none }) (v := ?vk26) rfl (by kernel_rfl) (by kernel_rfl) (by kernel_rfl) (fun _ _ _ h => h) (Or.inl ⟨by rfl, ?hk26⟩) (CfG.old ((Old.refl _).drew) HS.out) ?rk26
  case hk26 => (intro wz hSw; (try dsimp only at hSw); go_simp; (try simp only [qw, if_pos qb, Int.toNat_natCast]); try with_reducible rfl)
  (try simp only [Act.put]); (try simp only [List.setIfInBounds_toArray]); (try simp only [List.set_cons_succ]); (try simp only [List.set_cons_zero])
  refine wpAnyH_ready (rs := [6]) (by kernel_rfl) (by simp) ?_
  refine AllReadyH.cons (o := { dst := some 11, op := Op.call { callee := Callee.value (Operand.func 34), args := #[Operand.tmp 9, Operand.tmp 10], argTypes := #[26, 2] }, type := 3, pos := "tell.go:47", after := #[{ on := 4, ground := Ground.data }, { on := 5, ground := Ground.data }], guard := none }) rfl (fun K hK => ?_) AllReadyH.nil
  · skip
    refine wantCall2 ?_ 34 (.tmp 9) (.tmp 10) #[26, 2] ?_ (.pointer (some ⟨lb, 0, none⟩)) (.int .i64 ix) ?_ ?_ ?_ ((enters_of Try.func34 (by kernel_rfl) rfl) _ _) ?_
    · rfl
    · rfl
    · rfl
    · rfl
    · rfl
    refine (HUp.out _ ((Old.refl w1).drew)).mono ?_
    rintro o x27 ⟨rfl, b27⟩
    refine ⟨_, rfl, ?_⟩
    have U27 := ((Old.refl w1).drew).trans b27
    have S27 := CfG.old U27 HS.out
    refine hK.out _ _ S27 (fun _ => ?_)
    clear hK K
    (try simp only [Act.put]); (try simp only [List.setIfInBounds_toArray]); (try simp only [List.set_cons_succ]); (try simp only [List.set_cons_zero])
    refine wpAnyH_take (i := 7) (oi := { dst := some 12, op := Op.binOp BinOp.sub 3 (Operand.tmp 11) (Operand.const (Value.int IntKind.i64 1)) 3, type := 3, pos := "tell.go:47", after := #[{ on := 6, ground := Ground.data }], guard := none }) (v := ?vk28) rfl (by kernel_rfl) (by kernel_rfl) (by kernel_rfl) (fun _ _ _ h => h) (Or.inl ⟨by rfl, ?hk28⟩) S27 ?rk28
    case hk28 => (intro wz hSw; (try dsimp only at hSw); go_simp; (try simp only [qw, if_pos qb, Int.toNat_natCast]); try with_reducible rfl)
    (try simp only [Act.put]); (try simp only [List.setIfInBounds_toArray]); (try simp only [List.set_cons_succ]); (try simp only [List.set_cons_zero])
    refine wpAnyH_take (i := 8) (oi := { dst := some 13, op := Op.indexAddr 66 (Operand.tmp 8) (Operand.tmp 12), type := 0, pos := "tell.go:47", after := #[{ on := 3, ground := Ground.data }, { on := 7, ground := Ground.data }], guard := none }) (v := ?vk29) rfl (by kernel_rfl) (by kernel_rfl) (by kernel_rfl) (fun _ _ _ h => h) (Or.inl ⟨by rfl, ?hk29⟩) S27 ?rk29
    case hk29 => (intro wz hSw; (try dsimp only at hSw); go_simp; (try simp only [qw, if_pos qb, Int.toNat_natCast]); try with_reducible rfl)
    (try simp only [Act.put]); (try simp only [List.setIfInBounds_toArray]); (try simp only [List.set_cons_succ]); (try simp only [List.set_cons_zero])
    refine wpAnyH_take (i := 9) (oi := { dst := some 14, op := Op.fieldAddr 65 (Operand.tmp 13) 1, type := 0, pos := "tell.go:47", after := #[{ on := 8, ground := Ground.data }], guard := none }) (v := ?vk30) rfl (by kernel_rfl) (by kernel_rfl) (by kernel_rfl) (fun _ _ _ h => h) (Or.inl ⟨by rfl, ?hk30⟩) S27 ?rk30
    case hk30 => (intro wz hSw; (try dsimp only at hSw); go_simp; (try simp only [qw, if_pos qb, Int.toNat_natCast]); try with_reducible rfl)
    (try simp only [Act.put]); (try simp only [List.setIfInBounds_toArray]); (try simp only [List.set_cons_succ]); (try simp only [List.set_cons_zero])
    refine wpAnyH_take (i := 10) (oi := { dst := some 15, op := Op.load 24 (Operand.tmp 14), type := 24, pos := "tell.go:47", after := #[{ on := 9, ground := Ground.data }], guard := none }) (v := ?vk31) rfl (by kernel_rfl) (by kernel_rfl) (by kernel_rfl) (fun _ _ _ h => h) (Or.inl ⟨by rfl, ?hk31⟩) S27 ?rk31
    case hk31 => (intro wz hSw; (try dsimp only at hSw); go_simp; (try simp only [qw, if_pos qb, Int.toNat_natCast]); try with_reducible rfl)
    (try simp only [Act.put]); (try simp only [List.setIfInBounds_toArray]); (try simp only [List.set_cons_succ]); (try simp only [List.set_cons_zero])
    refine wpAnyH_ready (rs := [11]) (by kernel_rfl) (by simp) ?_
    refine AllReadyH.cons (o := { dst := some 16, op := Op.call { callee := Callee.value (Operand.func 30), args := #[Operand.tmp 15], argTypes := #[24] }, type := 24, pos := "tell.go:47", after := #[{ on := 10, ground := Ground.data }, { on := 6, ground := Ground.chain }], guard := none }) rfl (fun K hK => ?_) AllReadyH.nil
    · skip
      refine stepCallF1 ?_ 30 (.tmp 15) #[24] ?_ (.agg #[.slice p1 n1 c1, .slice p2 n2 c2]) ?_ ?_ (enters_of Try.func30 (by kernel_rfl) rfl _ _) ?_
      · rfl
      · rfl
      · rfl
      · rfl
      refine (HCl.out _ U27).mono ?_
      rintro o x32 ⟨u1, u2, rfl, r1, r2, b32⟩
      refine ⟨_, rfl, ?_⟩
      obtain ⟨p1', c1', e1'⟩ := r1.len
      rw [HA.out] at e1'
      subst e1'
      obtain ⟨p2', c2', e2'⟩ := r2.len
      rw [HB.out] at e2'
      subst e2'
      have Y32 := U27.size
      have U32 := U27.trans b32
      have S32 := CfG.old U32 HS.out
      refine hK.out _ _ S32 (fun _ => ?_)
      clear hK K
      (try simp only [Act.put]); (try simp only [List.setIfInBounds_toArray]); (try simp only [List.set_cons_succ]); (try simp only [List.set_cons_zero])
      refine wpAnyH_ready (rs := [12]) (by kernel_rfl) (by simp) ?_
      refine AllReadyH.cons (o := { dst := none, op := Op.store 24 (Operand.tmp 4) (Operand.tmp 16), type := 0, pos := "tell.go:47", after := #[{ on := 11, ground := Ground.data }, { on := 11, ground := Ground.chain }, { on := 0, ground := Ground.phase }, { on := 1, ground := Ground.phase }, { on := 2, ground := Ground.phase }, { on := 3, ground := Ground.phase }, { on := 4, ground := Ground.phase }, { on := 5, ground := Ground.phase }, { on := 6, ground := Ground.phase }, { on := 7, ground := Ground.phase }, { on := 8, ground := Ground.phase }, { on := 9, ground := Ground.phase }, { on := 10, ground := Ground.phase }, { on := 11, ground := Ground.phase }], guard := none }) rfl (fun K hK => ?_) AllReadyH.nil
      · skip
        have T33 := T2.old U32 HT.out
        refine stepStoreC ?_ (.tmp 4) (.tmp 16) ?_ rb (.slice p1' n1 c1') (.slice p2' n2 c2') ?_ ?_ T33.there rfl rfl ?_
        · rfl
        · rfl
        · rfl
        · rfl
        have V33 := hid (Old.setCells (a := w) (b := rb) HRb.out [.slice p1' n1 c1', .slice p2' n2 c2'] 0 (HUw.out.trans U32))
        have G33 := hid (T33.set (.slice p1' n1 c1') (.slice p2' n2 c2'))
        have M1 := hid ((r1.chg (Chg.setCells rb [.slice p1' n1 c1', .slice p2' n2 c2'] 0 _) (fun g e => by have := (World.ownsRow.lt r1 g e).1; have := Y32; have := HPz.out; simp; omega)).mono (Nat.zero_le _))
        have M2 := hid ((r2.chg (Chg.setCells rb [.slice p1' n1 c1', .slice p2' n2 c2'] 0 _) (fun g e => by have := (World.ownsRow.lt r2 g e).1; have := Y32; have := HPz.out; simp; omega)).mono (Nat.zero_le _))
        have S33 := CfG.set S32 [.slice p1' n1 c1', .slice p2' n2 c2'] HNb.out.1 HNb.out.2
        refine hK.out _ _ S33 (fun _ => ?_)
        clear hK K
        (try simp only [Act.put]); (try simp only [List.setIfInBounds_toArray]); (try simp only [List.set_cons_succ]); (try simp only [List.set_cons_zero])
        refine wpAnyH_done (by kernel_rfl) ?_ _
        refine NoPanic.normal ?_
        obtain ⟨g0, g1⟩ := G33.out
        go_wp2
        refine bodyPost_ret (v := .agg #[.slice p1' n1 c1', .slice p2' n2 c2']) (by simp [results, Try.results20, go_sem, g0, g1]) rfl ⟨_, _, rfl, M1.out, M2.out, V33.out⟩
end Go.Proofs.Ytgpfmohaogppiaa
