/- rlog's Conf where there is one configuration; conditions: it lies in memory. -/
import Derived.Test.YtgpfmohaogppiaaL6
namespace Go.Proofs.Ytgpfmohaogppiaa
open Go.RowKit Go.Lib
set_option linter.unusedVariables false
set_option linter.unusedSimpArgs false
set_option maxRecDepth 20000
abbrev CfS (lb gc : Nat) (at0 : Int) (k1 k2 : Value) : World → Prop := fun wz => wz.cell? ⟨lb, 3, none⟩ = some (.slice (some ⟨gc, 0, none⟩) 1 1) ∧ wz.cell? ⟨gc, 0, none⟩ = some (.int .i64 at0) ∧ wz.cell? ⟨gc, 1, none⟩ = some k1 ∧ wz.cell? ⟨gc, 2, none⟩ = some k2
theorem CfS.old {lb gc : Nat} {at0 : Int} {k1 k2 : Value} {w w' : World} (u : Old w w') (h : CfS lb gc at0 k1 k2 w) : CfS lb gc at0 k1 k2 w' := ⟨u.keep h.1, u.keep h.2.1, u.keep h.2.2.1, u.keep h.2.2.2⟩
abbrev PbS (pb : Nat) (a b c : Value) : World → Prop := fun wz => wz.cell? ⟨pb, 0, none⟩ = some a ∧ wz.cell? ⟨pb, 1, none⟩ = some b ∧ wz.cell? ⟨pb, 2, none⟩ = some c
theorem PbS.old {pb : Nat} {a b c : Value} {w w' : World} (u : Old w w') (h : PbS pb a b c w) : PbS pb a b c w' := ⟨u.keep h.1, u.keep h.2.1, u.keep h.2.2⟩
theorem PbS.set {pb rb : Nat} {a b c : Value} {w : World} (h : PbS pb a b c w) (t : T2 rb w) (vs : List Value) (hn : pb ≠ rb) : PbS pb a b c (w.setCells rb 0 vs) :=
  ⟨(World.cell?_setCells_out rb vs 0 w ⟨pb, 0, none⟩ (fun e => absurd e hn)).trans h.1, (World.cell?_setCells_out rb vs 0 w ⟨pb, 1, none⟩ (fun e => absurd e hn)).trans h.2.1, (World.cell?_setCells_out rb vs 0 w ⟨pb, 2, none⟩ (fun e => absurd e hn)).trans h.2.2⟩
/-- A new variable of a configuration and its place. -/
structure P3 (rb : Nat) (w : World) : Prop where
  a : (w.cell? ⟨rb, 0, none⟩).isSome = true
  b : (w.cell? ⟨rb, 1, none⟩).isSome = true
  c : (w.cell? ⟨rb, 2, none⟩).isSome = true
  f : ∀ j, w.frozen? ⟨rb, j, none⟩ = false
theorem P3.new (w : World) : P3 w.heap.size (w.alloc (.cells #[.int .i64 0, .slice none 0 0, .slice none 0 0] 65)) := ⟨by simp, by simp, by simp, fun j => by simp⟩
theorem P3.there {rb : Nat} {w : World} (h : P3 rb w) : w.there rb 0 3 := fun j hj => by
  rw [Nat.zero_add]
  match j, hj with
  | 0, _ => exact ⟨h.a, h.f 0⟩
  | 1, _ => exact ⟨h.b, h.f 1⟩
  | 2, _ => exact ⟨h.c, h.f 2⟩
theorem P3.set {rb : Nat} {w : World} (h : P3 rb w) (v1 v2 v3 : Value) : PbS rb v1 v2 v3 (w.setCells rb 0 [v1, v2, v3]) := by
  have H := World.cell?_setCells_in rb [v1, v2, v3] 0 w (fun j hj => (h.there j hj).1)
  exact ⟨by simpa using H 0 (by simp), by simpa using H 1 (by simp), by simpa using H 2 (by simp)⟩
theorem infoPl : (Try.prog.info? 65).map (·.size) = some 3 := by kernel_rfl
theorem stepStoreP {ops : Array Oper} {o : Oper} {a : Act} {w : World} {K : Act → World → Prop} {Q : Exit → Act → World → Prop} {E : Prop} (hg : o.guard = none) (x y : Operand) (hop : o.op = Op.store 65 x y) (m : Nat) (u v t : Value)
    (hx : a.eval x = .pointer (some ⟨m, 0, none⟩)) (hy : a.eval y = .agg #[u, v, t]) (ht : w.there m 0 3) (h1 : u.oneCell' = true) (h2 : v.oneCell' = true) (h3 : t.oneCell' = true)
    (hK : K (a.put o.dst undef) (w.setCells m 0 [u, v, t])) :
    if Region.wanted o (yielded ops a.tmps) = true then Oper.wp Try.prog o a w K Q else E := by
  have hw : Region.wanted o (yielded ops a.tmps) = true := by simp [Region.wanted, hg]
  rw [if_pos hw]
  exact wp_store_mid _ x y hop m 0 _ hx hy ht infoPl (by simp [h1, h2, h3]) hK
theorem stepAllocP {ops : Array Oper} {o : Oper} {a : Act} {w : World} {K : Act → World → Prop} {Q : Exit → Act → World → Prop} {E : Prop} (hg : o.guard = none) (hop : o.op = Op.alloc 65)
    (hK : ∀ m w', m = w.heap.size → w' = w.alloc (.cells #[.int .i64 0, .slice none 0 0, .slice none 0 0] 65) → K (a.put o.dst (.pointer (some ⟨m, 0, none⟩))) w') :
    if Region.wanted o (yielded ops a.tmps) = true then Oper.wp Try.prog o a w K Q else E := by
  have hw : Region.wanted o (yielded ops a.tmps) = true := by simp [Region.wanted, hg]
  rw [if_pos hw]
  obtain ⟨d, p, t, ps, af, gd⟩ := o
  subst hop
  unfold Oper.wp execOp
  go_simp
  exact hK _ _ rfl rfl
set_option maxHeartbeats 4000000 in
set_option maxRecDepth 20000 in
theorem conf_one (lb gc : Nat) (at0 : Int) (v1 v2 : Value) (n1 n2 : Nat) (f1 f2 : Nat → Int) (w : World) (h : CfS lb gc at0 v1 v2 w) (h1 : NRowL w v1 n1 f1) (h2 : NRowL w v2 n2 f2) (s1 : Sh v1) (s2 : Sh v2) :
    Calls Try.prog 17 #[.pointer (some ⟨lb, 0, none⟩)] w fun e w' => ∃ u1 u2, e = .returned (.tuple #[.agg #[u1, u2], .int .i64 at0]) ∧ NRowL w' u1 n1 f1 ∧ NRowL w' u2 n2 f2 ∧ Old w w' := by
  have HC0 := hid (fun (W : World) (u : Old w W) => clone_any v1 v2 n1 n2 f1 f2 W (h1.old u) (h2.old u) s1 s2)
  obtain ⟨_, p1, c1, rfl, _⟩ := h1
  obtain ⟨_, p2, c2, rfl, _⟩ := h2
  clear s1 s2
  go_enter Try.func17, Try.ntmps17
  go_upto_region 1 with (fail)
  have HUw := hid (show Old w (w.alloc (.cells #[.slice none 0 0, .slice none 0 0] 24)) from (Old.refl w).alloc _)
  have HT := hid (show T2 w.heap.size (w.alloc (.cells #[.slice none 0 0, .slice none 0 0] 24)) from ⟨by simp, by simp, by simp, by simp⟩)
  have HS := hid (CfS.old HUw.out h)
  have HRb := hid (Nat.le_refl w.heap.size)
  have HPz : Hid (w.heap.size < (w.alloc (.cells #[.slice none 0 0, .slice none 0 0] 24)).heap.size) := hid (by simp)
  generalize w.alloc (.cells #[.slice none 0 0, .slice none 0 0] 24) = w1 at *
  have HCl := hid (fun (W : World) (u : Old w1 W) => HC0.out W (HUw.out.trans u))
  clear HC0 h
  obtain ⟨rb, hrb⟩ : ∃ rb, w.heap.size = rb := ⟨_, rfl⟩
  rw [hrb] at HT HPz ⊢
  have HRb : Hid (w.heap.size ≤ rb) := hid (Nat.le_of_eq hrb)
  clear hrb
  have hw0 : IntKind.i64.wrap 0 = 0 := by decide
  have hw1 : (0 : Int) ≤ 0 ∧ (0 : Int) < 1 := by decide
  refine wp_region_noPanic ?_
  refine wp_region_held_drew (S := CfS lb gc at0 (.slice p1 n1 c1) (.slice p2 n2 c2)) (by kernel_rfl) ?_ (fun hHeld => ?_)
  · exact CfS.old ((Old.refl _).drew) HS.out
  (try simp only [Act.put]); (try simp only [List.setIfInBounds_toArray]); (try simp only [List.set_cons_succ]); (try simp only [List.set_cons_zero])
  clear hHeld
  refine wpAnyH_take (i := 0) (oi := { dst := some 5, op := Op.move (Operand.tmp 0), type := 26, pos := "tell.go:41", after := #[], guard := none }) (v := ?vk7) rfl (by kernel_rfl) (by kernel_rfl) (by kernel_rfl) (fun _ _ _ h => h) (Or.inl ⟨by rfl, ?hk7⟩) (CfS.old ((Old.refl _).drew) HS.out) ?rk7
  case hk7 => (intro wz hSw; (try dsimp only at hSw); go_simp; (try simp only [hw0, if_pos hw1, Int.toNat_zero, Nat.zero_mul, Nat.zero_add]); try with_reducible rfl)
  (try simp only [Act.put]); (try simp only [List.setIfInBounds_toArray]); (try simp only [List.set_cons_succ]); (try simp only [List.set_cons_zero])
  refine wpAnyH_take (i := 1) (oi := { dst := some 6, op := Op.nilCheck (Operand.tmp 5), type := 0, pos := "tell.go:41", after := #[{ on := 0, ground := Ground.data }], guard := none }) (v := ?vk8) rfl (by kernel_rfl) (by kernel_rfl) (by kernel_rfl) (fun _ _ _ h => h) (Or.inl ⟨by rfl, ?hk8⟩) (CfS.old ((Old.refl _).drew) HS.out) ?rk8
  case hk8 => (intro wz hSw; (try dsimp only at hSw); go_simp; (try simp only [hw0, if_pos hw1, Int.toNat_zero, Nat.zero_mul, Nat.zero_add]); try with_reducible rfl)
  (try simp only [Act.put]); (try simp only [List.setIfInBounds_toArray]); (try simp only [List.set_cons_succ]); (try simp only [List.set_cons_zero])
  refine wpAnyH_take (i := 2) (oi := { dst := some 7, op := Op.fieldAddr 68 (Operand.tmp 6) 3, type := 0, pos := "tell.go:41", after := #[{ on := 1, ground := Ground.data }], guard := none }) (v := ?vk9) rfl (by kernel_rfl) (by kernel_rfl) (by kernel_rfl) (fun _ _ _ h => h) (Or.inl ⟨by rfl, ?hk9⟩) (CfS.old ((Old.refl _).drew) HS.out) ?rk9
  case hk9 => (intro wz hSw; (try dsimp only at hSw); go_simp; (try simp only [hw0, if_pos hw1, Int.toNat_zero, Nat.zero_mul, Nat.zero_add]); try with_reducible rfl)
  (try simp only [Act.put]); (try simp only [List.setIfInBounds_toArray]); (try simp only [List.set_cons_succ]); (try simp only [List.set_cons_zero])
  refine wpAnyH_take (i := 3) (oi := { dst := some 8, op := Op.load 66 (Operand.tmp 7), type := 66, pos := "tell.go:41", after := #[{ on := 2, ground := Ground.data }], guard := none }) (v := ?vk10) rfl (by kernel_rfl) (by kernel_rfl) (by kernel_rfl) (fun _ _ _ h => h) (Or.inl ⟨by rfl, ?hk10⟩) (CfS.old ((Old.refl _).drew) HS.out) ?rk10
  case hk10 => (intro wz hSw; (try dsimp only at hSw); go_simp; (try simp only [hw0, if_pos hw1, Int.toNat_zero, Nat.zero_mul, Nat.zero_add]); try with_reducible rfl)
  (try simp only [Act.put]); (try simp only [List.setIfInBounds_toArray]); (try simp only [List.set_cons_succ]); (try simp only [List.set_cons_zero])
  refine wpAnyH_take (i := 4) (oi := { dst := some 9, op := Op.move (Operand.tmp 0), type := 26, pos := "tell.go:41", after := #[], guard := none }) (v := ?vk11) rfl (by kernel_rfl) (by kernel_rfl) (by kernel_rfl) (fun _ _ _ h => h) (Or.inl ⟨by rfl, ?hk11⟩) (CfS.old ((Old.refl _).drew) HS.out) ?rk11
  case hk11 => (intro wz hSw; (try dsimp only at hSw); go_simp; (try simp only [hw0, if_pos hw1, Int.toNat_zero, Nat.zero_mul, Nat.zero_add]); try with_reducible rfl)
  (try simp only [Act.put]); (try simp only [List.setIfInBounds_toArray]); (try simp only [List.set_cons_succ]); (try simp only [List.set_cons_zero])
  refine wpAnyH_take (i := 5) (oi := { dst := some 10, op := Op.nilCheck (Operand.tmp 9), type := 0, pos := "tell.go:41", after := #[{ on := 4, ground := Ground.data }], guard := none }) (v := ?vk12) rfl (by kernel_rfl) (by kernel_rfl) (by kernel_rfl) (fun _ _ _ h => h) (Or.inl ⟨by rfl, ?hk12⟩) (CfS.old ((Old.refl _).drew) HS.out) ?rk12
  case hk12 => (intro wz hSw; (try dsimp only at hSw); go_simp; (try simp only [hw0, if_pos hw1, Int.toNat_zero, Nat.zero_mul, Nat.zero_add]); try with_reducible rfl)
  (try simp only [Act.put]); (try simp only [List.setIfInBounds_toArray]); (try simp only [List.set_cons_succ]); (try simp only [List.set_cons_zero])
  refine wpAnyH_take (i := 6) (oi := { dst := some 11, op := Op.fieldAddr 68 (Operand.tmp 10) 3, type := 0, pos := "tell.go:41", after := #[{ on := 5, ground := Ground.data }], guard := none }) (v := ?vk13) rfl (by kernel_rfl) (by kernel_rfl) (by kernel_rfl) (fun _ _ _ h => h) (Or.inl ⟨by rfl, ?hk13⟩) (CfS.old ((Old.refl _).drew) HS.out) ?rk13
  case hk13 => (intro wz hSw; (try dsimp only at hSw); go_simp; (try simp only [hw0, if_pos hw1, Int.toNat_zero, Nat.zero_mul, Nat.zero_add]); try with_reducible rfl)
  (try simp only [Act.put]); (try simp only [List.setIfInBounds_toArray]); (try simp only [List.set_cons_succ]); (try simp only [List.set_cons_zero])
  refine wpAnyH_take (i := 7) (oi := { dst := some 12, op := Op.load 66 (Operand.tmp 11), type := 66, pos := "tell.go:41", after := #[{ on := 6, ground := Ground.data }], guard := none }) (v := ?vk14) rfl (by kernel_rfl) (by kernel_rfl) (by kernel_rfl) (fun _ _ _ h => h) (Or.inl ⟨by rfl, ?hk14⟩) (CfS.old ((Old.refl _).drew) HS.out) ?rk14
  case hk14 => (intro wz hSw; (try dsimp only at hSw); go_simp; (try simp only [hw0, if_pos hw1, Int.toNat_zero, Nat.zero_mul, Nat.zero_add]); try with_reducible rfl)
  (try simp only [Act.put]); (try simp only [List.setIfInBounds_toArray]); (try simp only [List.set_cons_succ]); (try simp only [List.set_cons_zero])
  refine wpAnyH_take (i := 8) (oi := { dst := some 13, op := Op.call { callee := Callee.builtin Builtin.len, args := #[Operand.tmp 12], argTypes := #[66] }, type := 3, pos := "tell.go:41", after := #[{ on := 7, ground := Ground.data }], guard := none }) (v := ?vk15) rfl (by kernel_rfl) (by kernel_rfl) (by kernel_rfl) (fun _ _ _ h => h) (Or.inl ⟨by rfl, ?hk15⟩) (CfS.old ((Old.refl _).drew) HS.out) ?rk15
  case hk15 => (intro wz hSw; (try dsimp only at hSw); go_simp; (try simp only [hw0, if_pos hw1, Int.toNat_zero, Nat.zero_mul, Nat.zero_add]); try with_reducible rfl)
  (try simp only [Act.put]); (try simp only [List.setIfInBounds_toArray]); (try simp only [List.set_cons_succ]); (try simp only [List.set_cons_zero])
  refine wpAnyH_take (i := 9) (oi := { dst := some 14, op := Op.binOp BinOp.sub 3 (Operand.tmp 13) (Operand.const (Value.int IntKind.i64 1)) 3, type := 3, pos := "tell.go:41", after := #[{ on := 8, ground := Ground.data }], guard := none }) (v := ?vk16) rfl (by kernel_rfl) (by kernel_rfl) (by kernel_rfl) (fun _ _ _ h => h) (Or.inl ⟨by rfl, ?hk16⟩) (CfS.old ((Old.refl _).drew) HS.out) ?rk16
  case hk16 => (intro wz hSw; (try dsimp only at hSw); go_simp; (try simp only [hw0, if_pos hw1, Int.toNat_zero, Nat.zero_mul, Nat.zero_add]); try with_reducible rfl)
  (try simp only [Act.put]); (try simp only [List.setIfInBounds_toArray]); (try simp only [List.set_cons_succ]); (try simp only [List.set_cons_zero])
  refine wpAnyH_take (i := 10) (oi := { dst := some 15, op := Op.indexAddr 66 (Operand.tmp 8) (Operand.tmp 14), type := 0, pos := "tell.go:41", after := #[{ on := 3, ground := Ground.data }, { on := 9, ground := Ground.data }], guard := none }) (v := ?vk17) rfl (by kernel_rfl) (by kernel_rfl) (by kernel_rfl) (fun _ _ _ h => h) (Or.inl ⟨by rfl, ?hk17⟩) (CfS.old ((Old.refl _).drew) HS.out) ?rk17
  case hk17 => (intro wz hSw; (try dsimp only at hSw); go_simp; (try simp only [hw0, if_pos hw1, Int.toNat_zero, Nat.zero_mul, Nat.zero_add]); try with_reducible rfl)
  (try simp only [Act.put]); (try simp only [List.setIfInBounds_toArray]); (try simp only [List.set_cons_succ]); (try simp only [List.set_cons_zero])
  refine wpAnyH_take (i := 11) (oi := { dst := some 16, op := Op.load 65 (Operand.tmp 15), type := 65, pos := "tell.go:41", after := #[{ on := 10, ground := Ground.data }], guard := none }) (v := ?vk18) rfl (by kernel_rfl) (by kernel_rfl) (by kernel_rfl) (fun _ _ _ h => h) (Or.inl ⟨by rfl, ?hk18⟩) (CfS.old ((Old.refl _).drew) HS.out) ?rk18
  case hk18 => (intro wz hSw; (try dsimp only at hSw); go_simp; (try simp only [hw0, if_pos hw1, Int.toNat_zero, Nat.zero_mul, Nat.zero_add]); try with_reducible rfl)
  (try simp only [Act.put]); (try simp only [List.setIfInBounds_toArray]); (try simp only [List.set_cons_succ]); (try simp only [List.set_cons_zero])
  refine wpAnyH_ready (rs := [12]) (by kernel_rfl) (by simp) ?_
  refine AllReadyH.cons (o := { dst := some 4, op := Op.alloc 65, type := 0, pos := "tell.go:41", after := #[], guard := none }) rfl (fun K hK => ?_) AllReadyH.nil
  · skip
    refine stepAllocP ?_ ?_ ?_
    · rfl
    · rfl
    intro m19 y19 hm19 hy19
    have V19 : Old w1 y19 := by rw [hy19]; exact ((Old.refl w1).drew).alloc _
    have P19 : P3 m19 y19 := by rw [hy19, hm19]; exact P3.new _
    have Z19 : w1.heap.size ≤ m19 := by rw [hm19]; exact ((Old.refl w1).drew).size
    have S19 := CfS.old V19 HS.out
    clear hm19 hy19
    refine hK.out _ _ S19 (fun _ => ?_)
    clear hK K
    (try simp only [Act.put]); (try simp only [List.setIfInBounds_toArray]); (try simp only [List.set_cons_succ]); (try simp only [List.set_cons_zero])
    refine wpAnyH_ready (rs := [13]) (by kernel_rfl) (by simp) ?_
    refine AllReadyH.cons (o := { dst := none, op := Op.store 65 (Operand.tmp 4) (Operand.tmp 16), type := 0, pos := "tell.go:41", after := #[{ on := 12, ground := Ground.data }, { on := 11, ground := Ground.data }, { on := 0, ground := Ground.phase }, { on := 1, ground := Ground.phase }, { on := 2, ground := Ground.phase }, { on := 3, ground := Ground.phase }, { on := 4, ground := Ground.phase }, { on := 5, ground := Ground.phase }, { on := 6, ground := Ground.phase }, { on := 7, ground := Ground.phase }, { on := 8, ground := Ground.phase }, { on := 9, ground := Ground.phase }, { on := 10, ground := Ground.phase }, { on := 11, ground := Ground.phase }, { on := 12, ground := Ground.phase }], guard := none }) rfl (fun K hK => ?_) AllReadyH.nil
    · skip
      refine stepStoreP ?_ (.tmp 4) (.tmp 16) ?_ m19 (.int .i64 at0) (.slice p1 n1 c1) (.slice p2 n2 c2) ?_ ?_ P19.there rfl rfl rfl ?_
      · rfl
      · rfl
      · rfl
      · rfl
      have V20 : Old w1 _ := Old.setCells Z19 [.int .i64 at0, .slice p1 n1 c1, .slice p2 n2 c2] 0 V19
      have G20 := P19.set (.int .i64 at0) (.slice p1 n1 c1) (.slice p2 n2 c2)
      have S20 := CfS.old V20 HS.out
      refine hK.out _ _ S20 (fun _ => ?_)
      clear hK K
      (try simp only [Act.put]); (try simp only [List.setIfInBounds_toArray]); (try simp only [List.set_cons_succ]); (try simp only [List.set_cons_zero])
      refine wpAnyH_done (by kernel_rfl) ?_ _
      refine NoPanic.normal ?_
      have UZ := hid V20
      have GZ := hid G20
      have HPR := hid (show m19 ≠ rb from by have := Z19; have := HPz.out; omega)
      generalize hwz : World.setCells _ m19 0 _ = wz at *
      generalize m19 = pb at *
      clear hwz
      simp only [Exit.then]
      go_upto_region 2 with (fail)
      have S0 := GZ.out
      refine wp_region_noPanic ?_
      refine wp_region_held_drew (S := PbS pb (.int .i64 at0) (.slice p1 n1 c1) (.slice p2 n2 c2)) (by kernel_rfl) ?_ (fun hHeld => ?_)
      · exact PbS.old ((Old.refl _).drew) S0
      (try simp only [Act.put]); (try simp only [List.setIfInBounds_toArray]); (try simp only [List.set_cons_succ]); (try simp only [List.set_cons_zero])
      clear hHeld
      refine wpAnyH_take (i := 0) (oi := { dst := some 17, op := Op.fieldAddr 65 (Operand.tmp 4) 1, type := 0, pos := "tell.go:42", after := #[], guard := none }) (v := ?vk1) rfl (by kernel_rfl) (by kernel_rfl) (by kernel_rfl) (fun _ _ _ h => h) (Or.inl ⟨by rfl, ?hk1⟩) (PbS.old ((Old.refl _).drew) S0) ?rk1
      case hk1 => (intro wz hSw; (try dsimp only at hSw); go_simp; (try simp only [hw0, if_pos hw1, Int.toNat_zero, Nat.zero_mul, Nat.zero_add]); try with_reducible rfl)
      (try simp only [Act.put]); (try simp only [List.setIfInBounds_toArray]); (try simp only [List.set_cons_succ]); (try simp only [List.set_cons_zero])
      refine wpAnyH_take (i := 1) (oi := { dst := some 18, op := Op.load 24 (Operand.tmp 17), type := 24, pos := "tell.go:42", after := #[{ on := 0, ground := Ground.data }], guard := none }) (v := ?vk2) rfl (by kernel_rfl) (by kernel_rfl) (by kernel_rfl) (fun _ _ _ h => h) (Or.inl ⟨by rfl, ?hk2⟩) (PbS.old ((Old.refl _).drew) S0) ?rk2
      case hk2 => (intro wz hSw; (try dsimp only at hSw); go_simp; (try simp only [hw0, if_pos hw1, Int.toNat_zero, Nat.zero_mul, Nat.zero_add]); try with_reducible rfl)
      (try simp only [Act.put]); (try simp only [List.setIfInBounds_toArray]); (try simp only [List.set_cons_succ]); (try simp only [List.set_cons_zero])
      refine wpAnyH_take (i := 3) (oi := { dst := some 20, op := Op.fieldAddr 65 (Operand.tmp 4) 0, type := 0, pos := "tell.go:42", after := #[{ on := 5, ground := Ground.gcOnly Departure.lateStores }], guard := none }) (v := ?vk3) rfl (by kernel_rfl) (by kernel_rfl) (by kernel_rfl) (fun _ _ _ h => h) (Or.inl ⟨by rfl, ?hk3⟩) (PbS.old ((Old.refl _).drew) S0) ?rk3
      case hk3 => (intro wz hSw; (try dsimp only at hSw); go_simp; (try simp only [hw0, if_pos hw1, Int.toNat_zero, Nat.zero_mul, Nat.zero_add]); try with_reducible rfl)
      (try simp only [Act.put]); (try simp only [List.setIfInBounds_toArray]); (try simp only [List.set_cons_succ]); (try simp only [List.set_cons_zero])
      refine wpAnyH_take (i := 4) (oi := { dst := some 21, op := Op.load 2 (Operand.tmp 20), type := 2, pos := "tell.go:42", after := #[{ on := 3, ground := Ground.data }, { on := 5, ground := Ground.gcOnly Departure.lateStores }], guard := none }) (v := ?vk4) rfl (by kernel_rfl) (by kernel_rfl) (by kernel_rfl) (fun _ _ _ h => h) (Or.inl ⟨by rfl, ?hk4⟩) (PbS.old ((Old.refl _).drew) S0) ?rk4
      case hk4 => (intro wz hSw; (try dsimp only at hSw); go_simp; (try simp only [hw0, if_pos hw1, Int.toNat_zero, Nat.zero_mul, Nat.zero_add]); try with_reducible rfl)
      (try simp only [Act.put]); (try simp only [List.setIfInBounds_toArray]); (try simp only [List.set_cons_succ]); (try simp only [List.set_cons_zero])
      refine wpAnyH_ready (rs := [2]) (by kernel_rfl) (by simp) ?_
      refine AllReadyH.cons (o := { dst := some 19, op := Op.call { callee := Callee.value (Operand.func 30), args := #[Operand.tmp 18], argTypes := #[24] }, type := 24, pos := "tell.go:42", after := #[{ on := 1, ground := Ground.data }], guard := none }) rfl (fun K hK => ?_) AllReadyH.nil
      · skip
        refine stepCallF1 ?_ 30 (.tmp 18) #[24] ?_ (.agg #[.slice p1 n1 c1, .slice p2 n2 c2]) ?_ ?_ (enters_of Try.func30 (by kernel_rfl) rfl _ _) ?_
        · rfl
        · rfl
        · rfl
        · rfl
        refine (HCl.out _ (UZ.out.trans ((Old.refl _).drew))).mono ?_
        rintro o x5 ⟨u1, u2, rfl, r1, r2, _, _, b5⟩
        refine ⟨_, rfl, ?_⟩
        obtain ⟨p1', c1', e1', _⟩ := r1.shape
        subst e1'
        obtain ⟨p2', c2', e2', _⟩ := r2.shape
        subst e2'
        have U5 := ((Old.refl _).drew).trans b5
        have S5 := PbS.old U5 S0
        refine hK.out _ _ S5 (fun _ => ?_)
        clear hK K
        (try simp only [Act.put]); (try simp only [List.setIfInBounds_toArray]); (try simp only [List.set_cons_succ]); (try simp only [List.set_cons_zero])
        refine wpAnyH_ready (rs := [5]) (by kernel_rfl) (by simp) ?_
        refine AllReadyH.cons (o := { dst := none, op := Op.store 24 (Operand.tmp 2) (Operand.tmp 19), type := 0, pos := "tell.go:42", after := #[{ on := 2, ground := Ground.data }, { on := 2, ground := Ground.chain }, { on := 0, ground := Ground.phase }, { on := 1, ground := Ground.phase }, { on := 2, ground := Ground.phase }, { on := 3, ground := Ground.textOnly Departure.lateStores }, { on := 4, ground := Ground.textOnly Departure.lateStores }], guard := none }) rfl (fun K hK => ?_) AllReadyH.nil
        · skip
          have T6 := T2.old (UZ.out.trans U5) HT.out
          refine stepStoreC ?_ (.tmp 2) (.tmp 19) ?_ rb (.slice p1' n1 c1') (.slice p2' n2 c2') ?_ ?_ T6.there rfl rfl ?_
          · rfl
          · rfl
          · rfl
          · rfl
          have V6 := hid (Old.setCells (a := w) (b := rb) HRb.out [.slice p1' n1 c1', .slice p2' n2 c2'] 0 (HUw.out.trans (UZ.out.trans U5)))
          have G6 := hid (T6.set (.slice p1' n1 c1') (.slice p2' n2 c2'))
          have M1 := hid (NRowL.setCells r1 T6 (.slice p1' n1 c1') (.slice p2' n2 c2'))
          have M2 := hid (NRowL.setCells r2 T6 (.slice p1' n1 c1') (.slice p2' n2 c2'))
          have S6 := PbS.set S5 T6 [.slice p1' n1 c1', .slice p2' n2 c2'] HPR.out
          refine hK.out _ _ S6 (fun _ => ?_)
          clear hK K
          (try simp only [Act.put]); (try simp only [List.setIfInBounds_toArray]); (try simp only [List.set_cons_succ]); (try simp only [List.set_cons_zero])
          refine wpAnyH_ready (rs := [6]) (by kernel_rfl) (by simp) ?_
          refine AllReadyH.cons (o := { dst := some 3, op := Op.assign (Operand.tmp 21), type := 2, pos := "tell.go:42", after := #[{ on := 4, ground := Ground.data }, { on := 5, ground := Ground.chain }, { on := 0, ground := Ground.phase }, { on := 1, ground := Ground.phase }, { on := 2, ground := Ground.phase }, { on := 3, ground := Ground.phase }, { on := 4, ground := Ground.phase }, { on := 5, ground := Ground.phase }], guard := none }) rfl (fun K hK => ?_) AllReadyH.nil
          · skip
            go_simp
            refine hK.out _ _ S6 (fun _ => ?_)
            clear hK K
            (try simp only [Act.put]); (try simp only [List.setIfInBounds_toArray]); (try simp only [List.set_cons_succ]); (try simp only [List.set_cons_zero])
            refine wpAnyH_done (by kernel_rfl) ?_ _
            refine NoPanic.normal ?_
            obtain ⟨g0, g1⟩ := G6.out
            go_wp2
            refine bodyPost_ret (v := .tuple #[.agg #[.slice p1' n1 c1', .slice p2' n2 c2'], .int .i64 at0]) (by simp [results, Try.results17, go_sem, g0, g1]) rfl ⟨_, _, rfl, M1.out, M2.out, V6.out⟩
end Go.Proofs.Ytgpfmohaogppiaa
