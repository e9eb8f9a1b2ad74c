/- The document's Loose and Read of layer 5; conditions: the rows lie in memory. -/
import Derived.Test.YtfphopleniidfaaGreatDoorQ5e
namespace Go.Proofs.YtfphopleniidfaaGreatDoor
open Go.RowKit Go.Lib
set_option linter.unusedVariables false
set_option linter.unusedSimpArgs false
set_option maxRecDepth 20000
theorem FC2.old {g : Nat} {x y : Value} {w w' : World} (o : Old w w') (h : w.cell? ⟨g, 1, none⟩ = some x ∧ w.cell? ⟨g, 2, none⟩ = some y) : w'.cell? ⟨g, 1, none⟩ = some x ∧ w'.cell? ⟨g, 2, none⟩ = some y := ⟨o.keep h.1, o.keep h.2⟩
/-- The loose ones of the first sectors. -/
def lowK (n s : List Nat) : Nat → List Nat
  | 0 => []
  | i + 1 => if sec n (32 * i) = sec s (32 * i) then lowK n s i else lowK n s i ++ [i]
theorem lowK_loo (n s : List Nat) : ∀ i, looK n s i = (lowK n s i).map (32 * ·)
  | 0 => rfl
  | i + 1 => by
    unfold looK lowK
    rw [lowK_loo n s i]
    split <;> simp
def lowL (n s : List Nat) : List Nat := lowK n s (nSec n)
theorem lowL_loo (n s : List Nat) : looL n s = (lowL n s).map (32 * ·) := lowK_loo n s _
theorem lowL_len (n s : List Nat) : (lowL n s).length = (looL n s).length := by rw [lowL_loo, List.length_map]
theorem lowK_len (n s : List Nat) : ∀ i, (lowK n s i).length ≤ i
  | 0 => by simp [lowK]
  | i + 1 => by
    have := lowK_len n s i
    unfold lowK
    split
    · omega
    · simp; omega
theorem prt_sec (L : List Nat) (k : Nat) : prt L k (k + 32) = sec L k := by
  unfold prt sec
  rw [List.drop_take, Nat.add_sub_cancel_left]
set_option maxHeartbeats 4000000 in
set_option maxRecDepth 20000 in
theorem rloose_any (f : Fi) (w : World) (h : FiAt w f) : Calls Tryz.prog 32 #[.agg #[.string f.nm, .slice f.na f.now.length f.nc, .slice f.sa f.safe.length f.sc]] w fun e w' => ∃ v', e = .returned v' ∧ OwnI w.heap.size w' v' (nI (lowL f.now f.safe)) ∧ Old w w' := by
  obtain ⟨fn, na, nc, fnow, sa, sc, fsafe⟩ := f
  obtain ⟨h1, h2, h3, h4⟩ := h
  dsimp only [Fi.vn, Fi.vs] at h1 h2 h3 h4 ⊢
  have HSc := hid (fun (k : Nat) (hk : k ≤ 100000) (W : World) (u : Old w W) => show Calls Tryz.prog 34 #[.slice na fnow.length nc, .int .i64 (k : Nat), .int .i64 ((k + 32 : Nat) : Int)] W (NewRow W (sec fnow k)) from by have := part_any na nc fnow k (k + 32) W (h1.old u).row h3 (by omega) (by omega); rw [prt_sec] at this; exact this)
  have HTc := hid (fun (k : Nat) (hk : k ≤ 100000) (W : World) (u : Old w W) => show Calls Tryz.prog 34 #[.slice sa fsafe.length sc, .int .i64 (k : Nat), .int .i64 ((k + 32 : Nat) : Int)] W (NewRow W (sec fsafe k)) from by have := part_any sa sc fsafe k (k + 32) W (h2.old u).row h4 (by omega) (by omega); rw [prt_sec] at this; exact this)
  have HK := hid (fun i => show lowK fnow fsafe (i + 1) = if sec fnow (32 * i) = sec fsafe (32 * i) then lowK fnow fsafe i else lowK fnow fsafe i ++ [i] from rfl)
  have HKl := hid (fun i => lowK_len fnow fsafe i)
  have hLq : lowL fnow fsafe = lowK fnow fsafe (nSec fnow) := rfl
  have hNs : nSec fnow = (fnow.length + 31) / 32 := rfl
  rw [hLq]
  clear h1 h2 hLq
  generalize fnow.length = ln at *
  generalize fsafe.length = ls at *
  generalize nSec fnow = N at *
  have HNs := hid hNs
  have HLn := hid h3
  clear hNs h3 h4
  go_enter Tryz.func32, Tryz.ntmps32
  go_upto_region 1 with (fail)
  have HB1 := hid (alloc_at w (.cells #[.string fn, .slice na ln nc, .slice sa ls sc] 51))
  have HU := hid (show Old w (w.alloc (.cells #[.string fn, .slice na ln nc, .slice sa ls sc] 51)) from (Old.refl w).alloc _)
  generalize w.alloc (.cells #[.string fn, .slice na ln nc, .slice sa ls sc] 51) = w0 at *
  obtain ⟨g1, hg1⟩ : ∃ g1, g1 = w.heap.size := ⟨_, rfl⟩
  rw [← hg1] at HB1 ⊢
  clear hg1
  go_upto_region 2 with (fail)
  have HE := hid (show OwnI w0.heap.size (w0.alloc (.cells #[] 3)) (.slice (some ⟨w0.heap.size, 0, none⟩) 0 0) (nI (lowK fnow fsafe 0)) from World.ownsRow_made w0 #[] 0 (Nat.le_refl _) (by unfold maxLen; omega) rfl)
  have HU0 := hid (show Old w0 (w0.alloc (.cells #[] 3)) from (Old.refl w0).alloc _)
  generalize w0.alloc (.cells #[] 3) = wa at *
  obtain ⟨g2, hg2⟩ : ∃ g2, g2 = w0.heap.size := ⟨_, rfl⟩
  have HE2 := hid (show OwnI w0.heap.size wa (.slice (some ⟨g2, 0, none⟩) 0 0) (nI (lowK fnow fsafe 0)) from by rw [hg2]; exact HE.out)
  rw [← hg2]
  clear hg2 HE
  go_wp2
  go_loopw [3, 4] (fun st a wr => ∃ i : Nat, i ≤ N ∧ a = .int .i64 (i : Nat) ∧ OwnI w0.heap.size wr st (nI (lowK fnow fsafe i)) ∧ Old w0 wr) (fun _ a _ => N - (intOf a).toNat)
  case atStart => exact ⟨0, Nat.zero_le _, rfl, HE2.out, HU0.out⟩
  case round =>
    obtain ⟨i, hi, rfl, ho, hu⟩ := hrel
    obtain ⟨pb, cb, e⟩ := ho.len
    obtain ⟨l1, hl1⟩ : ∃ l1, (nI (lowK fnow fsafe i)).length = l1 := ⟨_, rfl⟩
    rw [hl1] at e
    subst e
    have HO := hid ho
    have UU := hid hu
    have HLl := hid hl1
    have hl1' : l1 ≤ 3000 := by have h1 := HKl.out i; have h2 := HNs.out; have := HLn.out; rw [← hl1]; simp [nI]; omega
    obtain ⟨x0, x1, x2, -, -, -⟩ := box3 (hu.block HB1.out)
    have HFC := hid (show wr.cell? ⟨g1, 1, none⟩ = some (.slice na ln nc) ∧ wr.cell? ⟨g1, 2, none⟩ = some (.slice sa ls sc) from ⟨x1, x2⟩)
    clear ho hu hl1 HE2
    have hN := HNs.out
    have hLn := HLn.out
    obtain ⟨t, ht⟩ : ∃ t, t = 32 * i := ⟨_, rfl⟩
    have lw1 : IntKind.i64.wrap ((i : Int) * 32) = (t : Int) := by rw [IntKind.wrap_i64]; omega
    by_cases hit : i < N
    · have l0 : (t : Int) < (ln : Int) := by omega
      obtain ⟨t2, ht2⟩ : ∃ t2, t2 = t + 32 := ⟨_, rfl⟩
      have lw2 : IntKind.i64.wrap ((t : Int) + 32) = (t2 : Int) := by rw [IntKind.wrap_i64]; omega
      have HP1 := hid (fun (W : World) (u : Old wr W) => HSc.out t (by omega) W (HU.out.trans (UU.out.trans u)))
      have HP2 := hid (fun (W : World) (u : Old wr W) => HTc.out t (by omega) W (HU.out.trans (UU.out.trans u)))
      rw [← ht2] at HP1 HP2
      have HKi := HK.out i
      rw [← ht] at HKi
      have l5 : (i : Int) ≤ 3000 := by omega
      have HKi := hid HKi
      clear hN hLn HSc HTc HK ht ht2
      generalize sec fnow t = M1 at *
      generalize sec fsafe t = M2 at *
      go_upto_region 5 with (fail)
      clear x0 x1 x2
      by_cases hE : M1 = M2
      · have HDe := hid (decide_eq_true hE)
        have HSt := hid (show lowK fnow fsafe (i + 1) = lowK fnow fsafe i from by rw [HKi.out, if_pos hE])
        clear HKi hE
        refine wp_region_noPanic ?_
        refine wp_region_held_drew (S := fun wz => wz.cell? ⟨g1, 1, none⟩ = some (.slice na ln nc) ∧ wz.cell? ⟨g1, 2, none⟩ = some (.slice sa ls sc)) (by kernel_rfl) ?_ (fun hHeld => ?_)
        · exact (FC2.old ((Old.refl wr).drew) HFC.out)
        (try simp only [Act.put]); (try simp only [List.setIfInBounds_toArray]); (try simp only [List.set_cons_succ]); (try simp only [List.set_cons_zero])
        clear hHeld
        refine wpAnyH_take (i := 0) (oi := { dst := some 14, op := Op.fieldAddr 51 (Operand.tmp 1) 1, type := 0, pos := "ref.go:167", after := #[], guard := none }) (v := ?vk1) rfl (by kernel_rfl) (by kernel_rfl) (by kernel_rfl) (fun _ _ _ h => h) (Or.inl ⟨by rfl, ?hk1⟩) (FC2.old ((Old.refl wr).drew) HFC.out) ?rk1
        case hk1 => (intro wz hSw; (try dsimp only at hSw); go_simp; try with_reducible rfl)
        (try simp only [Act.put]); (try simp only [List.setIfInBounds_toArray]); (try simp only [List.set_cons_succ]); (try simp only [List.set_cons_zero])
        refine wpAnyH_take (i := 1) (oi := { dst := some 15, op := Op.load 49 (Operand.tmp 14), type := 49, pos := "ref.go:167", after := #[{ on := 0, ground := Ground.data }], guard := none }) (v := ?vk2) rfl (by kernel_rfl) (by kernel_rfl) (by kernel_rfl) (fun _ _ _ h => h) (Or.inl ⟨by rfl, ?hk2⟩) (FC2.old ((Old.refl wr).drew) HFC.out) ?rk2
        case hk2 => (intro wz hSw; (try dsimp only at hSw); go_simp; try with_reducible rfl)
        (try simp only [Act.put]); (try simp only [List.setIfInBounds_toArray]); (try simp only [List.set_cons_succ]); (try simp only [List.set_cons_zero])
        refine wpAnyH_take (i := 2) (oi := { dst := some 16, op := Op.move (Operand.tmp 4), type := 3, pos := "ref.go:167", after := #[], guard := none }) (v := ?vk3) rfl (by kernel_rfl) (by kernel_rfl) (by kernel_rfl) (fun _ _ _ h => h) (Or.inl ⟨by rfl, ?hk3⟩) (FC2.old ((Old.refl wr).drew) HFC.out) ?rk3
        case hk3 => (intro wz hSw; (try dsimp only at hSw); go_simp; try with_reducible rfl)
        (try simp only [Act.put]); (try simp only [List.setIfInBounds_toArray]); (try simp only [List.set_cons_succ]); (try simp only [List.set_cons_zero])
        refine wpAnyH_take (i := 3) (oi := { dst := some 17, op := Op.binOp BinOp.mul 3 (Operand.tmp 16) (Operand.const (Value.int IntKind.i64 32)) 3, type := 3, pos := "ref.go:167", after := #[{ on := 2, ground := Ground.data }], guard := none }) (v := ?vk4) rfl (by kernel_rfl) (by kernel_rfl) (by kernel_rfl) (fun _ _ _ h => h) (Or.inl ⟨by rfl, ?hk4⟩) (FC2.old ((Old.refl wr).drew) HFC.out) ?rk4
        case hk4 => (intro wz hSw; (try dsimp only at hSw); go_simp; try with_reducible rfl)
        (try simp only [Act.put]); (try simp only [List.setIfInBounds_toArray]); (try simp only [List.set_cons_succ]); (try simp only [List.set_cons_zero])
        refine wpAnyH_take (i := 4) (oi := { dst := some 18, op := Op.move (Operand.tmp 4), type := 3, pos := "ref.go:167", after := #[], guard := none }) (v := ?vk5) rfl (by kernel_rfl) (by kernel_rfl) (by kernel_rfl) (fun _ _ _ h => h) (Or.inl ⟨by rfl, ?hk5⟩) (FC2.old ((Old.refl wr).drew) HFC.out) ?rk5
        case hk5 => (intro wz hSw; (try dsimp only at hSw); go_simp; try with_reducible rfl)
        (try simp only [Act.put]); (try simp only [List.setIfInBounds_toArray]); (try simp only [List.set_cons_succ]); (try simp only [List.set_cons_zero])
        refine wpAnyH_take (i := 5) (oi := { dst := some 19, op := Op.binOp BinOp.mul 3 (Operand.tmp 18) (Operand.const (Value.int IntKind.i64 32)) 3, type := 3, pos := "ref.go:167", after := #[{ on := 4, ground := Ground.data }], guard := none }) (v := ?vk6) rfl (by kernel_rfl) (by kernel_rfl) (by kernel_rfl) (fun _ _ _ h => h) (Or.inl ⟨by rfl, ?hk6⟩) (FC2.old ((Old.refl wr).drew) HFC.out) ?rk6
        case hk6 => (intro wz hSw; (try dsimp only at hSw); go_simp; try with_reducible rfl)
        (try simp only [Act.put]); (try simp only [List.setIfInBounds_toArray]); (try simp only [List.set_cons_succ]); (try simp only [List.set_cons_zero])
        refine wpAnyH_take (i := 6) (oi := { dst := some 20, op := Op.binOp BinOp.add 3 (Operand.tmp 19) (Operand.const (Value.int IntKind.i64 32)) 3, type := 3, pos := "ref.go:167", after := #[{ on := 5, ground := Ground.data }], guard := none }) (v := ?vk7) rfl (by kernel_rfl) (by kernel_rfl) (by kernel_rfl) (fun _ _ _ h => h) (Or.inl ⟨by rfl, ?hk7⟩) (FC2.old ((Old.refl wr).drew) HFC.out) ?rk7
        case hk7 => (intro wz hSw; (try dsimp only at hSw); go_simp; try with_reducible rfl)
        (try simp only [Act.put]); (try simp only [List.setIfInBounds_toArray]); (try simp only [List.set_cons_succ]); (try simp only [List.set_cons_zero])
        refine wpAnyH_take (i := 8) (oi := { dst := some 22, op := Op.fieldAddr 51 (Operand.tmp 1) 2, type := 0, pos := "ref.go:167", after := #[], guard := none }) (v := ?vk8) rfl (by kernel_rfl) (by kernel_rfl) (by kernel_rfl) (fun _ _ _ h => h) (Or.inl ⟨by rfl, ?hk8⟩) (FC2.old ((Old.refl wr).drew) HFC.out) ?rk8
        case hk8 => (intro wz hSw; (try dsimp only at hSw); go_simp; try with_reducible rfl)
        (try simp only [Act.put]); (try simp only [List.setIfInBounds_toArray]); (try simp only [List.set_cons_succ]); (try simp only [List.set_cons_zero])
        refine wpAnyH_take (i := 9) (oi := { dst := some 23, op := Op.load 49 (Operand.tmp 22), type := 49, pos := "ref.go:167", after := #[{ on := 8, ground := Ground.data }], guard := none }) (v := ?vk9) rfl (by kernel_rfl) (by kernel_rfl) (by kernel_rfl) (fun _ _ _ h => h) (Or.inl ⟨by rfl, ?hk9⟩) (FC2.old ((Old.refl wr).drew) HFC.out) ?rk9
        case hk9 => (intro wz hSw; (try dsimp only at hSw); go_simp; try with_reducible rfl)
        (try simp only [Act.put]); (try simp only [List.setIfInBounds_toArray]); (try simp only [List.set_cons_succ]); (try simp only [List.set_cons_zero])
        refine wpAnyH_take (i := 10) (oi := { dst := some 24, op := Op.move (Operand.tmp 4), type := 3, pos := "ref.go:167", after := #[], guard := none }) (v := ?vk10) rfl (by kernel_rfl) (by kernel_rfl) (by kernel_rfl) (fun _ _ _ h => h) (Or.inl ⟨by rfl, ?hk10⟩) (FC2.old ((Old.refl wr).drew) HFC.out) ?rk10
        case hk10 => (intro wz hSw; (try dsimp only at hSw); go_simp; try with_reducible rfl)
        (try simp only [Act.put]); (try simp only [List.setIfInBounds_toArray]); (try simp only [List.set_cons_succ]); (try simp only [List.set_cons_zero])
        refine wpAnyH_take (i := 11) (oi := { dst := some 25, op := Op.binOp BinOp.mul 3 (Operand.tmp 24) (Operand.const (Value.int IntKind.i64 32)) 3, type := 3, pos := "ref.go:167", after := #[{ on := 10, ground := Ground.data }], guard := none }) (v := ?vk11) rfl (by kernel_rfl) (by kernel_rfl) (by kernel_rfl) (fun _ _ _ h => h) (Or.inl ⟨by rfl, ?hk11⟩) (FC2.old ((Old.refl wr).drew) HFC.out) ?rk11
        case hk11 => (intro wz hSw; (try dsimp only at hSw); go_simp; try with_reducible rfl)
        (try simp only [Act.put]); (try simp only [List.setIfInBounds_toArray]); (try simp only [List.set_cons_succ]); (try simp only [List.set_cons_zero])
        refine wpAnyH_take (i := 12) (oi := { dst := some 26, op := Op.move (Operand.tmp 4), type := 3, pos := "ref.go:167", after := #[], guard := none }) (v := ?vk12) rfl (by kernel_rfl) (by kernel_rfl) (by kernel_rfl) (fun _ _ _ h => h) (Or.inl ⟨by rfl, ?hk12⟩) (FC2.old ((Old.refl wr).drew) HFC.out) ?rk12
        case hk12 => (intro wz hSw; (try dsimp only at hSw); go_simp; try with_reducible rfl)
        (try simp only [Act.put]); (try simp only [List.setIfInBounds_toArray]); (try simp only [List.set_cons_succ]); (try simp only [List.set_cons_zero])
        refine wpAnyH_take (i := 13) (oi := { dst := some 27, op := Op.binOp BinOp.mul 3 (Operand.tmp 26) (Operand.const (Value.int IntKind.i64 32)) 3, type := 3, pos := "ref.go:167", after := #[{ on := 12, ground := Ground.data }], guard := none }) (v := ?vk13) rfl (by kernel_rfl) (by kernel_rfl) (by kernel_rfl) (fun _ _ _ h => h) (Or.inl ⟨by rfl, ?hk13⟩) (FC2.old ((Old.refl wr).drew) HFC.out) ?rk13
        case hk13 => (intro wz hSw; (try dsimp only at hSw); go_simp; try with_reducible rfl)
        (try simp only [Act.put]); (try simp only [List.setIfInBounds_toArray]); (try simp only [List.set_cons_succ]); (try simp only [List.set_cons_zero])
        refine wpAnyH_take (i := 14) (oi := { dst := some 28, op := Op.binOp BinOp.add 3 (Operand.tmp 27) (Operand.const (Value.int IntKind.i64 32)) 3, type := 3, pos := "ref.go:167", after := #[{ on := 13, ground := Ground.data }], guard := none }) (v := ?vk14) rfl (by kernel_rfl) (by kernel_rfl) (by kernel_rfl) (fun _ _ _ h => h) (Or.inl ⟨by rfl, ?hk14⟩) (FC2.old ((Old.refl wr).drew) HFC.out) ?rk14
        case hk14 => (intro wz hSw; (try dsimp only at hSw); go_simp; try with_reducible rfl)
        (try simp only [Act.put]); (try simp only [List.setIfInBounds_toArray]); (try simp only [List.set_cons_succ]); (try simp only [List.set_cons_zero])
        refine wpAnyH_ready (rs := [7]) (by kernel_rfl) (by simp) ?_
        refine AllReadyH.cons (o := { dst := some 21, op := Op.call { callee := Callee.value (Operand.func 34), args := #[Operand.tmp 15, Operand.tmp 17, Operand.tmp 20], argTypes := #[49, 3, 3] }, type := 49, pos := "ref.go:167", after := #[{ on := 1, ground := Ground.data }, { on := 3, ground := Ground.data }, { on := 6, ground := Ground.data }], guard := none }) rfl (fun K hK => ?_) AllReadyH.nil
        refine wantCall3 ?_ 34 (.tmp 15) (.tmp 17) (.tmp 20) #[49, 3, 3] ?_ (.slice na ln nc) (.int .i64 (t : Nat)) (.int .i64 (t2 : Nat)) ?_ ?_ ?_ ?_ ((enters_of Tryz.func34 (by kernel_rfl) rfl) _ _) ?_
        · rfl
        · rfl
        · rfl
        · rfl
        · rfl
        · rfl
        refine (HP1.out _ ((Old.refl wr).drew)).mono ?_
        rintro o x15 ⟨a1, c1, rfl, o1, u1, _⟩
        have O1 := hid o1
        have UA := Old.trans ((Old.refl wr).drew) u1
        clear o1 u1
        refine ⟨_, rfl, ?_⟩
        refine hK.out _ _ (FC2.old UA HFC.out) (fun _ => ?_)
        clear hK K
        (try simp only [Act.put]); (try simp only [List.setIfInBounds_toArray]); (try simp only [List.set_cons_succ]); (try simp only [List.set_cons_zero])
        refine wpAnyH_ready (rs := [15]) (by kernel_rfl) (by simp) ?_
        refine AllReadyH.cons (o := { dst := some 29, op := Op.call { callee := Callee.value (Operand.func 34), args := #[Operand.tmp 23, Operand.tmp 25, Operand.tmp 28], argTypes := #[49, 3, 3] }, type := 49, pos := "ref.go:167", after := #[{ on := 9, ground := Ground.data }, { on := 11, ground := Ground.data }, { on := 14, ground := Ground.data }, { on := 7, ground := Ground.chain }], guard := none }) rfl (fun K hK => ?_) AllReadyH.nil
        refine wantCall3 ?_ 34 (.tmp 23) (.tmp 25) (.tmp 28) #[49, 3, 3] ?_ (.slice sa ls sc) (.int .i64 (t : Nat)) (.int .i64 (t2 : Nat)) ?_ ?_ ?_ ?_ ((enters_of Tryz.func34 (by kernel_rfl) rfl) _ _) ?_
        · rfl
        · rfl
        · rfl
        · rfl
        · rfl
        · rfl
        refine (HP2.out _ UA).mono ?_
        rintro o x16 ⟨a2, c2, rfl, o2, u2, _⟩
        have O2 := hid o2
        have O1b := hid (O1.out.old u2)
        have UB := UA.trans u2
        clear o2 u2
        have HEq := hid (fun (W : World) (u : W = x16) => show Calls Tryz.prog 17 #[.slice a1 M1.length c1, .slice a2 M2.length c2] W fun e w' => e = .returned (.bool (decide (M1 = M2))) ∧ Old W w' from by subst u; exact sameG _ _ M1 M2 _ O1b.out.row O2.out.row)
        refine ⟨_, rfl, ?_⟩
        refine hK.out _ _ (FC2.old UB HFC.out) (fun _ => ?_)
        clear hK K
        (try simp only [Act.put]); (try simp only [List.setIfInBounds_toArray]); (try simp only [List.set_cons_succ]); (try simp only [List.set_cons_zero])
        refine wpAnyH_ready (rs := [16]) (by kernel_rfl) (by simp) ?_
        refine AllReadyH.cons (o := { dst := some 30, op := Op.call { callee := Callee.value (Operand.func 17), args := #[Operand.tmp 21, Operand.tmp 29], argTypes := #[49, 49] }, type := 4, pos := "ref.go:167", after := #[{ on := 7, ground := Ground.data }, { on := 15, ground := Ground.data }, { on := 15, ground := Ground.chain }], guard := none }) rfl (fun K hK => ?_) AllReadyH.nil
        refine wantCall2 ?_ 17 (.tmp 21) (.tmp 29) #[49, 49] ?_ (.slice a1 M1.length c1) (.slice a2 M2.length c2) ?_ ?_ ?_ ((enters_of Tryz.func17 (by kernel_rfl) rfl) _ _) ?_
        · rfl
        · rfl
        · rfl
        · rfl
        · rfl
        refine (HEq.out _ rfl).mono ?_
        rintro o wx ⟨rfl, u3⟩
        have UC := UB.trans u3
        clear u3
        refine ⟨_, rfl, ?_⟩
        refine hK.out _ _ (FC2.old UC HFC.out) (fun _ => ?_)
        clear hK K
        (try simp only [Act.put]); (try simp only [List.setIfInBounds_toArray]); (try simp only [List.set_cons_succ]); (try simp only [List.set_cons_zero])
        refine wpAnyH_take (i := 17) (oi := { dst := some 31, op := Op.unOp UnOp.not 4 (Operand.tmp 30), type := 4, pos := "ref.go:167", after := #[{ on := 16, ground := Ground.data }], guard := none }) (v := ?vk18) rfl (by kernel_rfl) (by kernel_rfl) (by kernel_rfl) (fun _ _ _ h => h) (Or.inl ⟨by rfl, ?hk18⟩) (FC2.old UC HFC.out) ?rk18
        case hk18 => (intro wz hSw; (try dsimp only at hSw); go_simp; try with_reducible rfl)
        (try simp only [Act.put]); (try simp only [List.setIfInBounds_toArray]); (try simp only [List.set_cons_succ]); (try simp only [List.set_cons_zero])
        refine wpAnyH_done (by kernel_rfl) ?_ _
        refine NoPanic.normal ?_
        rw [HDe.out]
        have UX := hid (UU.out.trans UC)
        have HOX := hid (HO.out.up UC)
        clear UU HO UA UB UC
        go_wp2
        go_roundw
        case rel => exact ⟨i + 1, hit, by go_num, by rw [HSt.out]; exact HOX.out, UX.out⟩
        case measure => simp [intOf]; omega
      · have HDe := hid (decide_eq_false hE)
        have HSt := hid (show nI (lowK fnow fsafe (i + 1)) = nI (lowK fnow fsafe i) ++ [(i : Int)] from by rw [HKi.out, if_neg hE]; simp [nI])
        clear HKi hE
        refine wp_region_noPanic ?_
        refine wp_region_held_drew (S := fun wz => wz.cell? ⟨g1, 1, none⟩ = some (.slice na ln nc) ∧ wz.cell? ⟨g1, 2, none⟩ = some (.slice sa ls sc)) (by kernel_rfl) ?_ (fun hHeld => ?_)
        · exact (FC2.old ((Old.refl wr).drew) HFC.out)
        (try simp only [Act.put]); (try simp only [List.setIfInBounds_toArray]); (try simp only [List.set_cons_succ]); (try simp only [List.set_cons_zero])
        clear hHeld
        refine wpAnyH_take (i := 0) (oi := { dst := some 14, op := Op.fieldAddr 51 (Operand.tmp 1) 1, type := 0, pos := "ref.go:167", after := #[], guard := none }) (v := ?vk19) rfl (by kernel_rfl) (by kernel_rfl) (by kernel_rfl) (fun _ _ _ h => h) (Or.inl ⟨by rfl, ?hk19⟩) (FC2.old ((Old.refl wr).drew) HFC.out) ?rk19
        case hk19 => (intro wz hSw; (try dsimp only at hSw); go_simp; try with_reducible rfl)
        (try simp only [Act.put]); (try simp only [List.setIfInBounds_toArray]); (try simp only [List.set_cons_succ]); (try simp only [List.set_cons_zero])
        refine wpAnyH_take (i := 1) (oi := { dst := some 15, op := Op.load 49 (Operand.tmp 14), type := 49, pos := "ref.go:167", after := #[{ on := 0, ground := Ground.data }], guard := none }) (v := ?vk20) rfl (by kernel_rfl) (by kernel_rfl) (by kernel_rfl) (fun _ _ _ h => h) (Or.inl ⟨by rfl, ?hk20⟩) (FC2.old ((Old.refl wr).drew) HFC.out) ?rk20
        case hk20 => (intro wz hSw; (try dsimp only at hSw); go_simp; try with_reducible rfl)
        (try simp only [Act.put]); (try simp only [List.setIfInBounds_toArray]); (try simp only [List.set_cons_succ]); (try simp only [List.set_cons_zero])
        refine wpAnyH_take (i := 2) (oi := { dst := some 16, op := Op.move (Operand.tmp 4), type := 3, pos := "ref.go:167", after := #[], guard := none }) (v := ?vk21) rfl (by kernel_rfl) (by kernel_rfl) (by kernel_rfl) (fun _ _ _ h => h) (Or.inl ⟨by rfl, ?hk21⟩) (FC2.old ((Old.refl wr).drew) HFC.out) ?rk21
        case hk21 => (intro wz hSw; (try dsimp only at hSw); go_simp; try with_reducible rfl)
        (try simp only [Act.put]); (try simp only [List.setIfInBounds_toArray]); (try simp only [List.set_cons_succ]); (try simp only [List.set_cons_zero])
        refine wpAnyH_take (i := 3) (oi := { dst := some 17, op := Op.binOp BinOp.mul 3 (Operand.tmp 16) (Operand.const (Value.int IntKind.i64 32)) 3, type := 3, pos := "ref.go:167", after := #[{ on := 2, ground := Ground.data }], guard := none }) (v := ?vk22) rfl (by kernel_rfl) (by kernel_rfl) (by kernel_rfl) (fun _ _ _ h => h) (Or.inl ⟨by rfl, ?hk22⟩) (FC2.old ((Old.refl wr).drew) HFC.out) ?rk22
        case hk22 => (intro wz hSw; (try dsimp only at hSw); go_simp; try with_reducible rfl)
        (try simp only [Act.put]); (try simp only [List.setIfInBounds_toArray]); (try simp only [List.set_cons_succ]); (try simp only [List.set_cons_zero])
        refine wpAnyH_take (i := 4) (oi := { dst := some 18, op := Op.move (Operand.tmp 4), type := 3, pos := "ref.go:167", after := #[], guard := none }) (v := ?vk23) rfl (by kernel_rfl) (by kernel_rfl) (by kernel_rfl) (fun _ _ _ h => h) (Or.inl ⟨by rfl, ?hk23⟩) (FC2.old ((Old.refl wr).drew) HFC.out) ?rk23
        case hk23 => (intro wz hSw; (try dsimp only at hSw); go_simp; try with_reducible rfl)
        (try simp only [Act.put]); (try simp only [List.setIfInBounds_toArray]); (try simp only [List.set_cons_succ]); (try simp only [List.set_cons_zero])
        refine wpAnyH_take (i := 5) (oi := { dst := some 19, op := Op.binOp BinOp.mul 3 (Operand.tmp 18) (Operand.const (Value.int IntKind.i64 32)) 3, type := 3, pos := "ref.go:167", after := #[{ on := 4, ground := Ground.data }], guard := none }) (v := ?vk24) rfl (by kernel_rfl) (by kernel_rfl) (by kernel_rfl) (fun _ _ _ h => h) (Or.inl ⟨by rfl, ?hk24⟩) (FC2.old ((Old.refl wr).drew) HFC.out) ?rk24
        case hk24 => (intro wz hSw; (try dsimp only at hSw); go_simp; try with_reducible rfl)
        (try simp only [Act.put]); (try simp only [List.setIfInBounds_toArray]); (try simp only [List.set_cons_succ]); (try simp only [List.set_cons_zero])
        refine wpAnyH_take (i := 6) (oi := { dst := some 20, op := Op.binOp BinOp.add 3 (Operand.tmp 19) (Operand.const (Value.int IntKind.i64 32)) 3, type := 3, pos := "ref.go:167", after := #[{ on := 5, ground := Ground.data }], guard := none }) (v := ?vk25) rfl (by kernel_rfl) (by kernel_rfl) (by kernel_rfl) (fun _ _ _ h => h) (Or.inl ⟨by rfl, ?hk25⟩) (FC2.old ((Old.refl wr).drew) HFC.out) ?rk25
        case hk25 => (intro wz hSw; (try dsimp only at hSw); go_simp; try with_reducible rfl)
        (try simp only [Act.put]); (try simp only [List.setIfInBounds_toArray]); (try simp only [List.set_cons_succ]); (try simp only [List.set_cons_zero])
        refine wpAnyH_take (i := 8) (oi := { dst := some 22, op := Op.fieldAddr 51 (Operand.tmp 1) 2, type := 0, pos := "ref.go:167", after := #[], guard := none }) (v := ?vk26) rfl (by kernel_rfl) (by kernel_rfl) (by kernel_rfl) (fun _ _ _ h => h) (Or.inl ⟨by rfl, ?hk26⟩) (FC2.old ((Old.refl wr).drew) HFC.out) ?rk26
        case hk26 => (intro wz hSw; (try dsimp only at hSw); go_simp; try with_reducible rfl)
        (try simp only [Act.put]); (try simp only [List.setIfInBounds_toArray]); (try simp only [List.set_cons_succ]); (try simp only [List.set_cons_zero])
        refine wpAnyH_take (i := 9) (oi := { dst := some 23, op := Op.load 49 (Operand.tmp 22), type := 49, pos := "ref.go:167", after := #[{ on := 8, ground := Ground.data }], guard := none }) (v := ?vk27) rfl (by kernel_rfl) (by kernel_rfl) (by kernel_rfl) (fun _ _ _ h => h) (Or.inl ⟨by rfl, ?hk27⟩) (FC2.old ((Old.refl wr).drew) HFC.out) ?rk27
        case hk27 => (intro wz hSw; (try dsimp only at hSw); go_simp; try with_reducible rfl)
        (try simp only [Act.put]); (try simp only [List.setIfInBounds_toArray]); (try simp only [List.set_cons_succ]); (try simp only [List.set_cons_zero])
        refine wpAnyH_take (i := 10) (oi := { dst := some 24, op := Op.move (Operand.tmp 4), type := 3, pos := "ref.go:167", after := #[], guard := none }) (v := ?vk28) rfl (by kernel_rfl) (by kernel_rfl) (by kernel_rfl) (fun _ _ _ h => h) (Or.inl ⟨by rfl, ?hk28⟩) (FC2.old ((Old.refl wr).drew) HFC.out) ?rk28
        case hk28 => (intro wz hSw; (try dsimp only at hSw); go_simp; try with_reducible rfl)
        (try simp only [Act.put]); (try simp only [List.setIfInBounds_toArray]); (try simp only [List.set_cons_succ]); (try simp only [List.set_cons_zero])
        refine wpAnyH_take (i := 11) (oi := { dst := some 25, op := Op.binOp BinOp.mul 3 (Operand.tmp 24) (Operand.const (Value.int IntKind.i64 32)) 3, type := 3, pos := "ref.go:167", after := #[{ on := 10, ground := Ground.data }], guard := none }) (v := ?vk29) rfl (by kernel_rfl) (by kernel_rfl) (by kernel_rfl) (fun _ _ _ h => h) (Or.inl ⟨by rfl, ?hk29⟩) (FC2.old ((Old.refl wr).drew) HFC.out) ?rk29
        case hk29 => (intro wz hSw; (try dsimp only at hSw); go_simp; try with_reducible rfl)
        (try simp only [Act.put]); (try simp only [List.setIfInBounds_toArray]); (try simp only [List.set_cons_succ]); (try simp only [List.set_cons_zero])
        refine wpAnyH_take (i := 12) (oi := { dst := some 26, op := Op.move (Operand.tmp 4), type := 3, pos := "ref.go:167", after := #[], guard := none }) (v := ?vk30) rfl (by kernel_rfl) (by kernel_rfl) (by kernel_rfl) (fun _ _ _ h => h) (Or.inl ⟨by rfl, ?hk30⟩) (FC2.old ((Old.refl wr).drew) HFC.out) ?rk30
        case hk30 => (intro wz hSw; (try dsimp only at hSw); go_simp; try with_reducible rfl)
        (try simp only [Act.put]); (try simp only [List.setIfInBounds_toArray]); (try simp only [List.set_cons_succ]); (try simp only [List.set_cons_zero])
        refine wpAnyH_take (i := 13) (oi := { dst := some 27, op := Op.binOp BinOp.mul 3 (Operand.tmp 26) (Operand.const (Value.int IntKind.i64 32)) 3, type := 3, pos := "ref.go:167", after := #[{ on := 12, ground := Ground.data }], guard := none }) (v := ?vk31) rfl (by kernel_rfl) (by kernel_rfl) (by kernel_rfl) (fun _ _ _ h => h) (Or.inl ⟨by rfl, ?hk31⟩) (FC2.old ((Old.refl wr).drew) HFC.out) ?rk31
        case hk31 => (intro wz hSw; (try dsimp only at hSw); go_simp; try with_reducible rfl)
        (try simp only [Act.put]); (try simp only [List.setIfInBounds_toArray]); (try simp only [List.set_cons_succ]); (try simp only [List.set_cons_zero])
        refine wpAnyH_take (i := 14) (oi := { dst := some 28, op := Op.binOp BinOp.add 3 (Operand.tmp 27) (Operand.const (Value.int IntKind.i64 32)) 3, type := 3, pos := "ref.go:167", after := #[{ on := 13, ground := Ground.data }], guard := none }) (v := ?vk32) rfl (by kernel_rfl) (by kernel_rfl) (by kernel_rfl) (fun _ _ _ h => h) (Or.inl ⟨by rfl, ?hk32⟩) (FC2.old ((Old.refl wr).drew) HFC.out) ?rk32
        case hk32 => (intro wz hSw; (try dsimp only at hSw); go_simp; try with_reducible rfl)
        (try simp only [Act.put]); (try simp only [List.setIfInBounds_toArray]); (try simp only [List.set_cons_succ]); (try simp only [List.set_cons_zero])
        refine wpAnyH_ready (rs := [7]) (by kernel_rfl) (by simp) ?_
        refine AllReadyH.cons (o := { dst := some 21, op := Op.call { callee := Callee.value (Operand.func 34), args := #[Operand.tmp 15, Operand.tmp 17, Operand.tmp 20], argTypes := #[49, 3, 3] }, type := 49, pos := "ref.go:167", after := #[{ on := 1, ground := Ground.data }, { on := 3, ground := Ground.data }, { on := 6, ground := Ground.data }], guard := none }) rfl (fun K hK => ?_) AllReadyH.nil
        refine wantCall3 ?_ 34 (.tmp 15) (.tmp 17) (.tmp 20) #[49, 3, 3] ?_ (.slice na ln nc) (.int .i64 (t : Nat)) (.int .i64 (t2 : Nat)) ?_ ?_ ?_ ?_ ((enters_of Tryz.func34 (by kernel_rfl) rfl) _ _) ?_
        · rfl
        · rfl
        · rfl
        · rfl
        · rfl
        · rfl
        refine (HP1.out _ ((Old.refl wr).drew)).mono ?_
        rintro o x33 ⟨a1, c1, rfl, o1, u1, _⟩
        have O1 := hid o1
        have UA := Old.trans ((Old.refl wr).drew) u1
        clear o1 u1
        refine ⟨_, rfl, ?_⟩
        refine hK.out _ _ (FC2.old UA HFC.out) (fun _ => ?_)
        clear hK K
        (try simp only [Act.put]); (try simp only [List.setIfInBounds_toArray]); (try simp only [List.set_cons_succ]); (try simp only [List.set_cons_zero])
        refine wpAnyH_ready (rs := [15]) (by kernel_rfl) (by simp) ?_
        refine AllReadyH.cons (o := { dst := some 29, op := Op.call { callee := Callee.value (Operand.func 34), args := #[Operand.tmp 23, Operand.tmp 25, Operand.tmp 28], argTypes := #[49, 3, 3] }, type := 49, pos := "ref.go:167", after := #[{ on := 9, ground := Ground.data }, { on := 11, ground := Ground.data }, { on := 14, ground := Ground.data }, { on := 7, ground := Ground.chain }], guard := none }) rfl (fun K hK => ?_) AllReadyH.nil
        refine wantCall3 ?_ 34 (.tmp 23) (.tmp 25) (.tmp 28) #[49, 3, 3] ?_ (.slice sa ls sc) (.int .i64 (t : Nat)) (.int .i64 (t2 : Nat)) ?_ ?_ ?_ ?_ ((enters_of Tryz.func34 (by kernel_rfl) rfl) _ _) ?_
        · rfl
        · rfl
        · rfl
        · rfl
        · rfl
        · rfl
        refine (HP2.out _ UA).mono ?_
        rintro o x34 ⟨a2, c2, rfl, o2, u2, _⟩
        have O2 := hid o2
        have O1b := hid (O1.out.old u2)
        have UB := UA.trans u2
        clear o2 u2
        have HEq := hid (fun (W : World) (u : W = x34) => show Calls Tryz.prog 17 #[.slice a1 M1.length c1, .slice a2 M2.length c2] W fun e w' => e = .returned (.bool (decide (M1 = M2))) ∧ Old W w' from by subst u; exact sameG _ _ M1 M2 _ O1b.out.row O2.out.row)
        refine ⟨_, rfl, ?_⟩
        refine hK.out _ _ (FC2.old UB HFC.out) (fun _ => ?_)
        clear hK K
        (try simp only [Act.put]); (try simp only [List.setIfInBounds_toArray]); (try simp only [List.set_cons_succ]); (try simp only [List.set_cons_zero])
        refine wpAnyH_ready (rs := [16]) (by kernel_rfl) (by simp) ?_
        refine AllReadyH.cons (o := { dst := some 30, op := Op.call { callee := Callee.value (Operand.func 17), args := #[Operand.tmp 21, Operand.tmp 29], argTypes := #[49, 49] }, type := 4, pos := "ref.go:167", after := #[{ on := 7, ground := Ground.data }, { on := 15, ground := Ground.data }, { on := 15, ground := Ground.chain }], guard := none }) rfl (fun K hK => ?_) AllReadyH.nil
        refine wantCall2 ?_ 17 (.tmp 21) (.tmp 29) #[49, 49] ?_ (.slice a1 M1.length c1) (.slice a2 M2.length c2) ?_ ?_ ?_ ((enters_of Tryz.func17 (by kernel_rfl) rfl) _ _) ?_
        · rfl
        · rfl
        · rfl
        · rfl
        · rfl
        refine (HEq.out _ rfl).mono ?_
        rintro o wx ⟨rfl, u3⟩
        have UC := UB.trans u3
        clear u3
        refine ⟨_, rfl, ?_⟩
        refine hK.out _ _ (FC2.old UC HFC.out) (fun _ => ?_)
        clear hK K
        (try simp only [Act.put]); (try simp only [List.setIfInBounds_toArray]); (try simp only [List.set_cons_succ]); (try simp only [List.set_cons_zero])
        refine wpAnyH_take (i := 17) (oi := { dst := some 31, op := Op.unOp UnOp.not 4 (Operand.tmp 30), type := 4, pos := "ref.go:167", after := #[{ on := 16, ground := Ground.data }], guard := none }) (v := ?vk36) rfl (by kernel_rfl) (by kernel_rfl) (by kernel_rfl) (fun _ _ _ h => h) (Or.inl ⟨by rfl, ?hk36⟩) (FC2.old UC HFC.out) ?rk36
        case hk36 => (intro wz hSw; (try dsimp only at hSw); go_simp; try with_reducible rfl)
        (try simp only [Act.put]); (try simp only [List.setIfInBounds_toArray]); (try simp only [List.set_cons_succ]); (try simp only [List.set_cons_zero])
        refine wpAnyH_done (by kernel_rfl) ?_ _
        refine NoPanic.normal ?_
        rw [HDe.out]
        have UX := hid (UU.out.trans UC)
        have HOX := hid (HO.out.up UC)
        clear UU HO UA UB UC
        go_wp2_with (at_builtin; refine wp_appI rfl (.tmp 32) (.tmp 34) rfl w0.heap.size _ (nI (lowK fnow fsafe i)) _ 1 (i : Int) rfl rfl (HOX.out.up ((Old.refl _).alloc _)) (cell_oneI _ _ _ rfl) (by rw [HLl.out]; omega) (by have := UX.out.size; simp; omega) ?_; intro v5 w5 o5 g5 n5; have O5 := hid o5; have U5 := hid (show Old w0 w5 from Below.grown (UX.out.alloc _) g5 (UX.out.alloc _).size (fun k e => (World.ownsRow.lt HOX.out k e).1)); clear o5 g5 n5)
        obtain ⟨p5, c5, e5⟩ := O5.out.len
        subst e5
        go_roundw
        case rel => exact ⟨i + 1, hit, by go_num, by rw [HSt.out]; exact O5.out, U5.out⟩
        case measure => simp [intOf]; omega
    · obtain rfl : i = N := by omega
      have l0 : ¬ (t : Int) < (ln : Int) := by omega
      have HUf := hid (HU.out.trans UU.out)
      have HOf := hid (HO.out.mono HU.out.size)
      clear hN hLn ht
      go_wp2
      go_ret
      exact ⟨_, rfl, HOf.out, HUf.out⟩
def RdPost (W : World) (B : List Nat) (L : List Nat) (c : Int) (e : Ending) (w' : World) : Prop := ∃ v, e = .returned (.tuple #[v, .int .i64 c]) ∧ Own w' v L ∧ Old W w' ∧ ∃ a m cc, v = .slice a m cc
set_option maxHeartbeats 4000000 in
set_option maxRecDepth 20000 in
theorem rread_any (ya : Option Addr) (yc : Nat) (Y : List Fi) (dn : Bool) (fu : Int) (s : ByteArray) (w : World) (h : DocAt w (.slice ya Y.length yc) Y) (hl : Y.length ≤ 256) (hnd : ((Y.map Fi.p).map (·.1)).Nodup) : Calls Tryz.prog 23 #[.agg #[.slice ya Y.length yc, .bool dn, .int .i64 fu], .string s] w (RdPost w [] (readL ⟨Y.map Fi.p, dn, fu⟩ s) (readC ⟨Y.map Fi.p, dn, fu⟩ s)) := by
  have HD := hid h
  have HNd := hid hnd
  have HFi := hid (show ∀ (W' : World) (za : Option Addr) (zn zc : Nat) (Z : List Fi) (dn : Bool) (fu : Int) (s : ByteArray), OwnR 0 W' (.slice za zn zc) Z → zn = Z.length → Z.length ≤ 1000 → Calls Tryz.prog 21 #[.agg #[.slice za zn zc, .bool dn, .int .i64 fu], .string s] W' fun e w' => ∃ r, e = .returned (.int .i64 r) ∧ FindIs Z s r ∧ Old W' w' from fun W' za zn zc Z dn fu s h1 h2 h3 => by subst h2; exact rfind_any za zc Z dn fu s 0 W' h1 h3)
  have HYl := hid (show Y.length ≤ 1000 from by omega)
  obtain ⟨n, hn⟩ : ∃ n, n = Y.length := ⟨_, rfl⟩
  have HN := hid hn
  rw [← hn] at HD ⊢
  clear h hnd hl hn
  go_enter Tryz.func23, Tryz.ntmps23
  go_upto_region 1 with (fail)
  have HB := hid (alloc_at w (.cells #[.slice ya n yc, .bool dn, .int .i64 fu] 32))
  have HU := hid (show Old w (w.alloc (.cells #[.slice ya n yc, .bool dn, .int .i64 fu] 32)) from (Old.refl w).alloc _)
  generalize w.alloc (.cells #[.slice ya n yc, .bool dn, .int .i64 fu] 32) = w0 at *
  obtain ⟨g0, hg0⟩ : ∃ g0, g0 = w.heap.size := ⟨_, rfl⟩
  rw [← hg0] at HB ⊢
  clear hg0
  obtain ⟨x0, x1, x2, -, -, -⟩ := box3 HB.out
  cases dn with
  | true =>
    have EC := hid (show readC ⟨Y.map Fi.p, true, fu⟩ s = 50 from by unfold readC faultC; simp)
    have EL := hid (show readL ⟨Y.map Fi.p, true, fu⟩ s = [] from by unfold readL; rw [EC.out, if_neg (by decide)])
    go_wp2
    refine bodyPost_ret (v := .tuple #[.slice none 0 0, .int .i64 50]) (by simp [results, Tryz.results23, go_sem]) rfl ?_
    rw [EC.out, EL.out]
    exact ⟨_, rfl, Own.nil _, HU.out, _, _, _, rfl⟩
  | false =>
    have HNA := hid (fun (W' : World) => rname_any s W')
    cases hm : misN s with
    | true =>
      rw [hm] at HNA
      have EC := hid (show readC ⟨Y.map Fi.p, false, fu⟩ s = 1 from by unfold readC faultC; simp [hm])
      have EL := hid (show readL ⟨Y.map Fi.p, false, fu⟩ s = [] from by unfold readL; rw [EC.out, if_neg (by decide)])
      go_wp2_with (go_at_call 48; refine (HNA.out _).mono ?_; rintro e w3 ⟨rfl, hw⟩; have hw2 := hw.symm; subst hw2)
      refine bodyPost_ret (v := .tuple #[.slice none 0 0, .int .i64 1]) (by simp [results, Tryz.results23, go_sem]) rfl ?_
      rw [EC.out, EL.out]
      exact ⟨_, rfl, Own.nil _, HU.out, _, _, _, rfl⟩
    | false =>
      rw [hm] at HNA
      have HC := hid (show readC ⟨Y.map Fi.p, false, fu⟩ s = (match getP (Y.map Fi.p) s with | some _ => 0 | none => 4) from by unfold readC; rw [if_pos (by unfold faultC; simp [hm])]; cases getP (Y.map Fi.p) s <;> rfl)
      clear hm
      go_upto_region 6 with (first | (go_at_call 48; refine (HNA.out _).mono ?_; rintro e w3 ⟨rfl, hw⟩; have hw2 := hw.symm; subst hw2) | (go_at_call 21; refine (HFi.out _ ya n yc Y _ _ s (HD.out.row.old HU.out) HN.out HYl.out).mono ?_; rintro e w3 ⟨r, rfl, fi, u3⟩; have FI := hid fi; have U3 := hid u3; clear fi u3))
      have CU := hid (HU.out.trans U3.out)
      have D0 := hid (U3.out.block HB.out)
      clear x0 x1 x2
      obtain ⟨x0, x1, x2, -, -, -⟩ := box3 D0.out
      rcases FI.out with ⟨hr, hno⟩ | ⟨q, hr, hq, hqn⟩
      · subst hr
        have hg := getP_none (fs := Y.map Fi.p) (s := s) (fun q hq => by obtain ⟨y, hy, e⟩ := List.mem_map.1 hq; rw [← e]; exact hno y hy)
        have EC := hid (show readC ⟨Y.map Fi.p, false, fu⟩ s = 4 from by rw [HC.out, hg])
        have EL := hid (show readL ⟨Y.map Fi.p, false, fu⟩ s = [] from by unfold readL; rw [EC.out, if_neg (by decide)])
        clear hg hno
        go_wp2
        refine bodyPost_ret (v := .tuple #[.slice none 0 0, .int .i64 4]) (by simp [results, Tryz.results23, go_sem]) rfl ?_
        rw [EC.out, EL.out]
        exact ⟨_, rfl, Own.nil _, CU.out, _, _, _, rfl⟩
      · subst hr
        obtain ⟨gy, cy, qy, hyc, hym, ⟨y0, y1, y2⟩⟩ := HD.out.row.at q hq
        obtain ⟨ey, -, ec⟩ := Value.slice.inj qy
        subst ey ec
        rw [← HN.out] at hyc
        have k1 := CU.out.keep y1
        have l1 : (0 : Int) ≤ (q : Int) := by omega
        have l2 : (q : Int) < (n : Int) := by have := HN.out; omega
        have HBq := hid (HD.out.byt _ (List.getElem_mem hq))
        have HGt := hid (show getP (Y.map Fi.p) s = some ⟨Y[q].now, Y[q].safe⟩ from by have := getP_mem HNd.out (q := Y[q].p) (List.mem_map.2 ⟨Y[q], List.getElem_mem hq, rfl⟩); rw [show (Y[q].p).1 = s from hqn] at this; exact this)
        have EC := hid (show readC ⟨Y.map Fi.p, false, fu⟩ s = 0 from by rw [HC.out, HGt.out])
        have EL := hid (show readL ⟨Y.map Fi.p, false, fu⟩ s = Y[q].now from by unfold readL; rw [EC.out, if_pos rfl]; unfold fileAt; rw [HGt.out]; rfl)
        clear y0 y1 y2 qy hqn HGt
        generalize Y[q] = lx at *
        clear hq
        go_wp2
        refine bodyPost_ret (v := .tuple #[.slice lx.na lx.now.length lx.nc, .int .i64 0]) (by simp [results, Tryz.results23, go_sem]) rfl ?_
        rw [EC.out, EL.out]
        exact ⟨_, rfl, HBq.out.1.old CU.out, CU.out, _, _, _, rfl⟩
end Go.Proofs.YtfphopleniidfaaGreatDoor
