/- vers: the document's Over; conditions: the lengths fit. -/
import Derived.Test.YtbjikfcegiagjaaXt
import Derived.Test.YtbjikfcegiagjaaXs
import Derived.Test.YtbjikfcegiagjaaRf
namespace Go.Proofs.Ytbjikfcegiagjaa
open Go.RowKit Go.Lib
set_option linter.unusedVariables false
set_option linter.unusedSimpArgs false
set_option maxRecDepth 20000
theorem ent_rof (args : Array Value) (w : World) : (callFunc 55 args).run Try.prog w = .ok (.enter 55 args) w := by kernel_rfl
theorem ent_rhas (args : Array Value) (w : World) : (callFunc 54 args).run Try.prog w = .ok (.enter 54 args) w := by kernel_rfl
theorem rof_old (a b : Nat) (ha : Fl.W a) (hb : Fl.W b) (p q : Bool) (w : World) : Calls Try.prog 55 #[.agg #[.float .f64 a, .float .f64 b, .bool p, .bool q]] w fun e w' => e = .returned (.agg #[.int .u64 (Fl.rL a b p q : Nat), .int .u64 (Fl.rH a b p q : Nat)]) ∧ Old w w' := (rOf_any a b ha hb p q w).mono fun e w' h => ⟨h.1, h.2.old⟩
theorem rhas_old (a b : Nat) (ha : Fl.W a) (hb : Fl.W b) (p q : Bool) (k : Nat) (hk : Fl.W k) (w : World) : Calls Try.prog 54 #[.agg #[.int .u64 (Fl.rL a b p q : Nat), .int .u64 (Fl.rH a b p q : Nat)], .float .f64 k] w fun e w' => e = .returned (.bool (hasB a b p q k)) ∧ Old w w' := (rHas_any _ _ k hk w).mono fun e w' h => ⟨by rw [h.1, Fl.rHas_eq a b k p q ha hb]; rfl, h.2.old⟩
abbrev OvS (tb x y : Nat) (p q : Bool) (v : Value) (g k : Nat) (z : It) (w : World) : Prop := SpAt (tb + 1) x y p q w ∧ w.cell? ⟨tb, 1, none⟩ = some v ∧ w.cell? ⟨g, k * 2, none⟩ = some (.float .f64 z.k) ∧ w.cell? ⟨g, k * 2 + 1, none⟩ = some (.int .i64 z.n)
theorem OvS.old {tb x y : Nat} {p q : Bool} {v : Value} {g k : Nat} {z : It} {w w' : World} (u : Old w w') (h : OvS tb x y p q v g k z w) : OvS tb x y p q v g k z w' := ⟨⟨u.keep h.1.1, u.keep h.1.2.1, u.keep h.1.2.2.1, u.keep h.1.2.2.2⟩, u.keep h.2.1, u.keep h.2.2.1, u.keep h.2.2.2⟩
attribute [local go_sem] run_bits run_frombits run_store_float
set_option maxHeartbeats 4000000 in
set_option maxRecDepth 20000 in
theorem rOver_any (base : Nat) (most : Int) (v : Value) (M : List It) (x y : Nat) (p q : Bool) (hx : Fl.W x) (hy : Fl.W y) (hW : ∀ z ∈ M, Fl.W z.k) (w : World) (h : OwnM base w v M) (hl : M.length ≤ 1000000) :
    Calls Try.prog 21 #[.agg #[.int .i64 most, v], .agg #[.float .f64 x, .float .f64 y, .bool p, .bool q]] w fun e w' => e = .returned (.int .i64 (overT (hasB x y p q) M M.length)) ∧ Old w w' := by
  obtain ⟨sa, sc, hv⟩ := h.len
  have HSh := hid (fun (e : 0 < M.length) => h.shape e)
  subst hv
  have HV := hid (((Old.refl w).alloc (.cells #[.int .i64 most, .slice sa M.length sc] 31)).alloc (.cells #[.float .f64 x, .float .f64 y, .bool p, .bool q] 25))
  have HB := hid (show ((w.alloc (.cells #[.int .i64 most, .slice sa M.length sc] 31)).alloc (.cells #[.float .f64 x, .float .f64 y, .bool p, .bool q] 25)).cell? ⟨w.heap.size, 1, none⟩ = some (.slice sa M.length sc) ∧ SpAt (w.heap.size + 1) x y p q ((w.alloc (.cells #[.int .i64 most, .slice sa M.length sc] 31)).alloc (.cells #[.float .f64 x, .float .f64 y, .bool p, .bool q] 25)) from by simp [SpAt])
  have HWi := hid (fun i (hi : i < M.length) => show Fl.W (atI M i).k from by rw [atI_get M i hi]; exact hW _ (List.getElem_mem hi))
  clear h hW
  generalize hN : M.length = N at *
  have hN1 := hid hN
  clear hN
  go_enter Try.func21, Try.ntmps21
  go_upto_region 1 with fail
  generalize (w.alloc (.cells #[.int .i64 most, .slice sa N sc] 31)).alloc (.cells #[.float .f64 x, .float .f64 y, .bool p, .bool q] 25) = w1 at *
  generalize w.heap.size = tb at *
  go_wp2
  go_loopw [5, 6] (fun r i wr => ∃ k : Nat, k ≤ N ∧ i = .int .i64 (k : Nat) ∧ r = .int .i64 (overT (hasB x y p q) M k) ∧ Old w1 wr) (fun _ i _ => N - (intOf i).toNat)
  case atStart => exact ⟨0, Nat.zero_le _, rfl, rfl, Old.refl _⟩
  case round =>
    obtain ⟨k, hkN, rfl, rfl, hu⟩ := hrel
    have HU := hid hu
    clear hu
    have b1 := HU.out.keep HB.out.1
    by_cases hlt : k < N
    · obtain ⟨g, cap, he, hgb, hgl, hi⟩ := HSh.out (by omega)
      simp only [Value.slice.injEq] at he
      obtain ⟨rfl, _, rfl⟩ := he
      obtain ⟨c0, c1⟩ := (hi k hlt).old (HV.out.trans HU.out)
      have l1 : (0 : Int) ≤ (k : Int) := by omega
      have l2 : (k : Int) < (N : Int) := by omega
      clear hi
      have hS : OvS tb x y p q (.slice (some ⟨g, 0, none⟩) N sc) g k (atI M k) wr := ⟨⟨HU.out.keep HB.out.2.1, HU.out.keep HB.out.2.2.1, HU.out.keep HB.out.2.2.2.1, HU.out.keep HB.out.2.2.2.2⟩, b1, c0, c1⟩
      have HS := hid hS
      have HOf2 := hid (fun (W : World) (u : Old wr W) => rof_old x y hx hy p q W)
      have HH2 := hid (fun (W : World) (u : Old wr W) => rhas_old x y hx hy p q (atI M k).k (HWi.out k hlt) W)
      have HST := hid (show overT (hasB x y p q) M (k + 1) = if hasB x y p q (atI M k).k = true then max (overT (hasB x y p q) M k) (atI M k).n else overT (hasB x y p q) M k from rfl)
      generalize overT (hasB x y p q) M k = r at *
      generalize Fl.rL x y p q = rl at *
      generalize Fl.rH x y p q = rh at *
      go_upto_region 5 with fail
      clear c0 c1 b1 hS
      generalize hzz : atI M k = z at *
      cases hh : hasB x y p q z.k
      · rw [hh] at HH2
        have HST2 := hid (HST.out.trans (if_neg (by rw [hh]; simp)))
        clear HST hh
        refine wp_region_noPanic ?_
        refine wp_region_held_drew (S := OvS tb x y p q (.slice (some ⟨g, 0, none⟩) N sc) g k z) (by kernel_rfl) ?_ (fun hHeld => ?_)
        · exact OvS.old ((Old.refl _).drew) HS.out
        (try simp only [Act.put]); (try simp only [List.setIfInBounds_toArray]); (try simp only [List.set_cons_succ]); (try simp only [List.set_cons_zero])
        clear hHeld
        refine wpAnyH_take (i := 0) (oi := { dst := some 14, op := Op.load 25 (Operand.tmp 3), type := 25, pos := "ref.go:43", after := #[], guard := none }) (v := ?vk20) rfl (by kernel_rfl) (by kernel_rfl) (by kernel_rfl) (fun _ _ _ h => h) (Or.inl ⟨by rfl, ?hk20⟩) (OvS.old ((Old.refl wr).drew) HS.out) ?rk20
        case hk20 => (intro wz hSw; (try dsimp only at hSw); go_simp; try with_reducible rfl)
        (try simp only [Act.put]); (try simp only [List.setIfInBounds_toArray]); (try simp only [List.set_cons_succ]); (try simp only [List.set_cons_zero])
        refine wpAnyH_take (i := 2) (oi := { dst := some 16, op := Op.fieldAddr 31 (Operand.tmp 2) 1, type := 0, pos := "ref.go:43", after := #[], guard := none }) (v := ?vk21) rfl (by kernel_rfl) (by kernel_rfl) (by kernel_rfl) (fun _ _ _ h => h) (Or.inl ⟨by rfl, ?hk21⟩) (OvS.old ((Old.refl wr).drew) HS.out) ?rk21
        case hk21 => (intro wz hSw; (try dsimp only at hSw); go_simp; try with_reducible rfl)
        (try simp only [Act.put]); (try simp only [List.setIfInBounds_toArray]); (try simp only [List.set_cons_succ]); (try simp only [List.set_cons_zero])
        refine wpAnyH_take (i := 3) (oi := { dst := some 17, op := Op.load 29 (Operand.tmp 16), type := 29, pos := "ref.go:43", after := #[{ on := 2, ground := Ground.data }], guard := none }) (v := ?vk22) rfl (by kernel_rfl) (by kernel_rfl) (by kernel_rfl) (fun _ _ _ h => h) (Or.inl ⟨by rfl, ?hk22⟩) (OvS.old ((Old.refl wr).drew) HS.out) ?rk22
        case hk22 => (intro wz hSw; (try dsimp only at hSw); go_simp; try with_reducible rfl)
        (try simp only [Act.put]); (try simp only [List.setIfInBounds_toArray]); (try simp only [List.set_cons_succ]); (try simp only [List.set_cons_zero])
        refine wpAnyH_take (i := 4) (oi := { dst := some 18, op := Op.move (Operand.tmp 6), type := 3, pos := "ref.go:43", after := #[], guard := none }) (v := ?vk23) rfl (by kernel_rfl) (by kernel_rfl) (by kernel_rfl) (fun _ _ _ h => h) (Or.inl ⟨by rfl, ?hk23⟩) (OvS.old ((Old.refl wr).drew) HS.out) ?rk23
        case hk23 => (intro wz hSw; (try dsimp only at hSw); go_simp; try with_reducible rfl)
        (try simp only [Act.put]); (try simp only [List.setIfInBounds_toArray]); (try simp only [List.set_cons_succ]); (try simp only [List.set_cons_zero])
        refine wpAnyH_take (i := 5) (oi := { dst := some 19, op := Op.indexAddr 29 (Operand.tmp 17) (Operand.tmp 18), type := 0, pos := "ref.go:43", after := #[{ on := 3, ground := Ground.data }, { on := 4, ground := Ground.data }], guard := none }) (v := ?vk24) rfl (by kernel_rfl) (by kernel_rfl) (by kernel_rfl) (fun _ _ _ h => h) (Or.inl ⟨by rfl, ?hk24⟩) (OvS.old ((Old.refl wr).drew) HS.out) ?rk24
        case hk24 => (intro wz hSw; (try dsimp only at hSw); go_simp; try with_reducible rfl)
        (try simp only [Act.put]); (try simp only [List.setIfInBounds_toArray]); (try simp only [List.set_cons_succ]); (try simp only [List.set_cons_zero])
        refine wpAnyH_take (i := 6) (oi := { dst := some 20, op := Op.fieldAddr 53 (Operand.tmp 19) 0, type := 0, pos := "ref.go:43", after := #[{ on := 5, ground := Ground.data }], guard := none }) (v := ?vk25) rfl (by kernel_rfl) (by kernel_rfl) (by kernel_rfl) (fun _ _ _ h => h) (Or.inl ⟨by rfl, ?hk25⟩) (OvS.old ((Old.refl wr).drew) HS.out) ?rk25
        case hk25 => (intro wz hSw; (try dsimp only at hSw); go_simp; try with_reducible rfl)
        (try simp only [Act.put]); (try simp only [List.setIfInBounds_toArray]); (try simp only [List.set_cons_succ]); (try simp only [List.set_cons_zero])
        refine wpAnyH_take (i := 7) (oi := { dst := some 21, op := Op.load 23 (Operand.tmp 20), type := 23, pos := "ref.go:43", after := #[{ on := 6, ground := Ground.data }], guard := none }) (v := ?vk26) rfl (by kernel_rfl) (by kernel_rfl) (by kernel_rfl) (fun _ _ _ h => h) (Or.inl ⟨by rfl, ?hk26⟩) (OvS.old ((Old.refl wr).drew) HS.out) ?rk26
        case hk26 => (intro wz hSw; (try dsimp only at hSw); go_simp; try with_reducible rfl)
        (try simp only [Act.put]); (try simp only [List.setIfInBounds_toArray]); (try simp only [List.set_cons_succ]); (try simp only [List.set_cons_zero])
        refine wpAnyH_ready (rs := [1]) (by kernel_rfl) (by simp) ?_
        refine AllReadyH.cons (o := { dst := some 15, op := Op.call { callee := Callee.value (Operand.func 55), args := #[Operand.tmp 14], argTypes := #[25] }, type := 83, pos := "ref.go:43", after := #[{ on := 0, ground := Ground.data }], guard := none }) rfl (fun K hK => ?_) AllReadyH.nil
        refine wantCall1 ?_ 55 (.tmp 14) #[25] ?_ (.agg #[.float .f64 x, .float .f64 y, .bool p, .bool q]) ?_ ?_ (ent_rof _ _) ?_
        · rfl
        · rfl
        · rfl
        · rfl
        refine (HOf2.out _ ((Old.refl wr).drew)).mono ?_
        rintro o x27 ⟨rfl, b27⟩
        refine ⟨_, rfl, ?_⟩
        have U27 := ((Old.refl wr).drew).trans b27
        refine hK.out _ _ (OvS.old U27 HS.out) (fun _ => ?_)
        clear hK K
        (try simp only [Act.put]); (try simp only [List.setIfInBounds_toArray]); (try simp only [List.set_cons_succ]); (try simp only [List.set_cons_zero])
        refine wpAnyH_ready (rs := [8]) (by kernel_rfl) (by simp) ?_
        refine AllReadyH.cons (o := { dst := some 22, op := Op.call { callee := Callee.value (Operand.func 54), args := #[Operand.tmp 15, Operand.tmp 21], argTypes := #[83, 23] }, type := 4, pos := "ref.go:43", after := #[{ on := 1, ground := Ground.data }, { on := 7, ground := Ground.data }, { on := 1, ground := Ground.chain }], guard := none }) rfl (fun K hK => ?_) AllReadyH.nil
        refine wantCall2 ?_ 54 (.tmp 15) (.tmp 21) #[83, 23] ?_ (.agg #[.int .u64 (rl : Nat), .int .u64 (rh : Nat)]) (.float .f64 z.k) ?_ ?_ ?_ (ent_rhas _ _) ?_
        · rfl
        · rfl
        · rfl
        · rfl
        · rfl
        refine (HH2.out _ U27).mono ?_
        rintro o x28 ⟨rfl, b28⟩
        refine ⟨_, rfl, ?_⟩
        have U28 := U27.trans b28
        refine hK.out _ _ (OvS.old U28 HS.out) (fun _ => ?_)
        clear hK K
        (try simp only [Act.put]); (try simp only [List.setIfInBounds_toArray]); (try simp only [List.set_cons_succ]); (try simp only [List.set_cons_zero])
        refine wpAnyH_take (i := 9) (oi := { dst := some 23, op := Op.move (Operand.tmp 22), type := 4, pos := "ref.go:43", after := #[{ on := 8, ground := Ground.data }, { on := 8, ground := Ground.chain }], guard := none }) (v := ?vk29) rfl (by kernel_rfl) (by kernel_rfl) (by kernel_rfl) (fun _ _ _ h => h) (Or.inl ⟨by rfl, ?hk29⟩) (OvS.old U28 HS.out) ?rk29
        case hk29 => (intro wz hSw; (try dsimp only at hSw); go_simp; try with_reducible rfl)
        (try simp only [Act.put]); (try simp only [List.setIfInBounds_toArray]); (try simp only [List.set_cons_succ]); (try simp only [List.set_cons_zero])
        refine wpAnyH_take (i := 10) (oi := { dst := some 24, op := Op.fieldAddr 31 (Operand.tmp 2) 1, type := 0, pos := "ref.go:43", after := #[{ on := 9, ground := Ground.guard }], guard := some (9, true) }) (v := undef) rfl (by kernel_rfl) (by kernel_rfl) (by kernel_rfl) (fun _ _ _ h => h) (Or.inr ⟨by rfl, rfl⟩) (OvS.old U28 HS.out) ?_
        (try simp only [Act.put]); (try simp only [List.setIfInBounds_toArray]); (try simp only [List.set_cons_succ]); (try simp only [List.set_cons_zero])
        refine wpAnyH_take (i := 11) (oi := { dst := some 25, op := Op.load 29 (Operand.tmp 24), type := 29, pos := "ref.go:43", after := #[{ on := 10, ground := Ground.data }, { on := 9, ground := Ground.guard }], guard := some (9, true) }) (v := undef) rfl (by kernel_rfl) (by kernel_rfl) (by kernel_rfl) (fun _ _ _ h => h) (Or.inr ⟨by rfl, rfl⟩) (OvS.old U28 HS.out) ?_
        (try simp only [Act.put]); (try simp only [List.setIfInBounds_toArray]); (try simp only [List.set_cons_succ]); (try simp only [List.set_cons_zero])
        refine wpAnyH_take (i := 12) (oi := { dst := some 26, op := Op.move (Operand.tmp 6), type := 3, pos := "ref.go:43", after := #[{ on := 9, ground := Ground.guard }], guard := some (9, true) }) (v := undef) rfl (by kernel_rfl) (by kernel_rfl) (by kernel_rfl) (fun _ _ _ h => h) (Or.inr ⟨by rfl, rfl⟩) (OvS.old U28 HS.out) ?_
        (try simp only [Act.put]); (try simp only [List.setIfInBounds_toArray]); (try simp only [List.set_cons_succ]); (try simp only [List.set_cons_zero])
        refine wpAnyH_take (i := 13) (oi := { dst := some 27, op := Op.indexAddr 29 (Operand.tmp 25) (Operand.tmp 26), type := 0, pos := "ref.go:43", after := #[{ on := 11, ground := Ground.data }, { on := 12, ground := Ground.data }, { on := 9, ground := Ground.guard }], guard := some (9, true) }) (v := undef) rfl (by kernel_rfl) (by kernel_rfl) (by kernel_rfl) (fun _ _ _ h => h) (Or.inr ⟨by rfl, rfl⟩) (OvS.old U28 HS.out) ?_
        (try simp only [Act.put]); (try simp only [List.setIfInBounds_toArray]); (try simp only [List.set_cons_succ]); (try simp only [List.set_cons_zero])
        refine wpAnyH_take (i := 14) (oi := { dst := some 28, op := Op.fieldAddr 53 (Operand.tmp 27) 1, type := 0, pos := "ref.go:43", after := #[{ on := 13, ground := Ground.data }, { on := 9, ground := Ground.guard }], guard := some (9, true) }) (v := undef) rfl (by kernel_rfl) (by kernel_rfl) (by kernel_rfl) (fun _ _ _ h => h) (Or.inr ⟨by rfl, rfl⟩) (OvS.old U28 HS.out) ?_
        (try simp only [Act.put]); (try simp only [List.setIfInBounds_toArray]); (try simp only [List.set_cons_succ]); (try simp only [List.set_cons_zero])
        refine wpAnyH_take (i := 15) (oi := { dst := some 29, op := Op.load 2 (Operand.tmp 28), type := 2, pos := "ref.go:43", after := #[{ on := 14, ground := Ground.data }, { on := 9, ground := Ground.guard }], guard := some (9, true) }) (v := undef) rfl (by kernel_rfl) (by kernel_rfl) (by kernel_rfl) (fun _ _ _ h => h) (Or.inr ⟨by rfl, rfl⟩) (OvS.old U28 HS.out) ?_
        (try simp only [Act.put]); (try simp only [List.setIfInBounds_toArray]); (try simp only [List.set_cons_succ]); (try simp only [List.set_cons_zero])
        refine wpAnyH_take (i := 16) (oi := { dst := some 30, op := Op.move (Operand.tmp 5), type := 2, pos := "ref.go:43", after := #[{ on := 9, ground := Ground.guard }], guard := some (9, true) }) (v := undef) rfl (by kernel_rfl) (by kernel_rfl) (by kernel_rfl) (fun _ _ _ h => h) (Or.inr ⟨by rfl, rfl⟩) (OvS.old U28 HS.out) ?_
        (try simp only [Act.put]); (try simp only [List.setIfInBounds_toArray]); (try simp only [List.set_cons_succ]); (try simp only [List.set_cons_zero])
        refine wpAnyH_take (i := 17) (oi := { dst := some 31, op := Op.binOp BinOp.gtr 2 (Operand.tmp 29) (Operand.tmp 30) 2, type := 4, pos := "ref.go:43", after := #[{ on := 15, ground := Ground.data }, { on := 16, ground := Ground.data }, { on := 9, ground := Ground.guard }], guard := some (9, true) }) (v := undef) rfl (by kernel_rfl) (by kernel_rfl) (by kernel_rfl) (fun _ _ _ h => h) (Or.inr ⟨by rfl, rfl⟩) (OvS.old U28 HS.out) ?_
        (try simp only [Act.put]); (try simp only [List.setIfInBounds_toArray]); (try simp only [List.set_cons_succ]); (try simp only [List.set_cons_zero])
        refine wpAnyH_take (i := 18) (oi := { dst := some 32, op := Op.pick (Operand.tmp 23) (Operand.tmp 31) (Operand.const (Value.bool false)), type := 4, pos := "ref.go:43", after := #[{ on := 9, ground := Ground.data }, { on := 17, ground := Ground.data }], guard := none }) (v := ?vk30) rfl (by kernel_rfl) (by kernel_rfl) (by kernel_rfl) (fun _ _ _ h => h) (Or.inl ⟨by rfl, ?hk30⟩) (OvS.old U28 HS.out) ?rk30
        case hk30 => (intro wz hSw; (try dsimp only at hSw); go_simp; try with_reducible rfl)
        (try simp only [Act.put]); (try simp only [List.setIfInBounds_toArray]); (try simp only [List.set_cons_succ]); (try simp only [List.set_cons_zero])
        refine wpAnyH_done (by kernel_rfl) ?_ _
        refine NoPanic.normal ?_
        have U9 := hid U28
        go_wp2
        go_roundw
        case rel => exact ⟨k + 1, hlt, by go_num, by rw [HST2.out], HU.out.trans U9.out⟩
        case measure => simp [intOf]; omega
      · rw [hh] at HH2
        have HST2 := hid (HST.out.trans (if_pos hh))
        clear HST hh
        by_cases hc : r < z.n
        · refine wp_region_noPanic ?_
          refine wp_region_held_drew (S := OvS tb x y p q (.slice (some ⟨g, 0, none⟩) N sc) g k z) (by kernel_rfl) ?_ (fun hHeld => ?_)
          · exact OvS.old ((Old.refl _).drew) HS.out
          (try simp only [Act.put]); (try simp only [List.setIfInBounds_toArray]); (try simp only [List.set_cons_succ]); (try simp only [List.set_cons_zero])
          clear hHeld
          refine wpAnyH_take (i := 0) (oi := { dst := some 14, op := Op.load 25 (Operand.tmp 3), type := 25, pos := "ref.go:43", after := #[], guard := none }) (v := ?vk1) rfl (by kernel_rfl) (by kernel_rfl) (by kernel_rfl) (fun _ _ _ h => h) (Or.inl ⟨by rfl, ?hk1⟩) (OvS.old ((Old.refl wr).drew) HS.out) ?rk1
          case hk1 => (intro wz hSw; (try dsimp only at hSw); go_simp; try with_reducible rfl)
          (try simp only [Act.put]); (try simp only [List.setIfInBounds_toArray]); (try simp only [List.set_cons_succ]); (try simp only [List.set_cons_zero])
          refine wpAnyH_take (i := 2) (oi := { dst := some 16, op := Op.fieldAddr 31 (Operand.tmp 2) 1, type := 0, pos := "ref.go:43", after := #[], guard := none }) (v := ?vk2) rfl (by kernel_rfl) (by kernel_rfl) (by kernel_rfl) (fun _ _ _ h => h) (Or.inl ⟨by rfl, ?hk2⟩) (OvS.old ((Old.refl wr).drew) HS.out) ?rk2
          case hk2 => (intro wz hSw; (try dsimp only at hSw); go_simp; try with_reducible rfl)
          (try simp only [Act.put]); (try simp only [List.setIfInBounds_toArray]); (try simp only [List.set_cons_succ]); (try simp only [List.set_cons_zero])
          refine wpAnyH_take (i := 3) (oi := { dst := some 17, op := Op.load 29 (Operand.tmp 16), type := 29, pos := "ref.go:43", after := #[{ on := 2, ground := Ground.data }], guard := none }) (v := ?vk3) rfl (by kernel_rfl) (by kernel_rfl) (by kernel_rfl) (fun _ _ _ h => h) (Or.inl ⟨by rfl, ?hk3⟩) (OvS.old ((Old.refl wr).drew) HS.out) ?rk3
          case hk3 => (intro wz hSw; (try dsimp only at hSw); go_simp; try with_reducible rfl)
          (try simp only [Act.put]); (try simp only [List.setIfInBounds_toArray]); (try simp only [List.set_cons_succ]); (try simp only [List.set_cons_zero])
          refine wpAnyH_take (i := 4) (oi := { dst := some 18, op := Op.move (Operand.tmp 6), type := 3, pos := "ref.go:43", after := #[], guard := none }) (v := ?vk4) rfl (by kernel_rfl) (by kernel_rfl) (by kernel_rfl) (fun _ _ _ h => h) (Or.inl ⟨by rfl, ?hk4⟩) (OvS.old ((Old.refl wr).drew) HS.out) ?rk4
          case hk4 => (intro wz hSw; (try dsimp only at hSw); go_simp; try with_reducible rfl)
          (try simp only [Act.put]); (try simp only [List.setIfInBounds_toArray]); (try simp only [List.set_cons_succ]); (try simp only [List.set_cons_zero])
          refine wpAnyH_take (i := 5) (oi := { dst := some 19, op := Op.indexAddr 29 (Operand.tmp 17) (Operand.tmp 18), type := 0, pos := "ref.go:43", after := #[{ on := 3, ground := Ground.data }, { on := 4, ground := Ground.data }], guard := none }) (v := ?vk5) rfl (by kernel_rfl) (by kernel_rfl) (by kernel_rfl) (fun _ _ _ h => h) (Or.inl ⟨by rfl, ?hk5⟩) (OvS.old ((Old.refl wr).drew) HS.out) ?rk5
          case hk5 => (intro wz hSw; (try dsimp only at hSw); go_simp; try with_reducible rfl)
          (try simp only [Act.put]); (try simp only [List.setIfInBounds_toArray]); (try simp only [List.set_cons_succ]); (try simp only [List.set_cons_zero])
          refine wpAnyH_take (i := 6) (oi := { dst := some 20, op := Op.fieldAddr 53 (Operand.tmp 19) 0, type := 0, pos := "ref.go:43", after := #[{ on := 5, ground := Ground.data }], guard := none }) (v := ?vk6) rfl (by kernel_rfl) (by kernel_rfl) (by kernel_rfl) (fun _ _ _ h => h) (Or.inl ⟨by rfl, ?hk6⟩) (OvS.old ((Old.refl wr).drew) HS.out) ?rk6
          case hk6 => (intro wz hSw; (try dsimp only at hSw); go_simp; try with_reducible rfl)
          (try simp only [Act.put]); (try simp only [List.setIfInBounds_toArray]); (try simp only [List.set_cons_succ]); (try simp only [List.set_cons_zero])
          refine wpAnyH_take (i := 7) (oi := { dst := some 21, op := Op.load 23 (Operand.tmp 20), type := 23, pos := "ref.go:43", after := #[{ on := 6, ground := Ground.data }], guard := none }) (v := ?vk7) rfl (by kernel_rfl) (by kernel_rfl) (by kernel_rfl) (fun _ _ _ h => h) (Or.inl ⟨by rfl, ?hk7⟩) (OvS.old ((Old.refl wr).drew) HS.out) ?rk7
          case hk7 => (intro wz hSw; (try dsimp only at hSw); go_simp; try with_reducible rfl)
          (try simp only [Act.put]); (try simp only [List.setIfInBounds_toArray]); (try simp only [List.set_cons_succ]); (try simp only [List.set_cons_zero])
          refine wpAnyH_ready (rs := [1]) (by kernel_rfl) (by simp) ?_
          refine AllReadyH.cons (o := { dst := some 15, op := Op.call { callee := Callee.value (Operand.func 55), args := #[Operand.tmp 14], argTypes := #[25] }, type := 83, pos := "ref.go:43", after := #[{ on := 0, ground := Ground.data }], guard := none }) rfl (fun K hK => ?_) AllReadyH.nil
          refine wantCall1 ?_ 55 (.tmp 14) #[25] ?_ (.agg #[.float .f64 x, .float .f64 y, .bool p, .bool q]) ?_ ?_ (ent_rof _ _) ?_
          · rfl
          · rfl
          · rfl
          · rfl
          refine (HOf2.out _ ((Old.refl wr).drew)).mono ?_
          rintro o x8 ⟨rfl, b8⟩
          refine ⟨_, rfl, ?_⟩
          have U8 := ((Old.refl wr).drew).trans b8
          refine hK.out _ _ (OvS.old U8 HS.out) (fun _ => ?_)
          clear hK K
          (try simp only [Act.put]); (try simp only [List.setIfInBounds_toArray]); (try simp only [List.set_cons_succ]); (try simp only [List.set_cons_zero])
          refine wpAnyH_ready (rs := [8]) (by kernel_rfl) (by simp) ?_
          refine AllReadyH.cons (o := { dst := some 22, op := Op.call { callee := Callee.value (Operand.func 54), args := #[Operand.tmp 15, Operand.tmp 21], argTypes := #[83, 23] }, type := 4, pos := "ref.go:43", after := #[{ on := 1, ground := Ground.data }, { on := 7, ground := Ground.data }, { on := 1, ground := Ground.chain }], guard := none }) rfl (fun K hK => ?_) AllReadyH.nil
          refine wantCall2 ?_ 54 (.tmp 15) (.tmp 21) #[83, 23] ?_ (.agg #[.int .u64 (rl : Nat), .int .u64 (rh : Nat)]) (.float .f64 z.k) ?_ ?_ ?_ (ent_rhas _ _) ?_
          · rfl
          · rfl
          · rfl
          · rfl
          · rfl
          refine (HH2.out _ U8).mono ?_
          rintro o x9 ⟨rfl, b9⟩
          refine ⟨_, rfl, ?_⟩
          have U9 := U8.trans b9
          refine hK.out _ _ (OvS.old U9 HS.out) (fun _ => ?_)
          clear hK K
          (try simp only [Act.put]); (try simp only [List.setIfInBounds_toArray]); (try simp only [List.set_cons_succ]); (try simp only [List.set_cons_zero])
          refine wpAnyH_take (i := 9) (oi := { dst := some 23, op := Op.move (Operand.tmp 22), type := 4, pos := "ref.go:43", after := #[{ on := 8, ground := Ground.data }, { on := 8, ground := Ground.chain }], guard := none }) (v := ?vk10) rfl (by kernel_rfl) (by kernel_rfl) (by kernel_rfl) (fun _ _ _ h => h) (Or.inl ⟨by rfl, ?hk10⟩) (OvS.old U9 HS.out) ?rk10
          case hk10 => (intro wz hSw; (try dsimp only at hSw); go_simp; try with_reducible rfl)
          (try simp only [Act.put]); (try simp only [List.setIfInBounds_toArray]); (try simp only [List.set_cons_succ]); (try simp only [List.set_cons_zero])
          refine wpAnyH_take (i := 10) (oi := { dst := some 24, op := Op.fieldAddr 31 (Operand.tmp 2) 1, type := 0, pos := "ref.go:43", after := #[{ on := 9, ground := Ground.guard }], guard := some (9, true) }) (v := ?vk11) rfl (by kernel_rfl) (by kernel_rfl) (by kernel_rfl) (fun _ _ _ h => h) (Or.inl ⟨by rfl, ?hk11⟩) (OvS.old U9 HS.out) ?rk11
          case hk11 => (intro wz hSw; (try dsimp only at hSw); go_simp; try with_reducible rfl)
          (try simp only [Act.put]); (try simp only [List.setIfInBounds_toArray]); (try simp only [List.set_cons_succ]); (try simp only [List.set_cons_zero])
          refine wpAnyH_take (i := 11) (oi := { dst := some 25, op := Op.load 29 (Operand.tmp 24), type := 29, pos := "ref.go:43", after := #[{ on := 10, ground := Ground.data }, { on := 9, ground := Ground.guard }], guard := some (9, true) }) (v := ?vk12) rfl (by kernel_rfl) (by kernel_rfl) (by kernel_rfl) (fun _ _ _ h => h) (Or.inl ⟨by rfl, ?hk12⟩) (OvS.old U9 HS.out) ?rk12
          case hk12 => (intro wz hSw; (try dsimp only at hSw); go_simp; try with_reducible rfl)
          (try simp only [Act.put]); (try simp only [List.setIfInBounds_toArray]); (try simp only [List.set_cons_succ]); (try simp only [List.set_cons_zero])
          refine wpAnyH_take (i := 12) (oi := { dst := some 26, op := Op.move (Operand.tmp 6), type := 3, pos := "ref.go:43", after := #[{ on := 9, ground := Ground.guard }], guard := some (9, true) }) (v := ?vk13) rfl (by kernel_rfl) (by kernel_rfl) (by kernel_rfl) (fun _ _ _ h => h) (Or.inl ⟨by rfl, ?hk13⟩) (OvS.old U9 HS.out) ?rk13
          case hk13 => (intro wz hSw; (try dsimp only at hSw); go_simp; try with_reducible rfl)
          (try simp only [Act.put]); (try simp only [List.setIfInBounds_toArray]); (try simp only [List.set_cons_succ]); (try simp only [List.set_cons_zero])
          refine wpAnyH_take (i := 13) (oi := { dst := some 27, op := Op.indexAddr 29 (Operand.tmp 25) (Operand.tmp 26), type := 0, pos := "ref.go:43", after := #[{ on := 11, ground := Ground.data }, { on := 12, ground := Ground.data }, { on := 9, ground := Ground.guard }], guard := some (9, true) }) (v := ?vk14) rfl (by kernel_rfl) (by kernel_rfl) (by kernel_rfl) (fun _ _ _ h => h) (Or.inl ⟨by rfl, ?hk14⟩) (OvS.old U9 HS.out) ?rk14
          case hk14 => (intro wz hSw; (try dsimp only at hSw); go_simp; try with_reducible rfl)
          (try simp only [Act.put]); (try simp only [List.setIfInBounds_toArray]); (try simp only [List.set_cons_succ]); (try simp only [List.set_cons_zero])
          refine wpAnyH_take (i := 14) (oi := { dst := some 28, op := Op.fieldAddr 53 (Operand.tmp 27) 1, type := 0, pos := "ref.go:43", after := #[{ on := 13, ground := Ground.data }, { on := 9, ground := Ground.guard }], guard := some (9, true) }) (v := ?vk15) rfl (by kernel_rfl) (by kernel_rfl) (by kernel_rfl) (fun _ _ _ h => h) (Or.inl ⟨by rfl, ?hk15⟩) (OvS.old U9 HS.out) ?rk15
          case hk15 => (intro wz hSw; (try dsimp only at hSw); go_simp; try with_reducible rfl)
          (try simp only [Act.put]); (try simp only [List.setIfInBounds_toArray]); (try simp only [List.set_cons_succ]); (try simp only [List.set_cons_zero])
          refine wpAnyH_take (i := 15) (oi := { dst := some 29, op := Op.load 2 (Operand.tmp 28), type := 2, pos := "ref.go:43", after := #[{ on := 14, ground := Ground.data }, { on := 9, ground := Ground.guard }], guard := some (9, true) }) (v := ?vk16) rfl (by kernel_rfl) (by kernel_rfl) (by kernel_rfl) (fun _ _ _ h => h) (Or.inl ⟨by rfl, ?hk16⟩) (OvS.old U9 HS.out) ?rk16
          case hk16 => (intro wz hSw; (try dsimp only at hSw); go_simp; try with_reducible rfl)
          (try simp only [Act.put]); (try simp only [List.setIfInBounds_toArray]); (try simp only [List.set_cons_succ]); (try simp only [List.set_cons_zero])
          refine wpAnyH_take (i := 16) (oi := { dst := some 30, op := Op.move (Operand.tmp 5), type := 2, pos := "ref.go:43", after := #[{ on := 9, ground := Ground.guard }], guard := some (9, true) }) (v := ?vk17) rfl (by kernel_rfl) (by kernel_rfl) (by kernel_rfl) (fun _ _ _ h => h) (Or.inl ⟨by rfl, ?hk17⟩) (OvS.old U9 HS.out) ?rk17
          case hk17 => (intro wz hSw; (try dsimp only at hSw); go_simp; try with_reducible rfl)
          (try simp only [Act.put]); (try simp only [List.setIfInBounds_toArray]); (try simp only [List.set_cons_succ]); (try simp only [List.set_cons_zero])
          refine wpAnyH_take (i := 17) (oi := { dst := some 31, op := Op.binOp BinOp.gtr 2 (Operand.tmp 29) (Operand.tmp 30) 2, type := 4, pos := "ref.go:43", after := #[{ on := 15, ground := Ground.data }, { on := 16, ground := Ground.data }, { on := 9, ground := Ground.guard }], guard := some (9, true) }) (v := ?vk18) rfl (by kernel_rfl) (by kernel_rfl) (by kernel_rfl) (fun _ _ _ h => h) (Or.inl ⟨by rfl, ?hk18⟩) (OvS.old U9 HS.out) ?rk18
          case hk18 => (intro wz hSw; (try dsimp only at hSw); go_simp; try with_reducible rfl)
          (try simp only [Act.put]); (try simp only [List.setIfInBounds_toArray]); (try simp only [List.set_cons_succ]); (try simp only [List.set_cons_zero])
          refine wpAnyH_take (i := 18) (oi := { dst := some 32, op := Op.pick (Operand.tmp 23) (Operand.tmp 31) (Operand.const (Value.bool false)), type := 4, pos := "ref.go:43", after := #[{ on := 9, ground := Ground.data }, { on := 17, ground := Ground.data }], guard := none }) (v := ?vk19) rfl (by kernel_rfl) (by kernel_rfl) (by kernel_rfl) (fun _ _ _ h => h) (Or.inl ⟨by rfl, ?hk19⟩) (OvS.old U9 HS.out) ?rk19
          case hk19 => (intro wz hSw; (try dsimp only at hSw); go_simp; try with_reducible rfl)
          (try simp only [Act.put]); (try simp only [List.setIfInBounds_toArray]); (try simp only [List.set_cons_succ]); (try simp only [List.set_cons_zero])
          refine wpAnyH_done (by kernel_rfl) ?_ _
          refine NoPanic.normal ?_
          have U9 := hid U9
          obtain ⟨_, e1, e2, e3⟩ := OvS.old U9.out HS.out
          go_wp2
          go_roundw
          case rel => exact ⟨k + 1, hlt, by go_num, by rw [HST2.out]; congr 1; omega, HU.out.trans U9.out⟩
          case measure => simp [intOf]; omega
        · refine wp_region_noPanic ?_
          refine wp_region_held_drew (S := OvS tb x y p q (.slice (some ⟨g, 0, none⟩) N sc) g k z) (by kernel_rfl) ?_ (fun hHeld => ?_)
          · exact OvS.old ((Old.refl _).drew) HS.out
          (try simp only [Act.put]); (try simp only [List.setIfInBounds_toArray]); (try simp only [List.set_cons_succ]); (try simp only [List.set_cons_zero])
          clear hHeld
          refine wpAnyH_take (i := 0) (oi := { dst := some 14, op := Op.load 25 (Operand.tmp 3), type := 25, pos := "ref.go:43", after := #[], guard := none }) (v := ?vk31) rfl (by kernel_rfl) (by kernel_rfl) (by kernel_rfl) (fun _ _ _ h => h) (Or.inl ⟨by rfl, ?hk31⟩) (OvS.old ((Old.refl wr).drew) HS.out) ?rk31
          case hk31 => (intro wz hSw; (try dsimp only at hSw); go_simp; try with_reducible rfl)
          (try simp only [Act.put]); (try simp only [List.setIfInBounds_toArray]); (try simp only [List.set_cons_succ]); (try simp only [List.set_cons_zero])
          refine wpAnyH_take (i := 2) (oi := { dst := some 16, op := Op.fieldAddr 31 (Operand.tmp 2) 1, type := 0, pos := "ref.go:43", after := #[], guard := none }) (v := ?vk32) rfl (by kernel_rfl) (by kernel_rfl) (by kernel_rfl) (fun _ _ _ h => h) (Or.inl ⟨by rfl, ?hk32⟩) (OvS.old ((Old.refl wr).drew) HS.out) ?rk32
          case hk32 => (intro wz hSw; (try dsimp only at hSw); go_simp; try with_reducible rfl)
          (try simp only [Act.put]); (try simp only [List.setIfInBounds_toArray]); (try simp only [List.set_cons_succ]); (try simp only [List.set_cons_zero])
          refine wpAnyH_take (i := 3) (oi := { dst := some 17, op := Op.load 29 (Operand.tmp 16), type := 29, pos := "ref.go:43", after := #[{ on := 2, ground := Ground.data }], guard := none }) (v := ?vk33) rfl (by kernel_rfl) (by kernel_rfl) (by kernel_rfl) (fun _ _ _ h => h) (Or.inl ⟨by rfl, ?hk33⟩) (OvS.old ((Old.refl wr).drew) HS.out) ?rk33
          case hk33 => (intro wz hSw; (try dsimp only at hSw); go_simp; try with_reducible rfl)
          (try simp only [Act.put]); (try simp only [List.setIfInBounds_toArray]); (try simp only [List.set_cons_succ]); (try simp only [List.set_cons_zero])
          refine wpAnyH_take (i := 4) (oi := { dst := some 18, op := Op.move (Operand.tmp 6), type := 3, pos := "ref.go:43", after := #[], guard := none }) (v := ?vk34) rfl (by kernel_rfl) (by kernel_rfl) (by kernel_rfl) (fun _ _ _ h => h) (Or.inl ⟨by rfl, ?hk34⟩) (OvS.old ((Old.refl wr).drew) HS.out) ?rk34
          case hk34 => (intro wz hSw; (try dsimp only at hSw); go_simp; try with_reducible rfl)
          (try simp only [Act.put]); (try simp only [List.setIfInBounds_toArray]); (try simp only [List.set_cons_succ]); (try simp only [List.set_cons_zero])
          refine wpAnyH_take (i := 5) (oi := { dst := some 19, op := Op.indexAddr 29 (Operand.tmp 17) (Operand.tmp 18), type := 0, pos := "ref.go:43", after := #[{ on := 3, ground := Ground.data }, { on := 4, ground := Ground.data }], guard := none }) (v := ?vk35) rfl (by kernel_rfl) (by kernel_rfl) (by kernel_rfl) (fun _ _ _ h => h) (Or.inl ⟨by rfl, ?hk35⟩) (OvS.old ((Old.refl wr).drew) HS.out) ?rk35
          case hk35 => (intro wz hSw; (try dsimp only at hSw); go_simp; try with_reducible rfl)
          (try simp only [Act.put]); (try simp only [List.setIfInBounds_toArray]); (try simp only [List.set_cons_succ]); (try simp only [List.set_cons_zero])
          refine wpAnyH_take (i := 6) (oi := { dst := some 20, op := Op.fieldAddr 53 (Operand.tmp 19) 0, type := 0, pos := "ref.go:43", after := #[{ on := 5, ground := Ground.data }], guard := none }) (v := ?vk36) rfl (by kernel_rfl) (by kernel_rfl) (by kernel_rfl) (fun _ _ _ h => h) (Or.inl ⟨by rfl, ?hk36⟩) (OvS.old ((Old.refl wr).drew) HS.out) ?rk36
          case hk36 => (intro wz hSw; (try dsimp only at hSw); go_simp; try with_reducible rfl)
          (try simp only [Act.put]); (try simp only [List.setIfInBounds_toArray]); (try simp only [List.set_cons_succ]); (try simp only [List.set_cons_zero])
          refine wpAnyH_take (i := 7) (oi := { dst := some 21, op := Op.load 23 (Operand.tmp 20), type := 23, pos := "ref.go:43", after := #[{ on := 6, ground := Ground.data }], guard := none }) (v := ?vk37) rfl (by kernel_rfl) (by kernel_rfl) (by kernel_rfl) (fun _ _ _ h => h) (Or.inl ⟨by rfl, ?hk37⟩) (OvS.old ((Old.refl wr).drew) HS.out) ?rk37
          case hk37 => (intro wz hSw; (try dsimp only at hSw); go_simp; try with_reducible rfl)
          (try simp only [Act.put]); (try simp only [List.setIfInBounds_toArray]); (try simp only [List.set_cons_succ]); (try simp only [List.set_cons_zero])
          refine wpAnyH_ready (rs := [1]) (by kernel_rfl) (by simp) ?_
          refine AllReadyH.cons (o := { dst := some 15, op := Op.call { callee := Callee.value (Operand.func 55), args := #[Operand.tmp 14], argTypes := #[25] }, type := 83, pos := "ref.go:43", after := #[{ on := 0, ground := Ground.data }], guard := none }) rfl (fun K hK => ?_) AllReadyH.nil
          refine wantCall1 ?_ 55 (.tmp 14) #[25] ?_ (.agg #[.float .f64 x, .float .f64 y, .bool p, .bool q]) ?_ ?_ (ent_rof _ _) ?_
          · rfl
          · rfl
          · rfl
          · rfl
          refine (HOf2.out _ ((Old.refl wr).drew)).mono ?_
          rintro o x38 ⟨rfl, b38⟩
          refine ⟨_, rfl, ?_⟩
          have U38 := ((Old.refl wr).drew).trans b38
          refine hK.out _ _ (OvS.old U38 HS.out) (fun _ => ?_)
          clear hK K
          (try simp only [Act.put]); (try simp only [List.setIfInBounds_toArray]); (try simp only [List.set_cons_succ]); (try simp only [List.set_cons_zero])
          refine wpAnyH_ready (rs := [8]) (by kernel_rfl) (by simp) ?_
          refine AllReadyH.cons (o := { dst := some 22, op := Op.call { callee := Callee.value (Operand.func 54), args := #[Operand.tmp 15, Operand.tmp 21], argTypes := #[83, 23] }, type := 4, pos := "ref.go:43", after := #[{ on := 1, ground := Ground.data }, { on := 7, ground := Ground.data }, { on := 1, ground := Ground.chain }], guard := none }) rfl (fun K hK => ?_) AllReadyH.nil
          refine wantCall2 ?_ 54 (.tmp 15) (.tmp 21) #[83, 23] ?_ (.agg #[.int .u64 (rl : Nat), .int .u64 (rh : Nat)]) (.float .f64 z.k) ?_ ?_ ?_ (ent_rhas _ _) ?_
          · rfl
          · rfl
          · rfl
          · rfl
          · rfl
          refine (HH2.out _ U38).mono ?_
          rintro o x39 ⟨rfl, b39⟩
          refine ⟨_, rfl, ?_⟩
          have U39 := U38.trans b39
          refine hK.out _ _ (OvS.old U39 HS.out) (fun _ => ?_)
          clear hK K
          (try simp only [Act.put]); (try simp only [List.setIfInBounds_toArray]); (try simp only [List.set_cons_succ]); (try simp only [List.set_cons_zero])
          refine wpAnyH_take (i := 9) (oi := { dst := some 23, op := Op.move (Operand.tmp 22), type := 4, pos := "ref.go:43", after := #[{ on := 8, ground := Ground.data }, { on := 8, ground := Ground.chain }], guard := none }) (v := ?vk40) rfl (by kernel_rfl) (by kernel_rfl) (by kernel_rfl) (fun _ _ _ h => h) (Or.inl ⟨by rfl, ?hk40⟩) (OvS.old U39 HS.out) ?rk40
          case hk40 => (intro wz hSw; (try dsimp only at hSw); go_simp; try with_reducible rfl)
          (try simp only [Act.put]); (try simp only [List.setIfInBounds_toArray]); (try simp only [List.set_cons_succ]); (try simp only [List.set_cons_zero])
          refine wpAnyH_take (i := 10) (oi := { dst := some 24, op := Op.fieldAddr 31 (Operand.tmp 2) 1, type := 0, pos := "ref.go:43", after := #[{ on := 9, ground := Ground.guard }], guard := some (9, true) }) (v := ?vk41) rfl (by kernel_rfl) (by kernel_rfl) (by kernel_rfl) (fun _ _ _ h => h) (Or.inl ⟨by rfl, ?hk41⟩) (OvS.old U39 HS.out) ?rk41
          case hk41 => (intro wz hSw; (try dsimp only at hSw); go_simp; try with_reducible rfl)
          (try simp only [Act.put]); (try simp only [List.setIfInBounds_toArray]); (try simp only [List.set_cons_succ]); (try simp only [List.set_cons_zero])
          refine wpAnyH_take (i := 11) (oi := { dst := some 25, op := Op.load 29 (Operand.tmp 24), type := 29, pos := "ref.go:43", after := #[{ on := 10, ground := Ground.data }, { on := 9, ground := Ground.guard }], guard := some (9, true) }) (v := ?vk42) rfl (by kernel_rfl) (by kernel_rfl) (by kernel_rfl) (fun _ _ _ h => h) (Or.inl ⟨by rfl, ?hk42⟩) (OvS.old U39 HS.out) ?rk42
          case hk42 => (intro wz hSw; (try dsimp only at hSw); go_simp; try with_reducible rfl)
          (try simp only [Act.put]); (try simp only [List.setIfInBounds_toArray]); (try simp only [List.set_cons_succ]); (try simp only [List.set_cons_zero])
          refine wpAnyH_take (i := 12) (oi := { dst := some 26, op := Op.move (Operand.tmp 6), type := 3, pos := "ref.go:43", after := #[{ on := 9, ground := Ground.guard }], guard := some (9, true) }) (v := ?vk43) rfl (by kernel_rfl) (by kernel_rfl) (by kernel_rfl) (fun _ _ _ h => h) (Or.inl ⟨by rfl, ?hk43⟩) (OvS.old U39 HS.out) ?rk43
          case hk43 => (intro wz hSw; (try dsimp only at hSw); go_simp; try with_reducible rfl)
          (try simp only [Act.put]); (try simp only [List.setIfInBounds_toArray]); (try simp only [List.set_cons_succ]); (try simp only [List.set_cons_zero])
          refine wpAnyH_take (i := 13) (oi := { dst := some 27, op := Op.indexAddr 29 (Operand.tmp 25) (Operand.tmp 26), type := 0, pos := "ref.go:43", after := #[{ on := 11, ground := Ground.data }, { on := 12, ground := Ground.data }, { on := 9, ground := Ground.guard }], guard := some (9, true) }) (v := ?vk44) rfl (by kernel_rfl) (by kernel_rfl) (by kernel_rfl) (fun _ _ _ h => h) (Or.inl ⟨by rfl, ?hk44⟩) (OvS.old U39 HS.out) ?rk44
          case hk44 => (intro wz hSw; (try dsimp only at hSw); go_simp; try with_reducible rfl)
          (try simp only [Act.put]); (try simp only [List.setIfInBounds_toArray]); (try simp only [List.set_cons_succ]); (try simp only [List.set_cons_zero])
          refine wpAnyH_take (i := 14) (oi := { dst := some 28, op := Op.fieldAddr 53 (Operand.tmp 27) 1, type := 0, pos := "ref.go:43", after := #[{ on := 13, ground := Ground.data }, { on := 9, ground := Ground.guard }], guard := some (9, true) }) (v := ?vk45) rfl (by kernel_rfl) (by kernel_rfl) (by kernel_rfl) (fun _ _ _ h => h) (Or.inl ⟨by rfl, ?hk45⟩) (OvS.old U39 HS.out) ?rk45
          case hk45 => (intro wz hSw; (try dsimp only at hSw); go_simp; try with_reducible rfl)
          (try simp only [Act.put]); (try simp only [List.setIfInBounds_toArray]); (try simp only [List.set_cons_succ]); (try simp only [List.set_cons_zero])
          refine wpAnyH_take (i := 15) (oi := { dst := some 29, op := Op.load 2 (Operand.tmp 28), type := 2, pos := "ref.go:43", after := #[{ on := 14, ground := Ground.data }, { on := 9, ground := Ground.guard }], guard := some (9, true) }) (v := ?vk46) rfl (by kernel_rfl) (by kernel_rfl) (by kernel_rfl) (fun _ _ _ h => h) (Or.inl ⟨by rfl, ?hk46⟩) (OvS.old U39 HS.out) ?rk46
          case hk46 => (intro wz hSw; (try dsimp only at hSw); go_simp; try with_reducible rfl)
          (try simp only [Act.put]); (try simp only [List.setIfInBounds_toArray]); (try simp only [List.set_cons_succ]); (try simp only [List.set_cons_zero])
          refine wpAnyH_take (i := 16) (oi := { dst := some 30, op := Op.move (Operand.tmp 5), type := 2, pos := "ref.go:43", after := #[{ on := 9, ground := Ground.guard }], guard := some (9, true) }) (v := ?vk47) rfl (by kernel_rfl) (by kernel_rfl) (by kernel_rfl) (fun _ _ _ h => h) (Or.inl ⟨by rfl, ?hk47⟩) (OvS.old U39 HS.out) ?rk47
          case hk47 => (intro wz hSw; (try dsimp only at hSw); go_simp; try with_reducible rfl)
          (try simp only [Act.put]); (try simp only [List.setIfInBounds_toArray]); (try simp only [List.set_cons_succ]); (try simp only [List.set_cons_zero])
          refine wpAnyH_take (i := 17) (oi := { dst := some 31, op := Op.binOp BinOp.gtr 2 (Operand.tmp 29) (Operand.tmp 30) 2, type := 4, pos := "ref.go:43", after := #[{ on := 15, ground := Ground.data }, { on := 16, ground := Ground.data }, { on := 9, ground := Ground.guard }], guard := some (9, true) }) (v := ?vk48) rfl (by kernel_rfl) (by kernel_rfl) (by kernel_rfl) (fun _ _ _ h => h) (Or.inl ⟨by rfl, ?hk48⟩) (OvS.old U39 HS.out) ?rk48
          case hk48 => (intro wz hSw; (try dsimp only at hSw); go_simp; try with_reducible rfl)
          (try simp only [Act.put]); (try simp only [List.setIfInBounds_toArray]); (try simp only [List.set_cons_succ]); (try simp only [List.set_cons_zero])
          refine wpAnyH_take (i := 18) (oi := { dst := some 32, op := Op.pick (Operand.tmp 23) (Operand.tmp 31) (Operand.const (Value.bool false)), type := 4, pos := "ref.go:43", after := #[{ on := 9, ground := Ground.data }, { on := 17, ground := Ground.data }], guard := none }) (v := ?vk49) rfl (by kernel_rfl) (by kernel_rfl) (by kernel_rfl) (fun _ _ _ h => h) (Or.inl ⟨by rfl, ?hk49⟩) (OvS.old U39 HS.out) ?rk49
          case hk49 => (intro wz hSw; (try dsimp only at hSw); go_simp; try with_reducible rfl)
          (try simp only [Act.put]); (try simp only [List.setIfInBounds_toArray]); (try simp only [List.set_cons_succ]); (try simp only [List.set_cons_zero])
          refine wpAnyH_done (by kernel_rfl) ?_ _
          refine NoPanic.normal ?_
          have U9 := hid U39
          go_wp2
          go_roundw
          case rel => exact ⟨k + 1, hlt, by go_num, by rw [HST2.out]; congr 1; omega, HU.out.trans U9.out⟩
          case measure => simp [intOf]; omega
    · obtain rfl : k = N := by omega
      have HE := hid (show overT (hasB x y p q) M M.length = overT (hasB x y p q) M k from by rw [hN1.out])
      go_wp2
      go_ret
      exact ⟨ret_i (by first | rfl | exact HE.out.symm), HV.out.trans HU.out⟩
end Go.Proofs.Ytbjikfcegiagjaa
