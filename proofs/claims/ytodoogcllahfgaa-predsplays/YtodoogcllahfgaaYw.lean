/- preds: the document's All; conditions: the lengths fit. -/
import Derived.Test.YtodoogcllahfgaaYp
import Derived.Test.YtodoogcllahfgaaYs
import Derived.Test.YtodoogcllahfgaaRc
namespace Go.Proofs.Ytodoogcllahfgaa
open Go.RowKit Go.Lib
set_option linter.unusedVariables false
set_option linter.unusedSimpArgs false
set_option maxRecDepth 20000
/-- A range that is a form's. -/
def RF (x : Rt) : Prop := ∃ u v, Fl.IsForm u v false ∧ x.l = Fl.code u ∧ x.h = Fl.code v
def kR (x : Rt) : Nat := 18446744073709551616 * x.l + x.h
/-- How many stand ahead of an item. -/
def cntM (M : List Rt) (x : Rt) : Nat := M.countP fun y => decide (kR y < kR x)
theorem cnt_step (M : List Rt) (x : Rt) (j : Nat) (hj : j < M.length) : cntM (M.take (j + 1)) x = cntM (M.take j) x + (if kR (atR M j) < kR x then 1 else 0) := by
  unfold cntM
  rw [List.take_add_one, List.countP_append, List.getElem?_eq_getElem hj, atR_get M j hj]
  by_cases h : kR M[j] < kR x <;> simp [h]
theorem cnt_take (M : List Rt) (x : Rt) : cntM (M.take M.length) x = cntM M x := by rw [List.take_length]
theorem cnt_le (M : List Rt) (x : Rt) : cntM M x ≤ M.length := List.countP_le_length
def selM (M : List Rt) (i k : Nat) : List Rt := (M.take k).filter fun x => decide (cntM M x = i)
theorem sel_step (M : List Rt) (i j : Nat) (hj : j < M.length) : selM M i (j + 1) = selM M i j ++ (if cntM M (atR M j) = i then [atR M j] else []) := by
  unfold selM
  rw [List.take_add_one, List.filter_append, List.getElem?_eq_getElem hj, atR_get M j hj]
  by_cases h : cntM M M[j] = i <;> simp [h]
theorem sel_len (M : List Rt) (i k : Nat) : (selM M i k).length ≤ M.length := Nat.le_trans (List.length_filter_le _ _) (List.length_take_le' _ _)
def outM (M : List Rt) : Nat → List Rt
  | 0 => []
  | i + 1 => outM M i ++ selM M i M.length
theorem out_len (M : List Rt) : ∀ i, (outM M i).length ≤ i * M.length
  | 0 => by simp [outM]
  | i + 1 => by
    have := out_len M i
    have := sel_len M i M.length
    rw [outM, List.length_append, Nat.add_mul]
    omega
def cmpQ (x y : Rt) : Int := if x.l < y.l then -1 else if y.l < x.l then 1 else if x.h < y.h then -1 else if y.h < x.h then 1 else 0
theorem rcmp_old (x y : Rt) (hx : RF x) (hy : RF y) (w : World) : Calls Try.prog 31 #[.agg #[.int .u64 (x.l : Nat), .int .u64 (x.h : Nat)], .agg #[.int .u64 (y.l : Nat), .int .u64 (y.h : Nat)]] w fun e w' => e = .returned (.int .i64 (cmpQ x y)) ∧ Old w w' := by
  obtain ⟨u, v, hf, e1, e2⟩ := hx
  obtain ⟨u', v', hf', e3, e4⟩ := hy
  have h0 := rCmp_form hf hf' w
  have q1 : Fl.rl u false = x.l := by rw [e1]; rfl
  have q2 : Fl.rh v false = x.h := by rw [e2]; rfl
  have q3 : Fl.rl u' false = y.l := by rw [e3]; rfl
  have q4 : Fl.rh v' false = y.h := by rw [e4]; rfl
  rw [q1, q2, q3, q4] at h0
  refine h0.mono fun e w' h => ⟨?_, h.2.old⟩
  rw [h.1]
  unfold cmpQ
  rw [e1, e2, e3, e4]
  rfl
theorem RF.lt {x : Rt} (h : RF x) : x.h < 18446744073709551616 := by
  obtain ⟨u, v, hf, e1, e2⟩ := h
  rw [e2]; exact (code_lt hf).2
theorem cmpQ_neg (x y : Rt) (hx : RF x) (hy : RF y) : (cmpQ x y < 0) ↔ kR x < kR y := by
  have a := hx.lt
  have b := hy.lt
  unfold cmpQ kR
  (repeat' split) <;> omega
theorem box1 (w : World) (most : Int) (v : Value) (w1 : World) (e : w.alloc (.cells #[.int .i64 most, v] 29) = w1) (tb : Nat) (hb : w.heap.size = tb) : Old w w1 ∧ w1.heap.size = tb + 1 ∧ w1.cell? ⟨tb, 1, none⟩ = some v := by
  subst e hb
  exact ⟨(Old.refl w).alloc _, by simp, by rw [cell_of_heap (alloc_heap w _ _ rfl)]; rfl⟩
theorem ent_rcm (args : Array Value) (w : World) : (callFunc 31 args).run Try.prog w = .ok (.enter 31 args) w := by kernel_rfl
abbrev AlS (tb : Nat) (v : Value) (g t j : Nat) (y x : Rt) (w : World) : Prop := w.cell? ⟨tb, 1, none⟩ = some v ∧ w.cell? ⟨g, t * 3, none⟩ = some (.int .u64 (y.l : Nat)) ∧ w.cell? ⟨g, t * 3 + 1, none⟩ = some (.int .u64 (y.h : Nat)) ∧ w.cell? ⟨g, j * 3, none⟩ = some (.int .u64 (x.l : Nat)) ∧ w.cell? ⟨g, j * 3 + 1, none⟩ = some (.int .u64 (x.h : Nat))
theorem AlS.old {tb : Nat} {v : Value} {g t j : Nat} {y x : Rt} {w w' : World} (u : Old w w') (h : AlS tb v g t j y x w) : AlS tb v g t j y x w' := ⟨u.keep h.1, u.keep h.2.1, u.keep h.2.2.1, u.keep h.2.2.2.1, u.keep h.2.2.2.2⟩
attribute [local go_sem] run_bits run_frombits run_store_float
set_option maxHeartbeats 4000000 in
set_option maxRecDepth 20000 in
theorem rAll_any (base : Nat) (most : Int) (v : Value) (M : List Rt) (hW : ∀ z ∈ M, RF z) (w : World) (h : OwnM base w v M) (hl : M.length ≤ 1000000) :
    Calls Try.prog 16 #[.agg #[.int .i64 most, v]] w fun e w' => ∃ v', e = .returned v' ∧ OwnM w.heap.size w' v' (outM M M.length) ∧ Old w w' := by
  obtain ⟨sa, sc, hv⟩ := h.len
  have HSh := hid (fun (e : 0 < M.length) => h.shape e)
  have HWi := hid (fun i (hi : i < M.length) => show RF (atR M i) from by rw [atR_get M i hi]; exact hW _ (List.getElem_mem hi))
  have HCs := hid (fun x => cnt_step M x)
  have HCt := hid (cnt_take M)
  have HCl := hid (fun x j => Nat.le_trans (cnt_le (M.take j) x) (List.length_take_le' _ _))
  have HSs := hid (sel_step M)
  have HSl := hid (sel_len M)
  have HOl := hid (out_len M)
  have HOs := hid (fun i => show outM M (i + 1) = outM M i ++ selM M i M.length from rfl)
  subst hv
  clear h hW
  generalize hN : M.length = N at *
  have hN1 := hid hN
  clear hN
  go_enter Try.func16, Try.ntmps16
  go_upto_region 1 with fail
  generalize hw1 : w.alloc (.cells #[.int .i64 most, .slice sa N sc] 29) = w1 at *
  generalize htb : w.heap.size = tb at *
  have HX := hid (box1 w most (.slice sa N sc) w1 hw1 tb htb)
  clear hw1
  have HE := hid (show OwnM (tb + 1) (w1.alloc (.cells #[] 55)) (.slice (some ⟨w1.heap.size, 0, none⟩) 0 0) (outM M 0) from OwnM.empty (by rw [HX.out.2.1]; exact Nat.le_refl _) rfl)
  go_upto_region 2 with fail
  have HV2 := hid ((Old.refl w1).alloc (.cells #[] 55))
  generalize w1.alloc (.cells #[] 55) = w2 at *
  go_wp2
  go_loopw [3, 4] (fun o i wr => ∃ k : Nat, k ≤ N ∧ i = .int .i64 (k : Nat) ∧ OwnM (tb + 1) wr o (outM M k) ∧ Old w1 wr) (fun _ i _ => N - (intOf i).toNat)
  case atStart => exact ⟨0, Nat.zero_le _, rfl, HE.out, HV2.out⟩
  case round =>
    obtain ⟨i, hiN, rfl, ho, hu⟩ := hrel
    have HU := hid hu
    have HO := hid (show OwnM (tb + 1) wr _ (outM M i ++ selM M i 0) from by simpa [selM] using ho)
    have HO0 := hid ho
    clear hu ho HE
    have b1 := HU.out.keep HX.out.2.2
    by_cases hlt : i < N
    · clear HO0
      go_upto_region 6 with fail
      have hlen1 := Nat.le_trans (HOl.out i) (Nat.mul_le_mul (Nat.le_trans hiN hl) hl)
      have HLen1 := hid hlen1
      clear hlen1
      go_wp2
      go_loopw [3, 5] (fun o k wm => ∃ j : Nat, j ≤ N ∧ k = .int .i64 (j : Nat) ∧ OwnM (tb + 1) wm o (outM M i ++ selM M i j) ∧ Old w1 wm) (fun _ k _ => N - (intOf k).toNat)
      case atStart => exact ⟨0, Nat.zero_le _, rfl, HO.out, HU.out⟩
      case round =>
        obtain ⟨j, hjN, rfl, ho, hu⟩ := hrel
        have HUj := hid hu
        have HOj := hid ho
        clear hu ho HO b1
        have b1 := HUj.out.keep HX.out.2.2
        by_cases hjt : j < N
        · obtain ⟨g, cap, he, hgb, hgl, hi⟩ := HSh.out (by omega)
          simp only [Value.slice.injEq] at he
          obtain ⟨rfl, _, rfl⟩ := he
          have HIt := hid (fun q (hq : q < N) (W : World) (u : Old w1 W) => (hi q hq).old (HX.out.1.trans u))
          clear hi
          have l1 : (0 : Int) ≤ (j : Int) := by omega
          have l2 : (j : Int) < (N : Int) := by omega
          have HWj := hid (HWi.out j hjt)
          have HSsj := hid (HSs.out i j hjt)
          generalize hxj : atR M j = x at *
          have HIj := hid (fun (W : World) (u : Old w1 W) => show RtIn W g (j * 3) x from by rw [← hxj]; exact HIt.out j hjt W u)
          have hxj' := hid hxj
          clear hxj
          go_upto_region 9 with fail
          go_wp2
          go_loopw [6, 7] (fun a n wn => ∃ t : Nat, t ≤ N ∧ n = .int .i64 (t : Nat) ∧ a = .int .i64 (cntM (M.take t) x : Nat) ∧ OwnM (tb + 1) wn _ (outM M i ++ selM M i j) ∧ Old w1 wn) (fun _ n _ => N - (intOf n).toNat)
          case atStart => exact ⟨0, Nat.zero_le _, rfl, by simp [cntM], HOj.out, HUj.out⟩
          case round =>
            obtain ⟨t, htN, rfl, rfl, ho, hu⟩ := hrel
            have HUt := hid hu
            have HOt := hid ho
            clear hu ho HOj b1
            have b1 := HUt.out.keep HX.out.2.2
            obtain ⟨d0, d1, d2⟩ := HIj.out _ HUt.out
            have hcl := HCl.out x t
            by_cases htt : t < N
            · obtain ⟨c0, c1, c2⟩ := HIt.out t htt _ HUt.out
              have m1 : (0 : Int) ≤ (t : Int) := by omega
              have m2 : (t : Int) < (N : Int) := by omega
              have HCs2 := hid (HCs.out x t htt)
              have HC := hid (fun (W : World) (u : Old wr W) => rcmp_old (atR M t) x (HWi.out t htt) HWj.out W)
              have HNg := hid (cmpQ_neg (atR M t) x (HWi.out t htt) HWj.out)
              generalize cntM (M.take t) x = c at *
              generalize cmpQ (atR M t) x = cc at *
              have HS := hid (show AlS tb (.slice (some ⟨g, 0, none⟩) N sc) g t j (atR M t) x wr from ⟨b1, c0, c1, d0, d1⟩)
              generalize hyt : atR M t = y at *
              have hyt' := hid hyt
              clear hyt c0 c1 c2 d0 d1 d2
              by_cases e : kR y < kR x
              · rw [if_pos e] at HCs2
                have hcc : cc < 0 := HNg.out.2 e
                go_upto_region 12 with fail
                clear b1
                refine wp_region_noPanic ?_
                refine wp_region_held_drew (S := AlS tb (.slice (some ⟨g, 0, none⟩) N sc) g t j y x) (by kernel_rfl) ?_ (fun hHeld => ?_)
                · exact AlS.old ((Old.refl _).drew) HS.out
                (try simp only [Act.put]); (try simp only [List.setIfInBounds_toArray]); (try simp only [List.set_cons_succ]); (try simp only [List.set_cons_zero])
                clear hHeld
                refine wpAnyH_take (i := 0) (oi := { dst := some 30, op := Op.fieldAddr 29 (Operand.tmp 1) 1, type := 0, pos := "ref.go:91", after := #[], guard := none }) (v := ?vk1) rfl (by kernel_rfl) (by kernel_rfl) (by kernel_rfl) (fun _ _ _ h => h) (Or.inl ⟨by rfl, ?hk1⟩) (AlS.old ((Old.refl wr).drew) HS.out) ?rk1
                case hk1 => (intro wz hSw; (try dsimp only at hSw); go_simp; try with_reducible rfl)
                (try simp only [Act.put]); (try simp only [List.setIfInBounds_toArray]); (try simp only [List.set_cons_succ]); (try simp only [List.set_cons_zero])
                refine wpAnyH_take (i := 1) (oi := { dst := some 31, op := Op.load 27 (Operand.tmp 30), type := 27, pos := "ref.go:91", after := #[{ on := 0, ground := Ground.data }], guard := none }) (v := ?vk2) rfl (by kernel_rfl) (by kernel_rfl) (by kernel_rfl) (fun _ _ _ h => h) (Or.inl ⟨by rfl, ?hk2⟩) (AlS.old ((Old.refl wr).drew) HS.out) ?rk2
                case hk2 => (intro wz hSw; (try dsimp only at hSw); go_simp; try with_reducible rfl)
                (try simp only [Act.put]); (try simp only [List.setIfInBounds_toArray]); (try simp only [List.set_cons_succ]); (try simp only [List.set_cons_zero])
                refine wpAnyH_take (i := 2) (oi := { dst := some 32, op := Op.move (Operand.tmp 7), type := 3, pos := "ref.go:91", after := #[], guard := none }) (v := ?vk3) rfl (by kernel_rfl) (by kernel_rfl) (by kernel_rfl) (fun _ _ _ h => h) (Or.inl ⟨by rfl, ?hk3⟩) (AlS.old ((Old.refl wr).drew) HS.out) ?rk3
                case hk3 => (intro wz hSw; (try dsimp only at hSw); go_simp; try with_reducible rfl)
                (try simp only [Act.put]); (try simp only [List.setIfInBounds_toArray]); (try simp only [List.set_cons_succ]); (try simp only [List.set_cons_zero])
                refine wpAnyH_take (i := 3) (oi := { dst := some 33, op := Op.indexAddr 27 (Operand.tmp 31) (Operand.tmp 32), type := 0, pos := "ref.go:91", after := #[{ on := 1, ground := Ground.data }, { on := 2, ground := Ground.data }], guard := none }) (v := ?vk4) rfl (by kernel_rfl) (by kernel_rfl) (by kernel_rfl) (fun _ _ _ h => h) (Or.inl ⟨by rfl, ?hk4⟩) (AlS.old ((Old.refl wr).drew) HS.out) ?rk4
                case hk4 => (intro wz hSw; (try dsimp only at hSw); go_simp; try with_reducible rfl)
                (try simp only [Act.put]); (try simp only [List.setIfInBounds_toArray]); (try simp only [List.set_cons_succ]); (try simp only [List.set_cons_zero])
                refine wpAnyH_take (i := 4) (oi := { dst := some 34, op := Op.fieldAddr 55 (Operand.tmp 33) 0, type := 0, pos := "ref.go:91", after := #[{ on := 3, ground := Ground.data }], guard := none }) (v := ?vk5) rfl (by kernel_rfl) (by kernel_rfl) (by kernel_rfl) (fun _ _ _ h => h) (Or.inl ⟨by rfl, ?hk5⟩) (AlS.old ((Old.refl wr).drew) HS.out) ?rk5
                case hk5 => (intro wz hSw; (try dsimp only at hSw); go_simp; try with_reducible rfl)
                (try simp only [Act.put]); (try simp only [List.setIfInBounds_toArray]); (try simp only [List.set_cons_succ]); (try simp only [List.set_cons_zero])
                refine wpAnyH_take (i := 5) (oi := { dst := some 35, op := Op.load 53 (Operand.tmp 34), type := 53, pos := "ref.go:91", after := #[{ on := 4, ground := Ground.data }], guard := none }) (v := ?vk6) rfl (by kernel_rfl) (by kernel_rfl) (by kernel_rfl) (fun _ _ _ h => h) (Or.inl ⟨by rfl, ?hk6⟩) (AlS.old ((Old.refl wr).drew) HS.out) ?rk6
                case hk6 => (intro wz hSw; (try dsimp only at hSw); go_simp; try with_reducible rfl)
                (try simp only [Act.put]); (try simp only [List.setIfInBounds_toArray]); (try simp only [List.set_cons_succ]); (try simp only [List.set_cons_zero])
                refine wpAnyH_take (i := 6) (oi := { dst := some 36, op := Op.fieldAddr 29 (Operand.tmp 1) 1, type := 0, pos := "ref.go:91", after := #[], guard := none }) (v := ?vk7) rfl (by kernel_rfl) (by kernel_rfl) (by kernel_rfl) (fun _ _ _ h => h) (Or.inl ⟨by rfl, ?hk7⟩) (AlS.old ((Old.refl wr).drew) HS.out) ?rk7
                case hk7 => (intro wz hSw; (try dsimp only at hSw); go_simp; try with_reducible rfl)
                (try simp only [Act.put]); (try simp only [List.setIfInBounds_toArray]); (try simp only [List.set_cons_succ]); (try simp only [List.set_cons_zero])
                refine wpAnyH_take (i := 7) (oi := { dst := some 37, op := Op.load 27 (Operand.tmp 36), type := 27, pos := "ref.go:91", after := #[{ on := 6, ground := Ground.data }], guard := none }) (v := ?vk8) rfl (by kernel_rfl) (by kernel_rfl) (by kernel_rfl) (fun _ _ _ h => h) (Or.inl ⟨by rfl, ?hk8⟩) (AlS.old ((Old.refl wr).drew) HS.out) ?rk8
                case hk8 => (intro wz hSw; (try dsimp only at hSw); go_simp; try with_reducible rfl)
                (try simp only [Act.put]); (try simp only [List.setIfInBounds_toArray]); (try simp only [List.set_cons_succ]); (try simp only [List.set_cons_zero])
                refine wpAnyH_take (i := 8) (oi := { dst := some 38, op := Op.move (Operand.tmp 5), type := 3, pos := "ref.go:91", after := #[], guard := none }) (v := ?vk9) rfl (by kernel_rfl) (by kernel_rfl) (by kernel_rfl) (fun _ _ _ h => h) (Or.inl ⟨by rfl, ?hk9⟩) (AlS.old ((Old.refl wr).drew) HS.out) ?rk9
                case hk9 => (intro wz hSw; (try dsimp only at hSw); go_simp; try with_reducible rfl)
                (try simp only [Act.put]); (try simp only [List.setIfInBounds_toArray]); (try simp only [List.set_cons_succ]); (try simp only [List.set_cons_zero])
                refine wpAnyH_take (i := 9) (oi := { dst := some 39, op := Op.indexAddr 27 (Operand.tmp 37) (Operand.tmp 38), type := 0, pos := "ref.go:91", after := #[{ on := 7, ground := Ground.data }, { on := 8, ground := Ground.data }], guard := none }) (v := ?vk10) rfl (by kernel_rfl) (by kernel_rfl) (by kernel_rfl) (fun _ _ _ h => h) (Or.inl ⟨by rfl, ?hk10⟩) (AlS.old ((Old.refl wr).drew) HS.out) ?rk10
                case hk10 => (intro wz hSw; (try dsimp only at hSw); go_simp; try with_reducible rfl)
                (try simp only [Act.put]); (try simp only [List.setIfInBounds_toArray]); (try simp only [List.set_cons_succ]); (try simp only [List.set_cons_zero])
                refine wpAnyH_take (i := 10) (oi := { dst := some 40, op := Op.fieldAddr 55 (Operand.tmp 39) 0, type := 0, pos := "ref.go:91", after := #[{ on := 9, ground := Ground.data }], guard := none }) (v := ?vk11) rfl (by kernel_rfl) (by kernel_rfl) (by kernel_rfl) (fun _ _ _ h => h) (Or.inl ⟨by rfl, ?hk11⟩) (AlS.old ((Old.refl wr).drew) HS.out) ?rk11
                case hk11 => (intro wz hSw; (try dsimp only at hSw); go_simp; try with_reducible rfl)
                (try simp only [Act.put]); (try simp only [List.setIfInBounds_toArray]); (try simp only [List.set_cons_succ]); (try simp only [List.set_cons_zero])
                refine wpAnyH_take (i := 11) (oi := { dst := some 41, op := Op.load 53 (Operand.tmp 40), type := 53, pos := "ref.go:91", after := #[{ on := 10, ground := Ground.data }], guard := none }) (v := ?vk12) rfl (by kernel_rfl) (by kernel_rfl) (by kernel_rfl) (fun _ _ _ h => h) (Or.inl ⟨by rfl, ?hk12⟩) (AlS.old ((Old.refl wr).drew) HS.out) ?rk12
                case hk12 => (intro wz hSw; (try dsimp only at hSw); go_simp; try with_reducible rfl)
                (try simp only [Act.put]); (try simp only [List.setIfInBounds_toArray]); (try simp only [List.set_cons_succ]); (try simp only [List.set_cons_zero])
                refine wpAnyH_ready (rs := [12]) (by kernel_rfl) (by simp) ?_
                refine AllReadyH.cons (o := { dst := some 42, op := Op.call { callee := Callee.value (Operand.func 31), args := #[Operand.tmp 35, Operand.tmp 41], argTypes := #[53, 53] }, type := 3, pos := "ref.go:91", after := #[{ on := 5, ground := Ground.data }, { on := 11, ground := Ground.data }], guard := none }) rfl (fun K hK => ?_) AllReadyH.nil
                refine wantCall2 ?_ 31 (.tmp 35) (.tmp 41) #[53, 53] ?_ (.agg #[.int .u64 (y.l : Nat), .int .u64 (y.h : Nat)]) (.agg #[.int .u64 (x.l : Nat), .int .u64 (x.h : Nat)]) ?_ ?_ ?_ (ent_rcm _ _) ?_
                · rfl
                · rfl
                · rfl
                · rfl
                · rfl
                refine (HC.out _ ((Old.refl wr).drew)).mono ?_
                rintro o x13 ⟨rfl, b13⟩
                refine ⟨_, rfl, ?_⟩
                have U13 := ((Old.refl wr).drew).trans b13
                refine hK.out _ _ (AlS.old U13 HS.out) (fun _ => ?_)
                clear hK K
                (try simp only [Act.put]); (try simp only [List.setIfInBounds_toArray]); (try simp only [List.set_cons_succ]); (try simp only [List.set_cons_zero])
                refine wpAnyH_take (i := 13) (oi := { dst := some 43, op := Op.binOp BinOp.lss 3 (Operand.tmp 42) (Operand.const (Value.int IntKind.i64 0)) 3, type := 4, pos := "ref.go:91", after := #[{ on := 12, ground := Ground.data }], guard := none }) (v := ?vk14) rfl (by kernel_rfl) (by kernel_rfl) (by kernel_rfl) (fun _ _ _ h => h) (Or.inl ⟨by rfl, ?hk14⟩) (AlS.old U13 HS.out) ?rk14
                case hk14 => (intro wz hSw; (try dsimp only at hSw); go_simp; try with_reducible rfl)
                (try simp only [Act.put]); (try simp only [List.setIfInBounds_toArray]); (try simp only [List.set_cons_succ]); (try simp only [List.set_cons_zero])
                refine wpAnyH_done (by kernel_rfl) ?_ _
                refine NoPanic.normal ?_
                have U4 := hid U13
                have f4 := hcl
                go_wp2
                go_roundw
                case rel => exact ⟨t + 1, htt, by go_num, by rw [HCs2.out]; go_num, HOt.out.old U4.out, HUt.out.trans U4.out⟩
                case measure => simp [intOf]; omega
              · rw [if_neg e] at HCs2
                have hcc : ¬ cc < 0 := fun q => e (HNg.out.1 q)
                go_upto_region 12 with fail
                clear b1
                refine wp_region_noPanic ?_
                refine wp_region_held_drew (S := AlS tb (.slice (some ⟨g, 0, none⟩) N sc) g t j y x) (by kernel_rfl) ?_ (fun hHeld => ?_)
                · exact AlS.old ((Old.refl _).drew) HS.out
                (try simp only [Act.put]); (try simp only [List.setIfInBounds_toArray]); (try simp only [List.set_cons_succ]); (try simp only [List.set_cons_zero])
                clear hHeld
                refine wpAnyH_take (i := 0) (oi := { dst := some 30, op := Op.fieldAddr 29 (Operand.tmp 1) 1, type := 0, pos := "ref.go:91", after := #[], guard := none }) (v := ?vk15) rfl (by kernel_rfl) (by kernel_rfl) (by kernel_rfl) (fun _ _ _ h => h) (Or.inl ⟨by rfl, ?hk15⟩) (AlS.old ((Old.refl wr).drew) HS.out) ?rk15
                case hk15 => (intro wz hSw; (try dsimp only at hSw); go_simp; try with_reducible rfl)
                (try simp only [Act.put]); (try simp only [List.setIfInBounds_toArray]); (try simp only [List.set_cons_succ]); (try simp only [List.set_cons_zero])
                refine wpAnyH_take (i := 1) (oi := { dst := some 31, op := Op.load 27 (Operand.tmp 30), type := 27, pos := "ref.go:91", after := #[{ on := 0, ground := Ground.data }], guard := none }) (v := ?vk16) rfl (by kernel_rfl) (by kernel_rfl) (by kernel_rfl) (fun _ _ _ h => h) (Or.inl ⟨by rfl, ?hk16⟩) (AlS.old ((Old.refl wr).drew) HS.out) ?rk16
                case hk16 => (intro wz hSw; (try dsimp only at hSw); go_simp; try with_reducible rfl)
                (try simp only [Act.put]); (try simp only [List.setIfInBounds_toArray]); (try simp only [List.set_cons_succ]); (try simp only [List.set_cons_zero])
                refine wpAnyH_take (i := 2) (oi := { dst := some 32, op := Op.move (Operand.tmp 7), type := 3, pos := "ref.go:91", after := #[], guard := none }) (v := ?vk17) rfl (by kernel_rfl) (by kernel_rfl) (by kernel_rfl) (fun _ _ _ h => h) (Or.inl ⟨by rfl, ?hk17⟩) (AlS.old ((Old.refl wr).drew) HS.out) ?rk17
                case hk17 => (intro wz hSw; (try dsimp only at hSw); go_simp; try with_reducible rfl)
                (try simp only [Act.put]); (try simp only [List.setIfInBounds_toArray]); (try simp only [List.set_cons_succ]); (try simp only [List.set_cons_zero])
                refine wpAnyH_take (i := 3) (oi := { dst := some 33, op := Op.indexAddr 27 (Operand.tmp 31) (Operand.tmp 32), type := 0, pos := "ref.go:91", after := #[{ on := 1, ground := Ground.data }, { on := 2, ground := Ground.data }], guard := none }) (v := ?vk18) rfl (by kernel_rfl) (by kernel_rfl) (by kernel_rfl) (fun _ _ _ h => h) (Or.inl ⟨by rfl, ?hk18⟩) (AlS.old ((Old.refl wr).drew) HS.out) ?rk18
                case hk18 => (intro wz hSw; (try dsimp only at hSw); go_simp; try with_reducible rfl)
                (try simp only [Act.put]); (try simp only [List.setIfInBounds_toArray]); (try simp only [List.set_cons_succ]); (try simp only [List.set_cons_zero])
                refine wpAnyH_take (i := 4) (oi := { dst := some 34, op := Op.fieldAddr 55 (Operand.tmp 33) 0, type := 0, pos := "ref.go:91", after := #[{ on := 3, ground := Ground.data }], guard := none }) (v := ?vk19) rfl (by kernel_rfl) (by kernel_rfl) (by kernel_rfl) (fun _ _ _ h => h) (Or.inl ⟨by rfl, ?hk19⟩) (AlS.old ((Old.refl wr).drew) HS.out) ?rk19
                case hk19 => (intro wz hSw; (try dsimp only at hSw); go_simp; try with_reducible rfl)
                (try simp only [Act.put]); (try simp only [List.setIfInBounds_toArray]); (try simp only [List.set_cons_succ]); (try simp only [List.set_cons_zero])
                refine wpAnyH_take (i := 5) (oi := { dst := some 35, op := Op.load 53 (Operand.tmp 34), type := 53, pos := "ref.go:91", after := #[{ on := 4, ground := Ground.data }], guard := none }) (v := ?vk20) rfl (by kernel_rfl) (by kernel_rfl) (by kernel_rfl) (fun _ _ _ h => h) (Or.inl ⟨by rfl, ?hk20⟩) (AlS.old ((Old.refl wr).drew) HS.out) ?rk20
                case hk20 => (intro wz hSw; (try dsimp only at hSw); go_simp; try with_reducible rfl)
                (try simp only [Act.put]); (try simp only [List.setIfInBounds_toArray]); (try simp only [List.set_cons_succ]); (try simp only [List.set_cons_zero])
                refine wpAnyH_take (i := 6) (oi := { dst := some 36, op := Op.fieldAddr 29 (Operand.tmp 1) 1, type := 0, pos := "ref.go:91", after := #[], guard := none }) (v := ?vk21) rfl (by kernel_rfl) (by kernel_rfl) (by kernel_rfl) (fun _ _ _ h => h) (Or.inl ⟨by rfl, ?hk21⟩) (AlS.old ((Old.refl wr).drew) HS.out) ?rk21
                case hk21 => (intro wz hSw; (try dsimp only at hSw); go_simp; try with_reducible rfl)
                (try simp only [Act.put]); (try simp only [List.setIfInBounds_toArray]); (try simp only [List.set_cons_succ]); (try simp only [List.set_cons_zero])
                refine wpAnyH_take (i := 7) (oi := { dst := some 37, op := Op.load 27 (Operand.tmp 36), type := 27, pos := "ref.go:91", after := #[{ on := 6, ground := Ground.data }], guard := none }) (v := ?vk22) rfl (by kernel_rfl) (by kernel_rfl) (by kernel_rfl) (fun _ _ _ h => h) (Or.inl ⟨by rfl, ?hk22⟩) (AlS.old ((Old.refl wr).drew) HS.out) ?rk22
                case hk22 => (intro wz hSw; (try dsimp only at hSw); go_simp; try with_reducible rfl)
                (try simp only [Act.put]); (try simp only [List.setIfInBounds_toArray]); (try simp only [List.set_cons_succ]); (try simp only [List.set_cons_zero])
                refine wpAnyH_take (i := 8) (oi := { dst := some 38, op := Op.move (Operand.tmp 5), type := 3, pos := "ref.go:91", after := #[], guard := none }) (v := ?vk23) rfl (by kernel_rfl) (by kernel_rfl) (by kernel_rfl) (fun _ _ _ h => h) (Or.inl ⟨by rfl, ?hk23⟩) (AlS.old ((Old.refl wr).drew) HS.out) ?rk23
                case hk23 => (intro wz hSw; (try dsimp only at hSw); go_simp; try with_reducible rfl)
                (try simp only [Act.put]); (try simp only [List.setIfInBounds_toArray]); (try simp only [List.set_cons_succ]); (try simp only [List.set_cons_zero])
                refine wpAnyH_take (i := 9) (oi := { dst := some 39, op := Op.indexAddr 27 (Operand.tmp 37) (Operand.tmp 38), type := 0, pos := "ref.go:91", after := #[{ on := 7, ground := Ground.data }, { on := 8, ground := Ground.data }], guard := none }) (v := ?vk24) rfl (by kernel_rfl) (by kernel_rfl) (by kernel_rfl) (fun _ _ _ h => h) (Or.inl ⟨by rfl, ?hk24⟩) (AlS.old ((Old.refl wr).drew) HS.out) ?rk24
                case hk24 => (intro wz hSw; (try dsimp only at hSw); go_simp; try with_reducible rfl)
                (try simp only [Act.put]); (try simp only [List.setIfInBounds_toArray]); (try simp only [List.set_cons_succ]); (try simp only [List.set_cons_zero])
                refine wpAnyH_take (i := 10) (oi := { dst := some 40, op := Op.fieldAddr 55 (Operand.tmp 39) 0, type := 0, pos := "ref.go:91", after := #[{ on := 9, ground := Ground.data }], guard := none }) (v := ?vk25) rfl (by kernel_rfl) (by kernel_rfl) (by kernel_rfl) (fun _ _ _ h => h) (Or.inl ⟨by rfl, ?hk25⟩) (AlS.old ((Old.refl wr).drew) HS.out) ?rk25
                case hk25 => (intro wz hSw; (try dsimp only at hSw); go_simp; try with_reducible rfl)
                (try simp only [Act.put]); (try simp only [List.setIfInBounds_toArray]); (try simp only [List.set_cons_succ]); (try simp only [List.set_cons_zero])
                refine wpAnyH_take (i := 11) (oi := { dst := some 41, op := Op.load 53 (Operand.tmp 40), type := 53, pos := "ref.go:91", after := #[{ on := 10, ground := Ground.data }], guard := none }) (v := ?vk26) rfl (by kernel_rfl) (by kernel_rfl) (by kernel_rfl) (fun _ _ _ h => h) (Or.inl ⟨by rfl, ?hk26⟩) (AlS.old ((Old.refl wr).drew) HS.out) ?rk26
                case hk26 => (intro wz hSw; (try dsimp only at hSw); go_simp; try with_reducible rfl)
                (try simp only [Act.put]); (try simp only [List.setIfInBounds_toArray]); (try simp only [List.set_cons_succ]); (try simp only [List.set_cons_zero])
                refine wpAnyH_ready (rs := [12]) (by kernel_rfl) (by simp) ?_
                refine AllReadyH.cons (o := { dst := some 42, op := Op.call { callee := Callee.value (Operand.func 31), args := #[Operand.tmp 35, Operand.tmp 41], argTypes := #[53, 53] }, type := 3, pos := "ref.go:91", after := #[{ on := 5, ground := Ground.data }, { on := 11, ground := Ground.data }], guard := none }) rfl (fun K hK => ?_) AllReadyH.nil
                refine wantCall2 ?_ 31 (.tmp 35) (.tmp 41) #[53, 53] ?_ (.agg #[.int .u64 (y.l : Nat), .int .u64 (y.h : Nat)]) (.agg #[.int .u64 (x.l : Nat), .int .u64 (x.h : Nat)]) ?_ ?_ ?_ (ent_rcm _ _) ?_
                · rfl
                · rfl
                · rfl
                · rfl
                · rfl
                refine (HC.out _ ((Old.refl wr).drew)).mono ?_
                rintro o x27 ⟨rfl, b27⟩
                refine ⟨_, rfl, ?_⟩
                have U27 := ((Old.refl wr).drew).trans b27
                refine hK.out _ _ (AlS.old U27 HS.out) (fun _ => ?_)
                clear hK K
                (try simp only [Act.put]); (try simp only [List.setIfInBounds_toArray]); (try simp only [List.set_cons_succ]); (try simp only [List.set_cons_zero])
                refine wpAnyH_take (i := 13) (oi := { dst := some 43, op := Op.binOp BinOp.lss 3 (Operand.tmp 42) (Operand.const (Value.int IntKind.i64 0)) 3, type := 4, pos := "ref.go:91", after := #[{ on := 12, ground := Ground.data }], guard := none }) (v := ?vk28) rfl (by kernel_rfl) (by kernel_rfl) (by kernel_rfl) (fun _ _ _ h => h) (Or.inl ⟨by rfl, ?hk28⟩) (AlS.old U27 HS.out) ?rk28
                case hk28 => (intro wz hSw; (try dsimp only at hSw); go_simp; try with_reducible rfl)
                (try simp only [Act.put]); (try simp only [List.setIfInBounds_toArray]); (try simp only [List.set_cons_succ]); (try simp only [List.set_cons_zero])
                refine wpAnyH_done (by kernel_rfl) ?_ _
                refine NoPanic.normal ?_
                have U4 := hid U27
                have f4 := hcl
                go_wp2
                go_roundw
                case rel => exact ⟨t + 1, htt, by go_num, by rw [HCs2.out]; go_num, HOt.out.old U4.out, HUt.out.trans U4.out⟩
                case measure => simp [intOf]; omega
            · obtain rfl : t = N := by omega
              have hct := HCt.out x
              have HSs2 := hid HSsj.out
              rw [hct] at hcl ⊢
              clear hct
              generalize cntM M x = c at *
              have hlenO : (outM M i ++ selM M i j).length + 1 ≤ 4398046511104 := by
                rw [List.length_append]
                have := HLen1.out
                have := HSl.out i j
                omega
              by_cases e : c = i
              · have hbe : (((c : Nat) : Int) == ((i : Nat) : Int)) = true := by rw [beq_iff_eq]; omega
                have HSs3 := hid (HSs2.out.trans (by rw [if_pos e]))
                clear e
                have HU5 := hid (HUt.out.alloc (.cells #[.int .u64 (x.l : Nat), .int .u64 (x.h : Nat), .int .i64 x.n] 55))
                go_wp2_with (first | (at_builtin; refine wp_appM rfl (.tmp 49) (.tmp 55) rfl (tb + 1) _ (outM M i ++ selM M i j) x _ 1 rfl rfl (OwnM.old HOt.out ((Old.refl _).alloc _)) (itemM_new _ x _ (by simp)) hlenO (by have := HU5.out.size; have := HX.out.2.1; omega) ?_; intro v8 w8 o8 g8; have O8 := hid o8; have G8 := hid g8; clear o8 g8))
                go_roundw
                case rel => exact ⟨j + 1, hjt, by go_num, by rw [HSs3.out, ← List.append_assoc]; exact O8.out, HU5.out.below (by rw [HX.out.2.1]; exact G8.out)⟩
                case measure => simp [intOf]; omega
              · have hbe : (((c : Nat) : Int) == ((i : Nat) : Int)) = false := by rw [beq_eq_false_iff_ne]; omega
                have HSs3 := hid (HSs2.out.trans (by rw [if_neg e, List.append_nil]))
                clear e
                go_wp2
                go_roundw
                case rel => exact ⟨j + 1, hjt, by go_num, by rw [HSs3.out]; exact HOt.out, HUt.out⟩
                case measure => simp [intOf]; omega
        · obtain rfl : j = N := by omega
          have HO3 := hid (HOs.out i)
          go_wp2
          go_roundw
          case rel => exact ⟨i + 1, hlt, by go_num, by rw [HO3.out]; exact HOj.out, HUj.out⟩
          case measure => simp [intOf]; omega
    · obtain rfl : i = N := by omega
      clear HO
      go_wp2
      go_ret
      exact ⟨_, rfl, HO0.out.mono (by omega), HX.out.1.trans HU.out⟩
end Go.Proofs.Ytodoogcllahfgaa
