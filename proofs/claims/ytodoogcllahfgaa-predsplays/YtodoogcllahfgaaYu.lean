/- preds: the document's Put; conditions: the lengths fit. -/
import Derived.Test.YtodoogcllahfgaaYp
namespace Go.Proofs.Ytodoogcllahfgaa
open Go.RowKit Go.Lib
set_option linter.unusedVariables false
set_option linter.unusedSimpArgs false
set_option maxRecDepth 20000
def RPost (base : Nat) (most r : Int) (v : Value) (M : List Rt) (w : World) (e : Ending) (w' : World) : Prop := ∃ v', e = .returned (.tuple #[.agg #[.int .i64 most, v'], .int .i64 r]) ∧ OwnM base w' v' M ∧ Old w w' ∧ ∀ g, v'.ownBlock = some g → v.ownBlock = some g ∨ w.heap.size ≤ g
theorem rof_old (a b : Nat) (ha : Fl.W a) (hb : Fl.W b) (p q : Bool) (w : World) : Calls Try.prog 24 #[.agg #[.float .f64 a, .float .f64 b, .bool p, .bool q]] w fun e w' => e = .returned (.agg #[.int .u64 (Fl.rL a b p q : Nat), .int .u64 (Fl.rH a b p q : Nat)]) ∧ Old w w' := (rOf_any a b ha hb p q w).mono fun e w' h => ⟨h.1, h.2.old⟩
theorem rempty_old (l h : Nat) (w : World) : Calls Try.prog 25 #[.agg #[.int .u64 (l : Nat), .int .u64 (h : Nat)]] w fun e w' => e = .returned (.bool (decide (h < l))) ∧ Old w w' := (rEmpty_any l h w).mono fun e w' h => ⟨h.1, h.2.old⟩
/-- A table, a span and the box for the answer. -/
theorem boxes3 (w : World) (most : Int) (v : Value) (x y : Nat) (p q : Bool) (w1 : World) (e : ((w.alloc (.cells #[.int .i64 most, v] 29)).alloc (.cells #[.float .f64 x, .float .f64 y, .bool p, .bool q] 32)).alloc (.cells #[.int .i64 0, .slice none 0 0] 29) = w1) (tb : Nat) (hb : w.heap.size = tb) : Old w w1 ∧ w1.heap.size = tb + 3 ∧ (w1.cell? ⟨tb, 0, none⟩ = some (.int .i64 most) ∧ w1.cell? ⟨tb, 1, none⟩ = some v ∧ w1.cell? ⟨tb + 2, 0, none⟩ = some (.int .i64 0) ∧ w1.cell? ⟨tb + 2, 1, none⟩ = some (.slice none 0 0)) ∧ (w1.frozen? ⟨tb, 0, none⟩ = false ∧ w1.frozen? ⟨tb, 1, none⟩ = false ∧ w1.frozen? ⟨tb + 2, 0, none⟩ = false ∧ w1.frozen? ⟨tb + 2, 1, none⟩ = false) ∧ SpAt (tb + 1) x y p q w1 := by
  subst e hb
  have h1 := alloc_heap w (.cells #[.int .i64 most, v] 29) _ rfl
  have u1 := (Old.refl (w.alloc (.cells #[.int .i64 most, v] 29))).alloc (.cells #[.float .f64 x, .float .f64 y, .bool p, .bool q] 32)
  have h2 := alloc_heap (w.alloc (.cells #[.int .i64 most, v] 29)) (.cells #[.float .f64 x, .float .f64 y, .bool p, .bool q] 32) (w.heap.size + 1) (by simp)
  have u2 := (Old.refl ((w.alloc (.cells #[.int .i64 most, v] 29)).alloc (.cells #[.float .f64 x, .float .f64 y, .bool p, .bool q] 32))).alloc (.cells #[.int .i64 0, .slice none 0 0] 29)
  have h3 := alloc_heap ((w.alloc (.cells #[.int .i64 most, v] 29)).alloc (.cells #[.float .f64 x, .float .f64 y, .bool p, .bool q] 32)) (.cells #[.int .i64 0, .slice none 0 0] 29) (w.heap.size + 2) (by simp)
  have k1 := u2.block (u1.block h1)
  have k2 := u2.block h2
  exact ⟨(((Old.refl w).alloc _).trans u1).trans u2, by simp, ⟨by rw [cell_of_heap k1]; rfl, by rw [cell_of_heap k1]; rfl, by rw [cell_of_heap h3]; rfl, by rw [cell_of_heap h3]; rfl⟩, ⟨frozen_of_heap k1 _, frozen_of_heap k1 _, frozen_of_heap h3 _, frozen_of_heap h3 _⟩, by rw [cell_of_heap k2]; rfl, by rw [cell_of_heap k2]; rfl, by rw [cell_of_heap k2]; rfl, by rw [cell_of_heap k2]; rfl⟩
theorem range_new (w : World) (l h : Nat) (w2 : World) (e : w.alloc (.cells #[.int .u64 (l : Nat), .int .u64 (h : Nat)] 53) = w2) (rb : Nat) (hb : w.heap.size = rb) : Old w w2 ∧ w2.heap.size = rb + 1 ∧ w2.cell? ⟨rb, 0, none⟩ = some (.int .u64 (l : Nat)) ∧ w2.cell? ⟨rb, 1, none⟩ = some (.int .u64 (h : Nat)) := by
  subst e hb
  have hh := alloc_heap w (.cells #[.int .u64 (l : Nat), .int .u64 (h : Nat)] 53) _ rfl
  exact ⟨(Old.refl w).alloc _, by simp, by rw [cell_of_heap hh]; rfl, by rw [cell_of_heap hh]; rfl⟩
theorem item_box (w : World) (x : Rt) (w2 : World) (e : w.alloc (.cells #[.int .u64 (x.l : Nat), .int .u64 (x.h : Nat), .int .i64 x.n] 55) = w2) (rb : Nat) (hb : w.heap.size = rb) : Old w w2 ∧ w2.heap.size = rb + 1 ∧ RtIn w2 rb 0 x ∧ w2.frozen? ⟨rb, 2, none⟩ = false := by
  subst e hb
  have hh := alloc_heap w (.cells #[.int .u64 (x.l : Nat), .int .u64 (x.h : Nat), .int .i64 x.n] 55) _ rfl
  exact ⟨(Old.refl w).alloc _, by simp, ⟨by rw [cell_of_heap hh]; rfl, by rw [cell_of_heap hh]; rfl, by rw [cell_of_heap hh]; rfl⟩, frozen_of_heap hh _⟩
theorem set_no {l h : Nat} {n : Int} {x : Rt} (e : isR l h x = false) : setQ l h n x = x := by unfold setQ; rw [e]; rfl
theorem set_yes {l h : Nat} {n : Int} {x : Rt} (e : isR l h x = true) : setQ l h n x = ⟨x.l, x.h, max x.n n⟩ := by unfold setQ; rw [e]; rfl
attribute [local go_sem] run_bits run_frombits run_store_float
set_option maxHeartbeats 4000000 in
set_option maxRecDepth 20000 in
theorem rPut_any (base : Nat) (most n : Int) (v : Value) (M : List Rt) (x y : Nat) (p q : Bool) (hx : Fl.W x) (hy : Fl.W y) (w : World) (h : OwnM base w v M) (hb : base ≤ w.heap.size) (hl : M.length ≤ 1000000) :
    Calls Try.prog 8 #[.agg #[.int .i64 most, v], .agg #[.float .f64 x, .float .f64 y, .bool p, .bool q], .int .i64 n] w fun e w' => RPost base most (putM (Fl.rL x y p q) (Fl.rH x y p q) n most M).1 v (putM (Fl.rL x y p q) (Fl.rH x y p q) n most M).2 w e w' := by
  have HOf := hid (fun W => rof_old x y hx hy p q W)
  have HEm := hid (fun W => rempty_old (Fl.rL x y p q) (Fl.rH x y p q) W)
  generalize Fl.rL x y p q = l at *
  generalize Fl.rH x y p q = r at *
  obtain ⟨sa, sc, hv⟩ := h.len
  have HSh := hid (fun (e : 0 < M.length) => h.shape e)
  have HM := hid h
  have HSt := hid (set_step l r n M)
  have HTs := hid (there_step l r M)
  have HTk := hid (show (M.take M.length).map (setQ l r n) = M.map (setQ l r n) by rw [List.take_length])
  have HTt := hid (show thereQ l r (M.take M.length) = thereQ l r M by rw [List.take_length])
  subst hv
  have HL := hid (fun k => show ((M.take k).map (setQ l r n)).length ≤ M.length by rw [List.length_map]; exact List.length_take_le' _ _)
  have HL2 := hid (show (M.map (setQ l r n)).length = M.length by rw [List.length_map])
  have HP := hid (show putM l r n most M = if r < l then (41, M) else if n < 1 ∨ 1099511627776 < n then (43, M) else if thereQ l r M = true then (0, M.map (setQ l r n)) else if most ≤ (M.length : Int) then (3, M) else (0, M.map (setQ l r n) ++ [⟨l, r, n⟩]) from rfl)
  generalize putM l r n most M = pm at *
  clear h
  generalize hN : M.length = N at *
  have hN1 := hid hN
  clear hN
  go_enter Try.func8, Try.ntmps8
  go_upto_region 1 with fail
  generalize hw1 : ((w.alloc (.cells #[.int .i64 most, .slice sa N sc] 29)).alloc (.cells #[.float .f64 x, .float .f64 y, .bool p, .bool q] 32)).alloc (.cells #[.int .i64 0, .slice none 0 0] 29) = w1 at *
  generalize htb : w.heap.size = tb at *
  have HX := hid (boxes3 w most (.slice sa N sc) x y p q w1 hw1 tb htb)
  clear hw1
  obtain ⟨x0, x1, ⟨y0, y1, y2, y3⟩, ⟨z0, z1, z2, z3⟩, s0, s1, s2, s3⟩ := HX.out
  have X1 := hid x1
  have X0 := hid x0
  clear x1 x0
  have HEnd := hid (fun (W : World) (u : Old w1 W) => show OwnM base ((W.setCell ⟨tb + 2, 0, none⟩ (.int .i64 most)).setCell ⟨tb + 2, 1, none⟩ (.slice sa N sc)) (.slice sa N sc) M ∧ Old w ((W.setCell ⟨tb + 2, 0, none⟩ (.int .i64 most)).setCell ⟨tb + 2, 1, none⟩ (.slice sa N sc)) from by
    have u2 := ((X0.out.trans u).setCell (p := ⟨tb + 2, 0, none⟩) (by simp [htb]) (.int .i64 most)).setCell (p := ⟨tb + 2, 1, none⟩) (by simp [htb]) (.slice sa N sc)
    exact ⟨HM.out.old u2, u2⟩)
  go_upto_region 2 with (first | (go_at_call 24; refine (HOf.out _).mono ?_; rintro e w5 ⟨rfl, u5⟩; have U5 := hid u5; clear u5))
  generalize hw2 : w5.alloc (.cells #[.int .u64 (l : Nat), .int .u64 (r : Nat)] 53) = w2 at *
  generalize hrb : w5.heap.size = rb at *
  obtain ⟨u2, e2, r0, r1⟩ := range_new w5 l r w2 hw2 rb hrb
  have U2 := hid (U5.out.trans u2)
  have E2 := hid e2
  have HRb := hid (show tb + 3 ≤ rb by have := U5.out.size; have := X1.out; omega)
  clear hw2 hrb u2 e2 s0 s1 s2 s3 U5 HOf
  have t0 := U2.out.keep y0
  have t1 := U2.out.keep y1
  have t2 := U2.out.keep y2
  have t3 := U2.out.keep y3
  have q0 := U2.out.keepF y0 z0
  have q1 := U2.out.keepF y1 z1
  have q2 := U2.out.keepF y2 z2
  have q3 := U2.out.keepF y3 z3
  clear y0 y1 y2 y3 z0 z1 z2 z3
  by_cases hE : r < l
  · have hpm := HP.out.trans (if_pos hE)
    subst hpm
    rw [decide_eq_true hE] at HEm
    clear hE
    go_wp2_with (first | (go_at_call 25; refine (HEm.out _).mono ?_; rintro e w3 ⟨rfl, u3⟩; have U3 := hid u3; clear u3; have t0' := U3.out.keep t0; have t1' := U3.out.keep t1; have t2' := U3.out.keep t2; have t3' := U3.out.keep t3; have q2' := U3.out.keepF t2 q2; have q3' := U3.out.keepF t3 q3))
    refine bodyPost_ret (v := .tuple #[.agg #[.int .i64 most, .slice sa N sc], .int .i64 41]) (by simp [results, Try.results8, go_sem, *]) rfl ⟨_, rfl, (HEnd.out _ (U2.out.trans U3.out)).1, (HEnd.out _ (U2.out.trans U3.out)).2, fun g hg => .inl hg⟩
  · have HP2 := hid (HP.out.trans (if_neg hE))
    rw [decide_eq_false hE] at HEm
    clear HP hE
    by_cases h1 : n < 1
    · have hpm := HP2.out.trans (if_pos (.inl h1))
      subst hpm
      go_wp2_with (first | (go_at_call 25; refine (HEm.out _).mono ?_; rintro e w3 ⟨rfl, u3⟩; have U3 := hid u3; clear u3; have t0' := U3.out.keep t0; have t1' := U3.out.keep t1; have t2' := U3.out.keep t2; have t3' := U3.out.keep t3; have q2' := U3.out.keepF t2 q2; have q3' := U3.out.keepF t3 q3))
      refine bodyPost_ret (v := .tuple #[.agg #[.int .i64 most, .slice sa N sc], .int .i64 43]) (by simp [results, Try.results8, go_sem, *]) rfl ⟨_, rfl, (HEnd.out _ (U2.out.trans U3.out)).1, (HEnd.out _ (U2.out.trans U3.out)).2, fun g hg => .inl hg⟩
    · by_cases h2 : 1099511627776 < n
      · have hpm := HP2.out.trans (if_pos (.inr h2))
        subst hpm
        go_wp2_with (first | (go_at_call 25; refine (HEm.out _).mono ?_; rintro e w3 ⟨rfl, u3⟩; have U3 := hid u3; clear u3; have t0' := U3.out.keep t0; have t1' := U3.out.keep t1; have t2' := U3.out.keep t2; have t3' := U3.out.keep t3; have q2' := U3.out.keepF t2 q2; have q3' := U3.out.keepF t3 q3))
        refine bodyPost_ret (v := .tuple #[.agg #[.int .i64 most, .slice sa N sc], .int .i64 43]) (by simp [results, Try.results8, go_sem, *]) rfl ⟨_, rfl, (HEnd.out _ (U2.out.trans U3.out)).1, (HEnd.out _ (U2.out.trans U3.out)).2, fun g hg => .inl hg⟩
      · have HP3 := hid (HP2.out.trans (if_neg (by omega)))
        clear HP2
        go_upto_region 6 with (first | (go_at_call 25; refine (HEm.out _).mono ?_; rintro e w3 ⟨rfl, u3⟩; have U3 := hid u3; clear u3))
        have HB3 := hid (show w3.cell? ⟨tb, 0, none⟩ = some (.int .i64 most) ∧ w3.cell? ⟨tb, 1, none⟩ = some (.slice sa N sc) ∧ w3.cell? ⟨tb + 2, 0, none⟩ = some (.int .i64 0) ∧ w3.cell? ⟨tb + 2, 1, none⟩ = some (.slice none 0 0) ∧ w3.frozen? ⟨tb, 0, none⟩ = false ∧ w3.frozen? ⟨tb, 1, none⟩ = false ∧ w3.frozen? ⟨tb + 2, 0, none⟩ = false ∧ w3.frozen? ⟨tb + 2, 1, none⟩ = false ∧ w3.cell? ⟨rb, 0, none⟩ = some (.int .u64 (l : Nat)) ∧ w3.cell? ⟨rb, 1, none⟩ = some (.int .u64 (r : Nat)) from ⟨U3.out.keep t0, U3.out.keep t1, U3.out.keep t2, U3.out.keep t3, U3.out.keepF t0 q0, U3.out.keepF t1 q1, U3.out.keepF t2 q2, U3.out.keepF t3 q3, U3.out.keep r0, U3.out.keep r1⟩)
        have HE := hid (show OwnM w3.heap.size (w3.alloc (.cells #[] 55)) (.slice (some ⟨w3.heap.size, 0, none⟩) 0 0) ((M.take 0).map (setQ l r n)) from OwnM.empty (Nat.le_refl _) rfl)
        have H13 := hid (U2.out.trans U3.out)
        have HS3 := hid (show rb + 1 ≤ w3.heap.size by have := U3.out.size; have := E2.out; omega)
        clear t0 t1 t2 t3 q0 q1 q2 q3 r0 r1 HEm U2 U3
        go_upto_region 7 with fail
        have HV3 := hid ((Old.refl w3).alloc (.cells #[] 55))
        generalize w3.alloc (.cells #[] 55) = w4 at *
        go_wp2
        go_loopw [9, 10, 11] (fun o t i wr => ∃ k : Nat, k ≤ N ∧ i = .int .i64 (k : Nat) ∧ t = .bool (thereQ l r (M.take k)) ∧ OwnM w3.heap.size wr o ((M.take k).map (setQ l r n)) ∧ Old w3 wr) (fun _ _ i _ => N - (intOf i).toNat)
        case atStart => exact ⟨0, Nat.zero_le _, rfl, rfl, HE.out, HV3.out⟩
        case round =>
          obtain ⟨k, hkN, rfl, rfl, ho, hu⟩ := hrel
          have HU := hid hu
          have HO := hid ho
          clear hu ho HE
          obtain ⟨y0, y1, y2, y3, z0, z1, z2, z3, r0, r1⟩ := HB3.out
          have b0 := HU.out.keep y0
          have b1 := HU.out.keep y1
          have ra := HU.out.keep r0
          have rc := HU.out.keep r1
          by_cases hlt : k < N
          · obtain ⟨g, cap, he, hgb, hgl, hi⟩ := HSh.out (by omega)
            simp only [Value.slice.injEq] at he
            obtain ⟨rfl, _, rfl⟩ := he
            obtain ⟨c0, c1, c2⟩ := (hi k hlt).old ((X0.out.trans H13.out).trans HU.out)
            have l1 : (0 : Int) ≤ (k : Int) := by omega
            have l2 : (k : Int) < (N : Int) := by omega
            clear hi y0 y1 y2 y3 z0 z1 z2 z3 r0 r1
            have HSk := hid (HSt.out k hlt)
            have HTk2 := hid (HTs.out k hlt)
            have hlen := HL.out k
            generalize hzz : atR M k = z at *
            clear hzz
            generalize thereQ l r (M.take k) = th at *
            generalize hK : (M.take k).map (setQ l r n) = K1 at *
            go_upto_region 12 with fail
            generalize hw6 : wr.alloc (.cells #[.int .u64 (z.l : Nat), .int .u64 (z.h : Nat), .int .i64 z.n] 55) = w6 at *
            generalize hxb : wr.heap.size = xb at *
            obtain ⟨u6, e6, ⟨d0, d1, d2⟩, f2⟩ := item_box wr z w6 hw6 xb hxb
            have U6 := hid (HU.out.trans u6)
            have O6 := hid (HO.out.old u6)
            have E6 := hid e6
            have HXB := hid (show ∀ g', (Value.ownBlock _) = some g' → g' < xb from fun g' hg' => by have := (HO.out.lt g' hg').2; omega)
            have HW3 := hid (show w3.heap.size ≤ xb by have := HU.out.size; omega)
            have ra6 := u6.keep ra
            have rc6 := u6.keep rc
            clear hw6 hxb u6 e6 HU HO b0 b1 c0 c1 c2 ra rc
            by_cases hR : isR l r z = true
            · have t1 : ((z.l : Int) == (l : Int)) = true := by simp [isR] at hR; rw [beq_iff_eq]; omega
              have t2 : ((z.h : Int) == (r : Int)) = true := by simp [isR] at hR; rw [beq_iff_eq]; omega
              have HSz := hid (set_yes (n := n) hR)
              rw [hR, Bool.or_true] at HTk2
              clear hR
              by_cases hn : z.n < n
              · have HSz2 := hid (show setQ l r n z = ⟨z.l, z.h, n⟩ by rw [HSz.out, Int.max_eq_right (by omega)])
                go_upto_region 16 with fail
                generalize hw7 : w6.setCell ⟨xb, 2, none⟩ (.int .i64 n) = w7 at *
                have g0 : w7.cell? ⟨xb, 0, none⟩ = some (.int .u64 (z.l : Nat)) := by subst hw7; rw [World.cell?_setCell_other _ _ _ _ (by simp)]; exact d0
                have g1 : w7.cell? ⟨xb, 1, none⟩ = some (.int .u64 (z.h : Nat)) := by subst hw7; rw [World.cell?_setCell_other _ _ _ _ (by simp)]; exact d1
                have g2 : w7.cell? ⟨xb, 2, none⟩ = some (.int .i64 n) := by subst hw7; exact World.cell?_setCell_same _ _ _ d2
                have U7 := hid (show Old w3 w7 from by subst hw7; exact U6.out.setCell (p := ⟨xb, 2, none⟩) HW3.out _)
                have O7 := hid (show OwnM w3.heap.size w7 _ K1 from by subst hw7; exact O6.out.chg (Chg.set w6 ⟨xb, 2, none⟩ _ (S := [xb]) (by simp)) (fun g' hg' e => by simp at e; have := HXB.out g' hg'; omega))
                clear hw7 d0 d1 d2 f2 O6 U6 ra6 rc6
                have HU8 := hid (U7.out.alloc (.cells #[.int .u64 (z.l : Nat), .int .u64 (z.h : Nat), .int .i64 n] 55))
                go_wp2_with (first | (at_builtin; refine wp_appM rfl (.tmp 48) (.tmp 50) rfl w3.heap.size _ K1 ⟨z.l, z.h, n⟩ _ 1 rfl rfl (OwnM.old O7.out ((Old.refl _).alloc _)) (itemM_new _ ⟨z.l, z.h, n⟩ _ (by simp)) (by omega) (by have := HU8.out.size; omega) ?_; intro v8 w8 o8 g8; have O8 := hid o8; have G8 := hid g8; clear o8 g8))
                go_roundw
                case rel => exact ⟨k + 1, hlt, by go_num, by rw [HTk2.out], by rw [HSk.out, HSz2.out]; exact O8.out, HU8.out.below G8.out⟩
                case measure => simp [intOf]; omega
              · have HSz2 := hid (show setQ l r n z = z by rw [HSz.out, Int.max_eq_left (by omega)])
                have HU8 := hid (U6.out.alloc (.cells #[.int .u64 (z.l : Nat), .int .u64 (z.h : Nat), .int .i64 z.n] 55))
                go_wp2_with (first | (at_builtin; refine wp_appM rfl (.tmp 48) (.tmp 50) rfl w3.heap.size _ K1 z _ 1 rfl rfl (OwnM.old O6.out ((Old.refl _).alloc _)) (itemM_new _ z _ (by simp)) (by omega) (by have := HU8.out.size; omega) ?_; intro v8 w8 o8 g8; have O8 := hid o8; have G8 := hid g8; clear o8 g8))
                go_roundw
                case rel => exact ⟨k + 1, hlt, by go_num, by rw [HTk2.out], by rw [HSk.out, HSz2.out]; exact O8.out, HU8.out.below G8.out⟩
                case measure => simp [intOf]; omega
            · have hR2 : isR l r z = false := by simpa using hR
              have HSz2 := hid (set_no (n := n) hR2)
              rw [hR2, Bool.or_false] at HTk2
              have HU8 := hid (U6.out.alloc (.cells #[.int .u64 (z.l : Nat), .int .u64 (z.h : Nat), .int .i64 z.n] 55))
              by_cases hq : z.l = l
              · have t1 : ((z.l : Int) == (l : Int)) = true := by rw [beq_iff_eq]; omega
                have t2 : ((z.h : Int) == (r : Int)) = false := by
                  rw [beq_eq_false_iff_ne]
                  simp [isR] at hR2
                  have := hR2 hq
                  omega
                clear hR hR2 hq
                go_wp2_with (first | (at_builtin; refine wp_appM rfl (.tmp 48) (.tmp 50) rfl w3.heap.size _ K1 z _ 1 rfl rfl (OwnM.old O6.out ((Old.refl _).alloc _)) (itemM_new _ z _ (by simp)) (by omega) (by have := HU8.out.size; omega) ?_; intro v8 w8 o8 g8; have O8 := hid o8; have G8 := hid g8; clear o8 g8))
                go_roundw
                case rel => exact ⟨k + 1, hlt, by go_num, by rw [HTk2.out], by rw [HSk.out, HSz2.out]; exact O8.out, HU8.out.below G8.out⟩
                case measure => simp [intOf]; omega
              · have t1 : ((z.l : Int) == (l : Int)) = false := by rw [beq_eq_false_iff_ne]; omega
                clear hR hR2 hq
                go_wp2_with (first | (at_builtin; refine wp_appM rfl (.tmp 48) (.tmp 50) rfl w3.heap.size _ K1 z _ 1 rfl rfl (OwnM.old O6.out ((Old.refl _).alloc _)) (itemM_new _ z _ (by simp)) (by omega) (by have := HU8.out.size; omega) ?_; intro v8 w8 o8 g8; have O8 := hid o8; have G8 := hid g8; clear o8 g8))
                go_roundw
                case rel => exact ⟨k + 1, hlt, by go_num, by rw [HTk2.out], by rw [HSk.out, HSz2.out]; exact O8.out, HU8.out.below G8.out⟩
                case measure => simp [intOf]; omega
          · obtain rfl : k = N := by omega
            rw [HTk.out] at HO
            rw [HTt.out]
            have b2 := HU.out.keep y2
            have b3 := HU.out.keep y3
            have f0 := HU.out.keepF y0 z0
            have f1 := HU.out.keepF y1 z1
            have f2 := HU.out.keepF y2 z2
            have f3 := HU.out.keepF y3 z3
            have V8 := hid ((X0.out.trans H13.out).trans HU.out)
            clear y0 y1 y2 y3 z0 z1 z2 z3 r0 r1 HTk HTt HSt HTs HSh HL
            by_cases hT : thereQ l r M = true
            · have hpm := HP3.out.trans (if_pos hT)
              rw [hT]
              clear hT HP3
              obtain ⟨a8, c8, hv8⟩ := HO.out.len
              subst hv8
              generalize M.map (setQ l r n) = K2 at *
              subst hpm
              go_wp2
              refine bodyPost_ret (v := .tuple #[.agg #[.int .i64 most, .slice a8 K2.length c8], .int .i64 0]) (by simp [results, Try.results8, go_sem, *]) rfl ⟨_, rfl, ?_, ?_, fun g hg => .inr (by have := (HO.out.lt g hg).1; have := HRb.out; have := HS3.out; omega)⟩
              · have q := ((HO.out.set ⟨tb, 1, none⟩ (.slice a8 K2.length c8) (show tb < w3.heap.size by have := HRb.out; have := HS3.out; omega)).set ⟨tb + 2, 0, none⟩ (.int .i64 most) (show tb + 2 < w3.heap.size by have := HRb.out; have := HS3.out; omega)).set ⟨tb + 2, 1, none⟩ (.slice a8 K2.length c8) (show tb + 2 < w3.heap.size by have := HRb.out; have := HS3.out; omega)
                exact OwnM.mono q (by have := HRb.out; have := HS3.out; omega)
              · exact ((V8.out.setCell (by simp only [htb]; omega) _).setCell (by simp only [htb]; omega) _).setCell (by simp only [htb]; omega) _
            · have HP4 := hid (HP3.out.trans (if_neg hT))
              have hT2 : thereQ l r M = false := by simpa using hT
              rw [hT2]
              clear hT HP3 hT2
              by_cases hm : most ≤ (k : Int)
              · have hpm := HP4.out.trans (if_pos hm)
                subst hpm
                go_wp2
                refine bodyPost_ret (v := .tuple #[.agg #[.int .i64 most, .slice sa k sc], .int .i64 3]) (by simp [results, Try.results8, go_sem, *]) rfl ⟨_, rfl, (HEnd.out _ (H13.out.trans HU.out)).1, (HEnd.out _ (H13.out.trans HU.out)).2, fun g hg => .inl hg⟩
              · have hK2 : ∃ K2, M.map (setQ l r n) ++ [⟨l, r, n⟩] = K2 := ⟨_, rfl⟩
                obtain ⟨K2, hK2⟩ := hK2
                have HK2 := hid hK2
                have hpm := HP4.out.trans (if_neg hm)
                rw [hK2] at hpm
                subst hpm
                have hlen := HL2.out
                clear hK2 HP4
                go_wp2_with (first | (at_builtin; refine wp_appM rfl (.tmp 63) (.tmp 67) rfl w3.heap.size _ (M.map (setQ l r n)) ⟨l, r, n⟩ _ 1 rfl rfl (OwnM.old HO.out ((Old.refl _).alloc _)) (itemM_new _ ⟨l, r, n⟩ _ (by simp)) (by omega) (by have := HU.out.size; simp; omega) ?_; intro v8 w8 o8 g8; rw [HK2.out] at o8; obtain ⟨a8, c8, hv8⟩ := o8.len; subst hv8; have O8 := hid o8; have V9 := hid (show Old w3 w8 from (HU.out.alloc _).below g8); clear o8 g8; have m0 := V9.out.keep HB3.out.1; have m1 := V9.out.keep HB3.out.2.1; have m2 := V9.out.keep HB3.out.2.2.1; have m3 := V9.out.keep HB3.out.2.2.2.1; have n1 := V9.out.keepF HB3.out.2.1 HB3.out.2.2.2.2.2.1; have n2 := V9.out.keepF HB3.out.2.2.1 HB3.out.2.2.2.2.2.2.1; have n3 := V9.out.keepF HB3.out.2.2.2.1 HB3.out.2.2.2.2.2.2.2.1))
                refine bodyPost_ret (v := .tuple #[.agg #[.int .i64 most, .slice a8 K2.length c8], .int .i64 0]) (by simp [results, Try.results8, go_sem, *]) rfl ⟨_, rfl, ?_, ?_, fun g hg => .inr (by have := (O8.out.lt g hg).1; have := HRb.out; have := HS3.out; omega)⟩
                · have q := ((O8.out.set ⟨tb, 1, none⟩ (.slice a8 K2.length c8) (show tb < w3.heap.size by have := HRb.out; have := HS3.out; omega)).set ⟨tb + 2, 0, none⟩ (.int .i64 most) (show tb + 2 < w3.heap.size by have := HRb.out; have := HS3.out; omega)).set ⟨tb + 2, 1, none⟩ (.slice a8 K2.length c8) (show tb + 2 < w3.heap.size by have := HRb.out; have := HS3.out; omega)
                  exact OwnM.mono q (by have := HRb.out; have := HS3.out; omega)
                · exact ((((X0.out.trans H13.out).trans V9.out).setCell (by simp only [htb]; omega) _).setCell (by simp only [htb]; omega) _).setCell (by simp only [htb]; omega) _
end Go.Proofs.Ytodoogcllahfgaa
