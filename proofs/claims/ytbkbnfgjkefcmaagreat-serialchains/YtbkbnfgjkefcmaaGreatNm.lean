/- span.Norm: spans' keys as few spans; conditions: the lengths fit. -/
import Derived.Test.YtbkbnfgjkefcmaaGreatNr
namespace Go.Proofs.YtbkbnfgjkefcmaaGreat
open Go.RowKit
set_option linter.unusedVariables false
attribute [local go_sem] run_bits run_frombits run_store_float eqF
theorem infoFloat1 : (Tryz.prog.info? 43).map (·.size) = some 1 := by kernel_rfl
/-- A number is loaded. -/
theorem stepLoadF {ops : Array Oper} {o : Oper} {a : Act} {w : World} {K : Act → World → Prop} {Q : Exit → Act → World → Prop} {E : Prop} (hg : o.guard = none) (x : Operand) (hop : o.op = Op.load 43 x) (b off v : Nat)
    (hx : a.eval x = .pointer (some ⟨b, off, none⟩)) (hc : w.cell? ⟨b, off, none⟩ = some (.float .f64 v)) (hK : K (a.put o.dst (.float .f64 v)) w) :
    if Region.wanted o (yielded ops a.tmps) = true then Oper.wp Tryz.prog o a w K Q else E := by
  have hw : Region.wanted o (yielded ops a.tmps) = true := by simp [Region.wanted, hg]
  rw [if_pos hw]
  obtain ⟨d, p, t, ps, af, gd⟩ := o
  subst hop
  unfold Oper.wp execOp
  simp only [hx]
  go_simp
  exact hK
/-- A number is stored into a row. -/
theorem stepStoreF {ops : Array Oper} {o : Oper} {a : Act} {w : World} {K : Act → World → Prop} {Q : Exit → Act → World → Prop} {E : Prop} (hg : o.guard = none) (x y : Operand) (hop : o.op = Op.store 43 x y) (m off v : Nat)
    (hx : a.eval x = .pointer (some ⟨m, off, none⟩)) (hy : a.eval y = .float .f64 v) (ht : w.there m off 1)
    (hK : K (a.put o.dst undef) (w.setCell ⟨m, off, none⟩ (.float .f64 v))) :
    if Region.wanted o (yielded ops a.tmps) = true then Oper.wp Tryz.prog o a w K Q else E := by
  have hw : Region.wanted o (yielded ops a.tmps) = true := by simp [Region.wanted, hg]
  rw [if_pos hw]
  obtain ⟨h1, h2⟩ := ht 0 (by omega)
  rw [Nat.add_zero] at h1 h2
  obtain ⟨z, hz⟩ := Option.isSome_iff_exists.1 h1
  obtain ⟨d, p, t, ps, af, gd⟩ := o
  subst hop
  unfold Oper.wp execOp
  simp only [hx, hy]
  go_simp
  exact hK
/-- The last span of a row has another end. -/
theorem OwnS.setHi {base : Nat} {w : World} {g cap n : Nat} {I : List Sp} {s : Sp} (hn : n = (I ++ [s]).length) (h : OwnS base w (.slice (some ⟨g, 0, none⟩) n cap) (I ++ [s])) (x : Nat) :
    OwnS base (w.setCell ⟨g, I.length * 4 + 1, none⟩ (.float .f64 x)) (.slice (some ⟨g, 0, none⟩) n cap) (I ++ [⟨s.a, x, s.p, s.q⟩]) := by
  subst hn
  unfold OwnS at *
  have k := (World.ownsRow.stored h (I.length * 4 + 1) (.float .f64 x)).1
  have e : (spcs (I ++ [s])).set (I.length * 4 + 1) (.float .f64 x) = spcs (I ++ [⟨s.a, x, s.p, s.q⟩]) := by
    rw [← spcs_app, ← spcs_app, List.set_append_right _ _ (by rw [spcs_len]; omega), spcs_len, show I.length * 4 + 1 - I.length * 4 = 1 by omega]
    rfl
  rw [e] at k
  simpa using k
abbrev E5 (g J lu lv fb u v : Nat) (w : World) : Prop := (w.cell? ⟨g, J * 4, none⟩ = some (.float .f64 lu) ∧ w.cell? ⟨g, J * 4 + 1, none⟩ = some (.float .f64 lv) ∧ w.cell? ⟨g, J * 4 + 2, none⟩ = some (.bool false) ∧ w.cell? ⟨g, J * 4 + 3, none⟩ = some (.bool false)) ∧ SpAt fb u v false false w
theorem E5.old {g J lu lv fb u v : Nat} {w w' : World} (x : Old w w') (h : E5 g J lu lv fb u v w) : E5 g J lu lv fb u v w' := ⟨⟨x.keep h.1.1, x.keep h.1.2.1, x.keep h.1.2.2.1, x.keep h.1.2.2.2⟩, x.keep h.2.1, x.keep h.2.2.1, x.keep h.2.2.2.1, x.keep h.2.2.2.2⟩
set_option maxHeartbeats 4000000 in
set_option maxRecDepth 20000 in
theorem norm_any (v : Value) (n : Nat) (f : Nat → Sp) (hn : n ≤ 5864062014805) (w : World) (hv : SRow w v n f) :
    Calls Tryz.prog 97 #[v] w fun e w' => ∃ v' : Value, e = .returned v' ∧ OwnS w.heap.size w' v' ((Fl.dfold (Fl.cdl f n)).map Fl.spo) ∧ Old w w' := by
  have HR := hid (rising_any v n f hn w hv)
  obtain ⟨hm, a, c, rfl, hc⟩ := hv
  have HW := hid (Fl.cdl_RV f n fun i (hi : i < n) => by obtain ⟨_, _, _, h1, h2, _⟩ := hc i hi; exact (⟨h1, h2⟩ : Fl.W (f i).a ∧ Fl.W (f i).b))
  clear hc
  go_enter Tryz.func97, Tryz.ntmps97
  go_wp2_with (go_at_call 107; refine HR.out.mono ?_; rintro e w1 ⟨v1, S, rfl, hs, hmem, hlen, hp, hu1⟩; obtain ⟨hm1, a1, c1, rfl, hc1⟩ := hs)
  have HC := hid hc1
  have HP := hid hp
  have HM := hid hmem
  have HU1 := hid hu1
  have HRV := hid (fun r hr => HW.out r ((hmem r).1 hr))
  clear hc1 hp hmem hu1 HR
  go_loopw [3, 10] (fun o i wr => ∃ k : Nat, k ≤ S.length ∧ i = .int .i64 (k : Nat) ∧ OwnS w1.heap.size wr o ((Fl.nfold (S.take k)).map Fl.spo) ∧ Old w1 wr) (fun _ i _ => S.length - (intOf i).toNat)
  case atStart => exact ⟨0, Nat.zero_le _, rfl, OwnS.nil _ _, Old.refl _⟩
  case round =>
    obtain ⟨k, hk, rfl, ho, hu⟩ := hrel
    have HU := hid hu
    clear hu
    by_cases hlt : k < S.length
    · have hrv := HRV.out S[k] (List.getElem_mem hlt)
      have hNF := Fl.nfold_ok _ (S.take k) rfl (fun r hr => HRV.out r (List.mem_of_mem_take hr)) (HP.out.sublist (List.take_sublist _ _))
      have hST : Fl.nfold (S.take (k + 1)) = Fl.nstep (Fl.nfold (S.take k)) S[k] := by rw [List.take_succ_eq_append_getElem hlt, Fl.nfold_snoc]
      have HST := hid hST
      have hNl : (Fl.nfold (S.take k)).length ≤ k := by have := hNF.2.2.2.1; simp at this; omega
      obtain ⟨b, off, ha, hW1, hW2, c0⟩ := HC.out k hlt
      subst ha
      have hk2 : k < (List.map Fl.spo S).length := by rw [List.length_map]; exact hlt
      rw [atS_get _ k hk2, List.getElem_map] at c0
      obtain ⟨x0, x1, x2, x3⟩ := c0.old HU.out
      have hgx : ∀ l : Nat × Nat, Fl.RV l → decide (Fl.code (Fl.nextB (Fl.of l.2)) < Fl.code (Fl.of S[k].1)) = decide (Fl.nx l.2 < S[k].1) := fun l hl => Fl.gap_nx hl hrv
      have HGX := hid hgx
      have hmx : ∀ l : Nat × Nat, Fl.RV l → Fl.mx (Fl.of l.2) (Fl.of S[k].2) = Fl.of (max l.2 S[k].2) := fun l hl => Fl.mx_of hl.2.1 hrv.2.1
      have HMX := hid hmx
      have hof := Fl.of_V hrv.1
      have hof2 := Fl.of_V hrv.2.1
      have HF : Hid (Fl.spo S[k] = ⟨Fl.of S[k].1, Fl.of S[k].2, false, false⟩) := rfl
      have hl1 : (0 : Int) ≤ (k : Int) := by omega
      have hl2 : (k : Int) < (S.length : Int) := by omega
      have HNL := hid hNF.1
      clear c0 hgx hmx hST hW1 hW2 hNF
      simp only [Fl.spo] at x0 x1 x2 x3
      generalize hN : Fl.nfold (S.take k) = N at *
      have HN := hid hN
      clear hN
      generalize hfk : S[k] = fk at *
      have HFK := hid hfk
      clear hfk
      obtain ⟨f1, f2⟩ := fk
      dsimp only at *
      generalize Fl.of f1 = u at *
      generalize Fl.of f2 = v at *
      rcases Fl.list_ends N with hN | ⟨I, l, hN⟩
      · subst hN
        have HO := hid ho
        obtain ⟨a', c', hv'⟩ := ho.len
        rw [show (List.map Fl.spo ([] : List (Nat × Nat))).length = 0 from rfl] at hv'
        subst hv'
        clear ho
        go_wp2_with fail
        go_quiet (fail)
        have zr := HU.out.size
        go_wp2_with (first | (at_builtin; refine wp_appS rfl (.tmp 43) (.tmp 45) rfl w1.heap.size _ [] [⟨u, v, false, false⟩] _ 0 1 rfl rfl (OwnS.old HO.out (by repeat (first | exact Old.refl _ | assumption | refine Old.drew ?_ | refine Old.drewN ?_ _ | refine Old.alloc ?_ _ | refine Old.setCell ?_ ?_ _ | exact Nat.le_refl _ | exact Nat.le_add_right _ _ | (dsimp only; omega) | refine Old.trans ?_ (Up.old ‹Up _ _›)))) (spIn_new _ ⟨u, v, false, false⟩ _ (by simp)) (by simp) (by simp; omega) ?_; intro v8 w8 o8 u8; have O8 := hid o8; have V8 := hid (Old.below (HU.out.trans (show Old wr _ from (by repeat (first | exact Old.refl _ | assumption | refine Old.drew ?_ | refine Old.drewN ?_ _ | refine Old.alloc ?_ _ | refine Old.setCell ?_ ?_ _ | exact Nat.le_refl _ | exact Nat.le_add_right _ _ | (dsimp only; omega) | refine Old.trans ?_ (Up.old ‹Up _ _›))))) u8); clear o8 u8))
        go_roundw
        case rel => exact ⟨k + 1, hlt, by go_num, by rw [HST.out, Fl.nstep_nil]; simp only [List.map_singleton]; rw [HF.out]; exact O8.out, V8.out⟩
        case measure => simp [intOf]; omega
      · subst hN
        have hil := Fl.nl_init HNL.out
        have HL := hid hil.2.1
        have hlv := Fl.of_V hil.2.1.2.1
        have hg1 := HGX.out l hil.2.1
        have HMx := hid (HMX.out l hil.2.1)
        have hmap : List.map Fl.spo (I ++ [l]) = List.map Fl.spo I ++ [Fl.spo l] := by simp
        rw [hmap] at ho
        have HO := hid ho
        obtain ⟨g, cap, hv', hgb, hgl, hnc, hcm, hcell, hfz⟩ := ho.shape (by simp)
        have hJ0 : (List.map Fl.spo I ++ [Fl.spo l]).length = I.length + 1 := by simp
        have hJl : I.length + 1 ≤ k := by simpa using hNl
        have hla := hcell I.length (by simp)
        rw [hJ0] at hv'
        subst hv'
        have hle : (List.map Fl.spo I ++ [Fl.spo l])[I.length]'(by simp) = Fl.spo l := by rw [List.getElem_append_right (by simp)]; simp
        rw [hle] at hla
        obtain ⟨y0, y1, y2, y3⟩ := hla
        simp only [Fl.spo] at y0 y1 y2 y3
        have HFz := hid (hfz (I.length * 4 + 1))
        have HJ : Hid (I.length = (List.map Fl.spo I).length) := by show _ = _; simp
        have HSl : Hid (Fl.spo l = ⟨Fl.of l.1, Fl.of l.2, false, false⟩) := rfl
        clear hcell hfz hle hmap ho hil
        have HGap := fun W => gap_any (Fl.of l.1) (Fl.of l.2) u v hlv.1 hof.1 false false false false W
        rw [hg1] at HGap
        have HMo := hid (fun m c W => most2 (Fl.of l.2) v m c hlv.1 hof2.1 hlv.2.2.1 hof2.2.2.1 W)
        generalize Fl.of l.1 = lu at *
        generalize hlv' : Fl.of l.2 = lv at *
        have HLV := hid hlv'
        clear hlv'
        have l3 : ((I.length + 1 : Nat) : Int) - 1 = (I.length : Int) := by omega
        have l4 : (0 : Int) ≤ (I.length : Int) := by omega
        have l5 : (I.length : Int) < ((I.length + 1 : Nat) : Int) := by omega
        have l6 : (0 : Int) < ((I.length + 1 : Nat) : Int) := by omega
        have l7 : I.length ≤ 5864062014805 := by omega
        have l8 : IntKind.i64.wrap (I.length : Int) = (I.length : Int) := IntWalk.i64_in _ (by omega)
        have l9 : IntKind.i64.wrap (((I.length + 1 : Nat) : Int) - 1) = (I.length : Int) := by rw [l3]; exact l8
        have l10 : (I.length : Int) < (I.length : Int) + 1 := by omega
        generalize hJ : I.length = J at *
        have HJJ := hid hJ
        clear hJ
        have zr := HU.out.size
        by_cases hgap : Fl.nx l.2 < f1
        · rw [decide_eq_true hgap] at HGap
          have HG := hid HGap
          have HST2 := hid (Fl.nstep_gap I l (f1, f2) hgap)
          clear HGap hg1
          go_wp2_with fail
          have hE : E5 g J lu lv wr.heap.size u v (wr.alloc (.cells #[.float .f64 u, .float .f64 v, .bool false, .bool false] 67)) := ⟨⟨((Old.refl wr).alloc _).keep y0, ((Old.refl wr).alloc _).keep y1, ((Old.refl wr).alloc _).keep y2, ((Old.refl wr).alloc _).keep y3⟩, by simp [SpAt]⟩
          go_region_held3 (E5 g J lu lv wr.heap.size u v) (first | assumption | exact hE | (refine E5.old ?_ hE; assumption)) (first | (go_at_call 108; refine (HG.out _).mono ?_; rintro e w2 ⟨rfl, hb2⟩; have UX : Old (wr.alloc (.cells #[.float .f64 u, .float .f64 v, .bool false, .bool false] 67)) w2 := ((Old.refl _).drew).trans hb2.old))
          have hE2 : E5 g J lu lv wr.heap.size u v w2 := by assumption
          have UH := hid (((Old.refl wr).alloc _).trans UX)
          have zw := UH.out.size
          go_wp2_with (first | (at_builtin; refine wp_appS rfl (.tmp 43) (.tmp 45) rfl w1.heap.size _ (List.map Fl.spo I ++ [Fl.spo l]) [⟨u, v, false, false⟩] _ 0 1 rfl rfl (OwnS.old HO.out (UH.out.alloc _)) (spIn_new _ ⟨u, v, false, false⟩ _ (by simp)) (by rw [hJ0]; simp; omega) (by simp; omega) ?_; intro v8 w8 o8 u8; have O8 := hid o8; have V8 := hid (Old.below ((HU.out.trans UH.out).alloc _) u8); clear o8 u8))
          go_roundw
          case rel => exact ⟨k + 1, hlt, by go_num, by rw [HST.out, HST2.out, List.map_append, List.map_append, List.map_singleton, List.map_singleton, HF.out]; exact O8.out, V8.out⟩
          case measure => simp [intOf]; omega
        · rw [decide_eq_false hgap] at HGap
          have HG := hid HGap
          have HST2 := hid (Fl.nstep_in I l (f1, f2) hgap)
          clear HGap hg1
          go_wp2_with fail
          have hE : E5 g J lu lv wr.heap.size u v (wr.alloc (.cells #[.float .f64 u, .float .f64 v, .bool false, .bool false] 67)) := ⟨⟨((Old.refl wr).alloc _).keep y0, ((Old.refl wr).alloc _).keep y1, ((Old.refl wr).alloc _).keep y2, ((Old.refl wr).alloc _).keep y3⟩, by simp [SpAt]⟩
          go_region_held3 (E5 g J lu lv wr.heap.size u v) (first | assumption | exact hE | (refine E5.old ?_ hE; assumption)) (first | (go_at_call 108; refine (HG.out _).mono ?_; rintro e w2 ⟨rfl, hb2⟩; have UX : Old (wr.alloc (.cells #[.float .f64 u, .float .f64 v, .bool false, .bool false] 67)) w2 := ((Old.refl _).drew).trans hb2.old))
          have hE2 : E5 g J lu lv wr.heap.size u v w2 := by assumption
          have UH := hid (((Old.refl wr).alloc _).trans UX)
          have zw := UH.out.size
          have HFin : Hid (∀ W, Old w2 W → OwnS w1.heap.size (W.setCell ⟨g, J * 4 + 1, none⟩ (.float .f64 (Fl.mx lv v))) (.slice (some ⟨g, 0, none⟩) (J + 1) cap) ((Fl.nfold (S.take (k + 1))).map Fl.spo)) := fun W hW => by
            have h1 := OwnS.setHi (n := J + 1) (by rw [hJ0]) (OwnS.old HO.out (UH.out.trans hW)) (Fl.mx lv v)
            rw [← HJ.out] at h1
            rw [HST.out, HST2.out, List.map_append, List.map_singleton]
            have e : Fl.spo (l.1, max l.2 f2) = ⟨(Fl.spo l).a, Fl.mx lv v, (Fl.spo l).p, (Fl.spo l).q⟩ := by rw [HMx.out]; rfl
            rw [e]; exact h1
          have HTh : Hid (∀ W, Old w2 W → W.there g (J * 4 + 1) 1) := fun W hW j hj => by
            obtain rfl : j = 0 := by omega
            rw [Nat.add_zero]
            refine ⟨by rw [hW.keep hE2.1.2.1]; rfl, hW.keepF hE2.1.2.1 (UH.out.keepF y1 HFz.out)⟩
          have HFo : Hid (∀ W, Old w2 W → Old w1 (W.setCell ⟨g, J * 4 + 1, none⟩ (.float .f64 (Fl.mx lv v)))) := fun W hW => ((HU.out.trans UH.out).trans hW).setCell hgb _
          go_wp2_with fail
          refine wp_region_noPanic ?_
          refine wp_region_held_drew (S := fun _ => True) (by kernel_rfl) ?_ (fun hHeld => ?_)
          · exact trivial
          (try simp only [Act.put]); (try simp only [List.setIfInBounds_toArray]); (try simp only [List.set_cons_succ]); (try simp only [List.set_cons_zero])
          clear hHeld
          refine wpAnyH_take (i := 0) (oi := { dst := some 28, op := Op.move (Operand.tmp 3), type := 29, pos := "span.go:101", after := #[], guard := none }) (v := ?vk1) rfl (by kernel_rfl) (by kernel_rfl) (by kernel_rfl) (fun _ _ _ h => h) (Or.inl ⟨by rfl, ?hk1⟩) trivial ?rk1
          case hk1 => (intro wz hSw; (try dsimp only at hSw); go_simp; try with_reducible rfl)
          (try simp only [Act.put]); (try simp only [List.setIfInBounds_toArray]); (try simp only [List.set_cons_succ]); (try simp only [List.set_cons_zero])
          refine wpAnyH_take (i := 1) (oi := { dst := some 29, op := Op.move (Operand.tmp 6), type := 3, pos := "span.go:101", after := #[], guard := none }) (v := ?vk2) rfl (by kernel_rfl) (by kernel_rfl) (by kernel_rfl) (fun _ _ _ h => h) (Or.inl ⟨by rfl, ?hk2⟩) trivial ?rk2
          case hk2 => (intro wz hSw; (try dsimp only at hSw); go_simp; try with_reducible rfl)
          (try simp only [Act.put]); (try simp only [List.setIfInBounds_toArray]); (try simp only [List.set_cons_succ]); (try simp only [List.set_cons_zero])
          refine wpAnyH_take (i := 2) (oi := { dst := some 30, op := Op.binOp BinOp.sub 3 (Operand.tmp 29) (Operand.const (Value.int IntKind.i64 1)) 3, type := 3, pos := "span.go:101", after := #[{ on := 1, ground := Ground.data }], guard := none }) (v := ?vk3) rfl (by kernel_rfl) (by kernel_rfl) (by kernel_rfl) (fun _ _ _ h => h) (Or.inl ⟨by rfl, ?hk3⟩) trivial ?rk3
          case hk3 => (intro wz hSw; (try dsimp only at hSw); go_simp; try with_reducible rfl)
          (try simp only [Act.put]); (try simp only [List.setIfInBounds_toArray]); (try simp only [List.set_cons_succ]); (try simp only [List.set_cons_zero])
          refine wpAnyH_take (i := 3) (oi := { dst := some 31, op := Op.move (Operand.tmp 3), type := 29, pos := "span.go:101", after := #[], guard := none }) (v := ?vk4) rfl (by kernel_rfl) (by kernel_rfl) (by kernel_rfl) (fun _ _ _ h => h) (Or.inl ⟨by rfl, ?hk4⟩) trivial ?rk4
          case hk4 => (intro wz hSw; (try dsimp only at hSw); go_simp; try with_reducible rfl)
          (try simp only [Act.put]); (try simp only [List.setIfInBounds_toArray]); (try simp only [List.set_cons_succ]); (try simp only [List.set_cons_zero])
          refine wpAnyH_take (i := 4) (oi := { dst := some 32, op := Op.move (Operand.tmp 6), type := 3, pos := "span.go:101", after := #[], guard := none }) (v := ?vk5) rfl (by kernel_rfl) (by kernel_rfl) (by kernel_rfl) (fun _ _ _ h => h) (Or.inl ⟨by rfl, ?hk5⟩) trivial ?rk5
          case hk5 => (intro wz hSw; (try dsimp only at hSw); go_simp; try with_reducible rfl)
          (try simp only [Act.put]); (try simp only [List.setIfInBounds_toArray]); (try simp only [List.set_cons_succ]); (try simp only [List.set_cons_zero])
          refine wpAnyH_take (i := 5) (oi := { dst := some 33, op := Op.binOp BinOp.sub 3 (Operand.tmp 32) (Operand.const (Value.int IntKind.i64 1)) 3, type := 3, pos := "span.go:101", after := #[{ on := 4, ground := Ground.data }], guard := none }) (v := ?vk6) rfl (by kernel_rfl) (by kernel_rfl) (by kernel_rfl) (fun _ _ _ h => h) (Or.inl ⟨by rfl, ?hk6⟩) trivial ?rk6
          case hk6 => (intro wz hSw; (try dsimp only at hSw); go_simp; try with_reducible rfl)
          (try simp only [Act.put]); (try simp only [List.setIfInBounds_toArray]); (try simp only [List.set_cons_succ]); (try simp only [List.set_cons_zero])
          refine wpAnyH_take (i := 6) (oi := { dst := some 34, op := Op.indexAddr 29 (Operand.tmp 31) (Operand.tmp 33), type := 0, pos := "span.go:101", after := #[{ on := 3, ground := Ground.data }, { on := 5, ground := Ground.data }], guard := none }) (v := ?vk7) rfl (by kernel_rfl) (by kernel_rfl) (by kernel_rfl) (fun _ _ _ h => h) (Or.inl ⟨by rfl, ?hk7⟩) trivial ?rk7
          case hk7 => (intro wz hSw; (try dsimp only at hSw); go_simp; try with_reducible rfl)
          (try simp only [Act.put]); (try simp only [List.setIfInBounds_toArray]); (try simp only [List.set_cons_succ]); (try simp only [List.set_cons_zero])
          refine wpAnyH_take (i := 7) (oi := { dst := some 35, op := Op.fieldAddr 67 (Operand.tmp 34) 1, type := 0, pos := "span.go:101", after := #[{ on := 6, ground := Ground.data }], guard := none }) (v := ?vk8) rfl (by kernel_rfl) (by kernel_rfl) (by kernel_rfl) (fun _ _ _ h => h) (Or.inl ⟨by rfl, ?hk8⟩) trivial ?rk8
          case hk8 => (intro wz hSw; (try dsimp only at hSw); go_simp; try with_reducible rfl)
          (try simp only [Act.put]); (try simp only [List.setIfInBounds_toArray]); (try simp only [List.set_cons_succ]); (try simp only [List.set_cons_zero])
          refine wpAnyH_take (i := 9) (oi := { dst := some 37, op := Op.fieldAddr 67 (Operand.tmp 5) 1, type := 0, pos := "span.go:101", after := #[], guard := none }) (v := ?vk9) rfl (by kernel_rfl) (by kernel_rfl) (by kernel_rfl) (fun _ _ _ h => h) (Or.inl ⟨by rfl, ?hk9⟩) trivial ?rk9
          case hk9 => (intro wz hSw; (try dsimp only at hSw); go_simp; try with_reducible rfl)
          (try simp only [Act.put]); (try simp only [List.setIfInBounds_toArray]); (try simp only [List.set_cons_succ]); (try simp only [List.set_cons_zero])
          refine wpAnyH_ready (rs := [8, 10]) (by kernel_rfl) (by simp) ?_
          refine AllReadyH.cons (o := { dst := some 36, op := Op.load 43 (Operand.tmp 35), type := 43, pos := "span.go:101", after := #[{ on := 7, ground := Ground.data }], guard := none }) rfl (fun K hK => ?_) (AllReadyH.cons (o := { dst := some 38, op := Op.load 43 (Operand.tmp 37), type := 43, pos := "span.go:101", after := #[{ on := 9, ground := Ground.data }], guard := none }) rfl (fun K hK => ?_) AllReadyH.nil)
          · skip
            refine stepLoadF ?_ (.tmp 35) ?_ g (J * 4 + 1) lv ?_ hE2.1.2.1 ?_
            · rfl
            · rfl
            · rfl
            refine hK.out _ _ trivial (fun _ => ?_)
            clear hK K
            (try simp only [Act.put]); (try simp only [List.setIfInBounds_toArray]); (try simp only [List.set_cons_succ]); (try simp only [List.set_cons_zero])
            refine wpAnyH_ready (rs := [10]) (by kernel_rfl) (by simp) ?_
            refine AllReadyH.cons (o := { dst := some 38, op := Op.load 43 (Operand.tmp 37), type := 43, pos := "span.go:101", after := #[{ on := 9, ground := Ground.data }], guard := none }) rfl (fun K hK => ?_) AllReadyH.nil
            · skip
              refine stepLoadF ?_ (.tmp 37) ?_ wr.heap.size 1 v ?_ hE2.2.2.1 ?_
              · rfl
              · rfl
              · rfl
              refine hK.out _ _ trivial (fun _ => ?_)
              clear hK K
              (try simp only [Act.put]); (try simp only [List.setIfInBounds_toArray]); (try simp only [List.set_cons_succ]); (try simp only [List.set_cons_zero])
              refine wpAnyH_ready (rs := [11]) (by kernel_rfl) (by simp) ?_
              refine AllReadyH.cons (o := { dst := some 39, op := Op.buildSlice 28 2 #[(0, Operand.tmp 36), (1, Operand.tmp 38)], type := 28, pos := "span.go:101", after := #[{ on := 8, ground := Ground.data }, { on := 10, ground := Ground.data }], guard := none }) rfl (fun K hK => ?_) AllReadyH.nil
              · skip
                refine stepBuild2 ?_ (.tmp 36) (.tmp 38) ?_ lv v ?_ ?_ ?_
                · rfl
                · rfl
                · rfl
                · rfl
                intro m10 x10 hm10 hx10
                obtain ⟨r2, b10⟩ := R2.new (u := lv) (v := v) hm10 hx10
                clear hm10 hx10
                have U10 : Old w2 x10 := ((Old.refl w2).drew).trans b10.old
                refine hK.out _ _ trivial (fun _ => ?_)
                clear hK K
                (try simp only [Act.put]); (try simp only [List.setIfInBounds_toArray]); (try simp only [List.set_cons_succ]); (try simp only [List.set_cons_zero])
                refine wpAnyH_ready (rs := [12]) (by kernel_rfl) (by simp) ?_
                refine AllReadyH.cons (o := { dst := some 40, op := Op.call { callee := Callee.value (Operand.func 109), args := #[Operand.tmp 39], argTypes := #[28] }, type := 43, pos := "span.go:101", after := #[{ on := 11, ground := Ground.data }], guard := none }) rfl (fun K hK => ?_) AllReadyH.nil
                · skip
                  refine stepCall1 ?_ 109 (.tmp 39) #[28] ?_ (.slice (some ⟨m10, 0, none⟩) 2 2) ?_ ?_ (enter_most _ _) ?_
                  · rfl
                  · rfl
                  · rfl
                  · rfl
                  refine (HMo.out _ _ _ r2.1 r2.2).mono ?_
                  rintro o y11 ⟨rfl, rfl⟩
                  refine ⟨_, rfl, ?_⟩
                  refine hK.out _ _ trivial (fun _ => ?_)
                  clear hK K
                  (try simp only [Act.put]); (try simp only [List.setIfInBounds_toArray]); (try simp only [List.set_cons_succ]); (try simp only [List.set_cons_zero])
                  refine wpAnyH_take (i := 13) (oi := { dst := some 41, op := Op.indexAddr 29 (Operand.tmp 28) (Operand.tmp 30), type := 0, pos := "span.go:101", after := #[{ on := 0, ground := Ground.data }, { on := 2, ground := Ground.data }, { on := 0, ground := Ground.phase }, { on := 1, ground := Ground.phase }, { on := 2, ground := Ground.phase }, { on := 3, ground := Ground.phase }, { on := 4, ground := Ground.phase }, { on := 5, ground := Ground.phase }, { on := 6, ground := Ground.phase }, { on := 7, ground := Ground.phase }, { on := 8, ground := Ground.phase }, { on := 9, ground := Ground.phase }, { on := 10, ground := Ground.phase }, { on := 11, ground := Ground.phase }, { on := 12, ground := Ground.phase }], guard := none }) (v := ?vk12) rfl (by kernel_rfl) (by kernel_rfl) (by kernel_rfl) (fun _ _ _ h => h) (Or.inl ⟨by rfl, ?hk12⟩) trivial ?rk12
                  case hk12 => (intro wz hSw; (try dsimp only at hSw); go_simp; try with_reducible rfl)
                  (try simp only [Act.put]); (try simp only [List.setIfInBounds_toArray]); (try simp only [List.set_cons_succ]); (try simp only [List.set_cons_zero])
                  refine wpAnyH_take (i := 14) (oi := { dst := some 42, op := Op.fieldAddr 67 (Operand.tmp 41) 1, type := 0, pos := "span.go:101", after := #[{ on := 13, ground := Ground.data }, { on := 0, ground := Ground.phase }, { on := 1, ground := Ground.phase }, { on := 2, ground := Ground.phase }, { on := 3, ground := Ground.phase }, { on := 4, ground := Ground.phase }, { on := 5, ground := Ground.phase }, { on := 6, ground := Ground.phase }, { on := 7, ground := Ground.phase }, { on := 8, ground := Ground.phase }, { on := 9, ground := Ground.phase }, { on := 10, ground := Ground.phase }, { on := 11, ground := Ground.phase }, { on := 12, ground := Ground.phase }], guard := none }) (v := ?vk13) rfl (by kernel_rfl) (by kernel_rfl) (by kernel_rfl) (fun _ _ _ h => h) (Or.inl ⟨by rfl, ?hk13⟩) trivial ?rk13
                  case hk13 => (intro wz hSw; (try dsimp only at hSw); go_simp; try with_reducible rfl)
                  (try simp only [Act.put]); (try simp only [List.setIfInBounds_toArray]); (try simp only [List.set_cons_succ]); (try simp only [List.set_cons_zero])
                  refine wpAnyH_ready (rs := [15]) (by kernel_rfl) (by simp) ?_
                  refine AllReadyH.cons (o := { dst := none, op := Op.store 43 (Operand.tmp 42) (Operand.tmp 40), type := 0, pos := "span.go:101", after := #[{ on := 14, ground := Ground.data }, { on := 12, ground := Ground.data }, { on := 12, ground := Ground.chain }, { on := 0, ground := Ground.phase }, { on := 1, ground := Ground.phase }, { on := 2, ground := Ground.phase }, { on := 3, ground := Ground.phase }, { on := 4, ground := Ground.phase }, { on := 5, ground := Ground.phase }, { on := 6, ground := Ground.phase }, { on := 7, ground := Ground.phase }, { on := 8, ground := Ground.phase }, { on := 9, ground := Ground.phase }, { on := 10, ground := Ground.phase }, { on := 11, ground := Ground.phase }, { on := 12, ground := Ground.phase }], guard := none }) rfl (fun K hK => ?_) AllReadyH.nil
                  · skip
                    refine stepStoreF ?_ (.tmp 42) (.tmp 40) ?_ g (J * 4 + 1) (Fl.mx lv v) ?_ ?_ (HTh.out _ U10) ?_
                    · rfl
                    · rfl
                    · rfl
                    · rfl
                    refine hK.out _ _ trivial (fun _ => ?_)
                    clear hK K
                    (try simp only [Act.put]); (try simp only [List.setIfInBounds_toArray]); (try simp only [List.set_cons_succ]); (try simp only [List.set_cons_zero])
                    refine wpAnyH_done (by kernel_rfl) ?_ _
                    refine NoPanic.normal ?_
                    go_wp2
                    go_roundw
                    case rel => exact ⟨k + 1, hlt, by go_num, HFin.out _ U10, HFo.out _ U10⟩
                    case measure => simp [intOf]; omega
          · skip
            refine stepLoadF ?_ (.tmp 37) ?_ wr.heap.size 1 v ?_ hE2.2.2.1 ?_
            · rfl
            · rfl
            · rfl
            refine hK.out _ _ trivial (fun _ => ?_)
            clear hK K
            (try simp only [Act.put]); (try simp only [List.setIfInBounds_toArray]); (try simp only [List.set_cons_succ]); (try simp only [List.set_cons_zero])
            refine wpAnyH_ready (rs := [8]) (by kernel_rfl) (by simp) ?_
            refine AllReadyH.cons (o := { dst := some 36, op := Op.load 43 (Operand.tmp 35), type := 43, pos := "span.go:101", after := #[{ on := 7, ground := Ground.data }], guard := none }) rfl (fun K hK => ?_) AllReadyH.nil
            · skip
              refine stepLoadF ?_ (.tmp 35) ?_ g (J * 4 + 1) lv ?_ hE2.1.2.1 ?_
              · rfl
              · rfl
              · rfl
              refine hK.out _ _ trivial (fun _ => ?_)
              clear hK K
              (try simp only [Act.put]); (try simp only [List.setIfInBounds_toArray]); (try simp only [List.set_cons_succ]); (try simp only [List.set_cons_zero])
              refine wpAnyH_ready (rs := [11]) (by kernel_rfl) (by simp) ?_
              refine AllReadyH.cons (o := { dst := some 39, op := Op.buildSlice 28 2 #[(0, Operand.tmp 36), (1, Operand.tmp 38)], type := 28, pos := "span.go:101", after := #[{ on := 8, ground := Ground.data }, { on := 10, ground := Ground.data }], guard := none }) rfl (fun K hK => ?_) AllReadyH.nil
              · skip
                refine stepBuild2 ?_ (.tmp 36) (.tmp 38) ?_ lv v ?_ ?_ ?_
                · rfl
                · rfl
                · rfl
                · rfl
                intro m14 x14 hm14 hx14
                obtain ⟨r2, b14⟩ := R2.new (u := lv) (v := v) hm14 hx14
                clear hm14 hx14
                have U14 : Old w2 x14 := ((Old.refl w2).drew).trans b14.old
                refine hK.out _ _ trivial (fun _ => ?_)
                clear hK K
                (try simp only [Act.put]); (try simp only [List.setIfInBounds_toArray]); (try simp only [List.set_cons_succ]); (try simp only [List.set_cons_zero])
                refine wpAnyH_ready (rs := [12]) (by kernel_rfl) (by simp) ?_
                refine AllReadyH.cons (o := { dst := some 40, op := Op.call { callee := Callee.value (Operand.func 109), args := #[Operand.tmp 39], argTypes := #[28] }, type := 43, pos := "span.go:101", after := #[{ on := 11, ground := Ground.data }], guard := none }) rfl (fun K hK => ?_) AllReadyH.nil
                · skip
                  refine stepCall1 ?_ 109 (.tmp 39) #[28] ?_ (.slice (some ⟨m14, 0, none⟩) 2 2) ?_ ?_ (enter_most _ _) ?_
                  · rfl
                  · rfl
                  · rfl
                  · rfl
                  refine (HMo.out _ _ _ r2.1 r2.2).mono ?_
                  rintro o y15 ⟨rfl, rfl⟩
                  refine ⟨_, rfl, ?_⟩
                  refine hK.out _ _ trivial (fun _ => ?_)
                  clear hK K
                  (try simp only [Act.put]); (try simp only [List.setIfInBounds_toArray]); (try simp only [List.set_cons_succ]); (try simp only [List.set_cons_zero])
                  refine wpAnyH_take (i := 13) (oi := { dst := some 41, op := Op.indexAddr 29 (Operand.tmp 28) (Operand.tmp 30), type := 0, pos := "span.go:101", after := #[{ on := 0, ground := Ground.data }, { on := 2, ground := Ground.data }, { on := 0, ground := Ground.phase }, { on := 1, ground := Ground.phase }, { on := 2, ground := Ground.phase }, { on := 3, ground := Ground.phase }, { on := 4, ground := Ground.phase }, { on := 5, ground := Ground.phase }, { on := 6, ground := Ground.phase }, { on := 7, ground := Ground.phase }, { on := 8, ground := Ground.phase }, { on := 9, ground := Ground.phase }, { on := 10, ground := Ground.phase }, { on := 11, ground := Ground.phase }, { on := 12, ground := Ground.phase }], guard := none }) (v := ?vk16) rfl (by kernel_rfl) (by kernel_rfl) (by kernel_rfl) (fun _ _ _ h => h) (Or.inl ⟨by rfl, ?hk16⟩) trivial ?rk16
                  case hk16 => (intro wz hSw; (try dsimp only at hSw); go_simp; try with_reducible rfl)
                  (try simp only [Act.put]); (try simp only [List.setIfInBounds_toArray]); (try simp only [List.set_cons_succ]); (try simp only [List.set_cons_zero])
                  refine wpAnyH_take (i := 14) (oi := { dst := some 42, op := Op.fieldAddr 67 (Operand.tmp 41) 1, type := 0, pos := "span.go:101", after := #[{ on := 13, ground := Ground.data }, { on := 0, ground := Ground.phase }, { on := 1, ground := Ground.phase }, { on := 2, ground := Ground.phase }, { on := 3, ground := Ground.phase }, { on := 4, ground := Ground.phase }, { on := 5, ground := Ground.phase }, { on := 6, ground := Ground.phase }, { on := 7, ground := Ground.phase }, { on := 8, ground := Ground.phase }, { on := 9, ground := Ground.phase }, { on := 10, ground := Ground.phase }, { on := 11, ground := Ground.phase }, { on := 12, ground := Ground.phase }], guard := none }) (v := ?vk17) rfl (by kernel_rfl) (by kernel_rfl) (by kernel_rfl) (fun _ _ _ h => h) (Or.inl ⟨by rfl, ?hk17⟩) trivial ?rk17
                  case hk17 => (intro wz hSw; (try dsimp only at hSw); go_simp; try with_reducible rfl)
                  (try simp only [Act.put]); (try simp only [List.setIfInBounds_toArray]); (try simp only [List.set_cons_succ]); (try simp only [List.set_cons_zero])
                  refine wpAnyH_ready (rs := [15]) (by kernel_rfl) (by simp) ?_
                  refine AllReadyH.cons (o := { dst := none, op := Op.store 43 (Operand.tmp 42) (Operand.tmp 40), type := 0, pos := "span.go:101", after := #[{ on := 14, ground := Ground.data }, { on := 12, ground := Ground.data }, { on := 12, ground := Ground.chain }, { on := 0, ground := Ground.phase }, { on := 1, ground := Ground.phase }, { on := 2, ground := Ground.phase }, { on := 3, ground := Ground.phase }, { on := 4, ground := Ground.phase }, { on := 5, ground := Ground.phase }, { on := 6, ground := Ground.phase }, { on := 7, ground := Ground.phase }, { on := 8, ground := Ground.phase }, { on := 9, ground := Ground.phase }, { on := 10, ground := Ground.phase }, { on := 11, ground := Ground.phase }, { on := 12, ground := Ground.phase }], guard := none }) rfl (fun K hK => ?_) AllReadyH.nil
                  · skip
                    refine stepStoreF ?_ (.tmp 42) (.tmp 40) ?_ g (J * 4 + 1) (Fl.mx lv v) ?_ ?_ (HTh.out _ U14) ?_
                    · rfl
                    · rfl
                    · rfl
                    · rfl
                    refine hK.out _ _ trivial (fun _ => ?_)
                    clear hK K
                    (try simp only [Act.put]); (try simp only [List.setIfInBounds_toArray]); (try simp only [List.set_cons_succ]); (try simp only [List.set_cons_zero])
                    refine wpAnyH_done (by kernel_rfl) ?_ _
                    refine NoPanic.normal ?_
                    go_wp2
                    go_roundw
                    case rel => exact ⟨k + 1, hlt, by go_num, HFin.out _ U14, HFo.out _ U14⟩
                    case measure => simp [intOf]; omega
    · obtain rfl : k = S.length := by omega
      have h2 := ho
      rw [List.take_length] at h2
      rw [Fl.nfold_dfold S (Fl.cdl f n) HRV.out HP.out fun r => (HM.out r).symm] at h2
      obtain ⟨a', c', hv'⟩ := h2.len
      subst hv'
      have H2 := hid h2
      clear h2 ho
      go_wp2
      go_ret
      exact ⟨_, rfl, H2.out.mono HU1.out.size, HU1.out.trans HU.out⟩
end Go.Proofs.YtbkbnfgjkefcmaaGreat
