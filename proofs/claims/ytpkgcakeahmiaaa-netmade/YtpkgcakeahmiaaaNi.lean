/- The law NetMade's walk; no condition. -/
import Derived.Test.YtpkgcakeahmiaaaNh
namespace Go.Proofs.Ytpkgcakeahmiaaa
open Go.RowKit Go.Lib Go.ChangeShapes Go.WideShapes
set_option linter.unusedVariables false
set_option linter.unusedSimpArgs false
set_option maxRecDepth 20000
theorem most50 : mostN 50 = 50 := by kernel_rfl
abbrev BB (b1 b2 : Nat) (x y : Lt) : World → Prop := fun wz => (wz.cell? ⟨b1, 0, none⟩ = some (.int .i64 x.f) ∧ wz.cell? ⟨b1, 1, none⟩ = some (.int .i64 x.t) ∧ wz.cell? ⟨b1, 2, none⟩ = some (.slice x.a x.L.length x.c)) ∧ wz.cell? ⟨b2, 0, none⟩ = some (.int .i64 y.f) ∧ wz.cell? ⟨b2, 1, none⟩ = some (.int .i64 y.t) ∧ wz.cell? ⟨b2, 2, none⟩ = some (.slice y.a y.L.length y.c)
theorem BB.old {b1 b2 : Nat} {x y : Lt} {w w' : World} (o : Old w w') (h : BB b1 b2 x y w) : BB b1 b2 x y w' := ⟨⟨o.keep h.1.1, o.keep h.1.2.1, o.keep h.1.2.2⟩, o.keep h.2.1, o.keep h.2.2.1, o.keep h.2.2.2⟩
theorem B6.old {b1 b2 : Nat} {x0 x1 x2 y0 y1 y2 : Value} {w w' : World} (o : Old w w') (h : (w.cell? ⟨b1, 0, none⟩ = some x0 ∧ w.cell? ⟨b1, 1, none⟩ = some x1 ∧ w.cell? ⟨b1, 2, none⟩ = some x2) ∧ w.cell? ⟨b2, 0, none⟩ = some y0 ∧ w.cell? ⟨b2, 1, none⟩ = some y1 ∧ w.cell? ⟨b2, 2, none⟩ = some y2) : (w'.cell? ⟨b1, 0, none⟩ = some x0 ∧ w'.cell? ⟨b1, 1, none⟩ = some x1 ∧ w'.cell? ⟨b1, 2, none⟩ = some x2) ∧ w'.cell? ⟨b2, 0, none⟩ = some y0 ∧ w'.cell? ⟨b2, 1, none⟩ = some y1 ∧ w'.cell? ⟨b2, 2, none⟩ = some y2 := ⟨⟨o.keep h.1.1, o.keep h.1.2.1, o.keep h.1.2.2⟩, o.keep h.2.1, o.keep h.2.2.1, o.keep h.2.2.2⟩
/-- What is under way while the calls are played. -/
structure MadeAt (w wr : World) (nb : Nat) (a : Option Addr) (c : Nat) (X : List Lt) (P : List PL) : Prop where
  net : Net w wr nb 50 P (Value.slice a X.length c).ownBlock.toList
  row : OwnT w.heap.size wr (.slice a X.length c) X
  rw : ∀ s ∈ X, Rw w s.v s.L
  md : Made (X.map Lt.p) P
theorem MadeAt.old {w wr w' : World} {nb : Nat} {a : Option Addr} {c : Nat} {X : List Lt} {P : List PL} (h : MadeAt w wr nb a c X P) (u : Old wr w') : MadeAt w w' nb a c X P := ⟨h.net.old u, h.row.old u, h.rw, h.md⟩
set_option maxHeartbeats 8000000 in
set_option maxRecDepth 20000 in
theorem madeLaw (v0 : Value) (n : Nat) (f : Nat → Opn) (w : World) (h0 : ONRow w v0 n f) : Calls Try.prog 4 #[v0] w fun e w' => e = .returned (.bool true) ∧ Old w w' := by
  obtain ⟨hnm, pa, ca, rfl, hnc, hops⟩ := h0
  have HO := hid hops
  clear hops
  go_enter Try.func4, Try.ntmps4
  go_upto_region 4 with (first | (go_at_call 6; refine (newN w _ _ (Old.refl _)).mono ?_; rintro e w1 ⟨nb, rfl, d1, _⟩; rw [most50] at d1; have D1 := hid d1; clear d1) | (go_at_call 7; refine (alive_any _).mono ?_; rintro e w2 ⟨rfl, u2⟩; have D2 := hid (D1.out.old u2); clear u2 D1))
  go_upto_region 5 with (fail)
  have M3 := hid (show MadeAt w (w2.alloc (.cells #[] 30)) nb (some ⟨w2.heap.size, 0, none⟩) 0 [] [] from ⟨by simpa [Value.ownBlock] using D2.out.add ((Old.refl w2).alloc (.cells #[] 30)) [w2.heap.size] (by simp), (OwnT.empty w2 _ rfl).mono D2.out.base.size, (fun s hs => by cases hs), (fun x hx => by cases hx)⟩)
  generalize w2.alloc (.cells #[] 30) = w3 at *
  generalize w2.heap.size = g3 at *
  clear D2
  go_wp2
  go_loopw [4, 22] (fun us c wr => ∃ (i : Nat) (a : Option Addr) (cp : Nat) (X : List Lt) (P : List PL), i ≤ n ∧ c = .int .i64 (i : Nat) ∧ us = .slice a X.length cp ∧ X.length ≤ i ∧ MadeAt w wr nb a cp X P) (fun _ c _ => n - (intOf c).toNat)
  case atStart => exact ⟨0, _, _, [], [], Nat.zero_le _, rfl, rfl, Nat.le_refl _, M3.out⟩
  case round =>
    obtain ⟨i, a, cp, X, P, hi, rfl, rfl, hXi, hM⟩ := hrel
    have HM := hid hM
    have HXi := hid hXi
    clear hM hXi M3
    by_cases hlt : i < n
    · obtain ⟨bb, off, e, hok, hcell⟩ := HO.out i hlt
      subst e
      have HOk := hid hok
      have HCe := hid (show ∀ j, j < 6 → wr.cell? ⟨bb, off + i * 6 + j, none⟩ = (f i).cs[j]? from fun j hj => by
        have q := hcell j hj
        have hl : j < (f i).cs.length := hj
        rw [List.getElem?_eq_getElem hl] at q ⊢
        exact HM.out.net.base.keep q)
      clear hok hcell
      generalize f i = o at *
      obtain ⟨ok, oi, om, of, ot, ov, oL⟩ := o
      obtain ⟨pB, cB, eB⟩ := HOk.out.1.len
      dsimp only at eB
      subst eB
      have c0 : wr.cell? ⟨bb, off + i * 6, none⟩ = some (.int .i64 ok) := HCe.out 0 (by omega)
      have c1 : wr.cell? ⟨bb, off + i * 6 + 1, none⟩ = some (.int .i64 oi) := HCe.out 1 (by omega)
      have c2 : wr.cell? ⟨bb, off + i * 6 + 2, none⟩ = some (.int .i64 om) := HCe.out 2 (by omega)
      have c3 : wr.cell? ⟨bb, off + i * 6 + 3, none⟩ = some (.int .i64 of) := HCe.out 3 (by omega)
      have c4 : wr.cell? ⟨bb, off + i * 6 + 4, none⟩ = some (.int .i64 ot) := HCe.out 4 (by omega)
      have c5 : wr.cell? ⟨bb, off + i * 6 + 5, none⟩ = some (.slice pB oL.length cB) := HCe.out 5 (by omega)
      have l2 : (0 : Int) ≤ (i : Int) := by omega
      have l3 : (i : Int) < (n : Int) := by omega
      have l4 : (n : Int) ≤ 2199023255552 := by omega
      clear HCe
      go_upto_region 8 with (fail)
      have HU1 := hid (show Old wr (wr.alloc (.cells #[.int .i64 ok, .int .i64 oi, .int .i64 om, .int .i64 of, .int .i64 ot, .slice pB oL.length cB] 40)) from (Old.refl wr).alloc _)
      have HBo := hid (alloc_at wr (.cells #[.int .i64 ok, .int .i64 oi, .int .i64 om, .int .i64 of, .int .i64 ot, .slice pB oL.length cB] 40))
      have HM1 := hid (HM.out.old HU1.out)
      clear c0 c1 c2 c3 c4 c5 HU1
      generalize wr.alloc (.cells #[.int .i64 ok, .int .i64 oi, .int .i64 om, .int .i64 of, .int .i64 ot, .slice pB oL.length cB] 40) = w4 at *
      generalize wr.heap.size = bo at *
      obtain ⟨z0, z1, z2, z3, z4, z5⟩ := box6 HBo.out
      by_cases k1 : 1 ≤ ok
      · by_cases k6 : ok ≤ 6
        · have HDo := hid (does_any w w4 nb 50 P _ ⟨ok, oi, om, of, ot, .slice pB oL.length cB, oL⟩ HM1.out.net HOk.out)
          have HMd := hid (HM1.out.md.does (most := 50) ⟨ok, oi, om, of, ot, .slice pB oL.length cB, oL⟩)
          dsimp only at HDo HMd
          by_cases ck : ok = 1
          · subst ck
            rw [if_pos rfl] at HMd
            generalize doB 50 P ⟨1, oi, om, of, ot, .slice pB oL.length cB, oL⟩ = b5 at *
            generalize doX P ⟨1, oi, om, of, ot, .slice pB oL.length cB, oL⟩ = x5 at *
            generalize doP 50 P ⟨1, oi, om, of, ot, .slice pB oL.length cB, oL⟩ = P5 at *
            go_upto_region 10 with (go_at_call 13; refine HDo.out.mono ?_; rintro e w5 ⟨a5, c5, rfl, -, n5, kt5⟩; have N5 := hid n5; have K5 := hid kt5; clear n5 kt5)
            have HBo5 := hid (K5.out.ty _ _ _ _ HBo.out (by decide) (by decide))
            have R5 := hid (HM1.out.row.kt K5.out (fun g e => Option.mem_toList.2 e))
            clear z0 z1 z2 z3 z4 z5
            obtain ⟨z0, z1, z2, z3, z4, z5⟩ := box6 HBo5.out
            go_wp2_with (at_builtin; refine wp_appT rfl (.tmp 40) (.tmp 43) rfl w.heap.size _ X _ ⟨of, ot, pB, cB, oL⟩ rfl rfl (R5.out.old ((Old.refl w5).alloc _)) (alloc_at w5 _) (by have := HXi.out; omega) (by have := N5.out.base.size; simp; omega) ?_; intro v6 w6 o6 ch6 at6; have O6 := hid o6; have C6 := hid ch6; have A6 := hid at6; clear o6 ch6 at6)
            obtain ⟨X6, hX6⟩ : ∃ X6, X ++ [(⟨of, ot, pB, cB, oL⟩ : Lt)] = X6 := ⟨_, rfl⟩
            have HX6 := hid hX6
            rw [hX6] at O6
            clear hX6
            obtain ⟨a6, c6, e6⟩ := O6.out.len
            subst e6
            go_roundw
            case rel =>
              have nu := N5.out.old ((Old.refl w5).alloc (.cells #[.int .i64 of, .int .i64 ot, .slice pB oL.length cB] 30))
              have n6 : Net w w6 nb 50 P5 (Value.slice a6 X6.length c6).ownBlock.toList := nu.grow (R5.out.old ((Old.refl w5).alloc _)) C6.out A6.out (fun g e => (O6.out.lt g e).2)
              refine ⟨i + 1, a6, c6, X6, P5, hlt, by go_num, rfl, by rw [← HX6.out, List.length_append]; have := HXi.out; simp; omega, n6, O6.out, fun s hs => ?_, ?_⟩
              · rw [← HX6.out] at hs
                rcases List.mem_append.1 hs with q | q
                · exact HM1.out.rw s q
                · rw [List.mem_singleton.1 q]; exact HOk.out.1
              · rw [← HX6.out, List.map_append]; exact HMd.out
            case measure => simp [intOf]; omega
          · have ck2 : (ok == 1) = false := by rw [beq_eq_false_iff_ne]; exact ck
            rw [if_neg ck, List.append_nil] at HMd
            generalize doB 50 P ⟨ok, oi, om, of, ot, .slice pB oL.length cB, oL⟩ = b5 at *
            generalize doX P ⟨ok, oi, om, of, ot, .slice pB oL.length cB, oL⟩ = x5 at *
            generalize doP 50 P ⟨ok, oi, om, of, ot, .slice pB oL.length cB, oL⟩ = P5 at *
            go_upto_region 10 with (go_at_call 13; refine HDo.out.mono ?_; rintro e w5 ⟨a5, c5, rfl, -, n5, kt5⟩; have N5 := hid n5; have K5 := hid kt5; clear n5 kt5)
            have HBo5 := hid (K5.out.ty _ _ _ _ HBo.out (by decide) (by decide))
            have R5 := hid (HM1.out.row.kt K5.out (fun g e => Option.mem_toList.2 e))
            clear z0 z1 z2 z3 z4 z5
            obtain ⟨z0, -, -, -, -, -⟩ := box6 HBo5.out
            go_wp2
            go_roundw
            case rel => exact ⟨i + 1, a, cp, X, P5, hlt, by go_num, rfl, by have := HXi.out; omega, N5.out, R5.out, HM1.out.rw, HMd.out⟩
            case measure => simp [intOf]; omega
        · go_wp2
          go_roundw
          case rel => exact ⟨i + 1, a, cp, X, P, hlt, by go_num, rfl, by have := HXi.out; omega, HM1.out⟩
          case measure => simp [intOf]; omega
      · go_wp2
        go_roundw
        case rel => exact ⟨i + 1, a, cp, X, P, hlt, by go_num, rfl, by have := HXi.out; omega, HM1.out⟩
        case measure => simp [intOf]; omega
    · have l3 : ¬ ((i : Int) < (n : Int)) := by omega
      obtain rfl : i = n := by omega
      clear hlt HO
      have HXl := hid (show X.length ≤ 2199023255552 from by have := HXi.out; omega)
      clear HXi hi hnm hnc
      go_upto_region 14 with (go_at_call 14; refine (allN w _ nb _ _ _ HM.out.net).mono ?_; rintro e w5 ⟨go, Z, rfl, a5, u5⟩; have A5 := hid a5; have M5 := hid (HM.out.old u5); clear a5 u5)
      obtain ⟨m, hm⟩ : ∃ m, m = P.length := ⟨_, rfl⟩
      have HZl := hid (show Z.length = m from by have := congrArg List.length A5.out.p; rw [List.length_map] at this; omega)
      have HMm := hid (show m ≤ 1000 from by have := HM.out.net.le; omega)
      rw [← hm] at A5 ⊢
      clear hm HM
      generalize wr = wy at *
      go_loopw [49] (fun c wr => ∃ (j : Nat), j ≤ m ∧ c = .int .i64 (j : Nat) ∧ Old w5 wr) (fun c _ => m - (intOf c).toNat)
      case atStart => exact ⟨0, Nat.zero_le _, rfl, Old.refl _⟩
      case round =>
        obtain ⟨j, hj, rfl, hU⟩ := hrel
        have HU := hid hU
        clear hU
        by_cases hlt : j < m
        · have hjz : j < Z.length := by rw [HZl.out]; exact hlt
          obtain ⟨g1, cz, qz, -, -, ⟨y0, y1, y2⟩, -⟩ := A5.out.row.at j hjz
          cases (Value.slice.inj qz).1
          have hzm := List.getElem_mem hjz
          have HOz := hid ((A5.out.own _ hzm).1)
          have HFn := hid (show fndB (X.map Lt.p) (Z[j]).p X.length = true from by
            have := fnd_made M5.out.md (x := (Z[j]).p) (by rw [← A5.out.p]; exact List.mem_map_of_mem hzm)
            rw [List.length_map] at this
            exact this)
          have k0 := HU.out.keep y0
          have k1 := HU.out.keep y1
          have k2 := HU.out.keep y2
          unfold Lt.v at k2 HOz
          have l2 : (0 : Int) ≤ (j : Int) := by omega
          have l3 : (j : Int) < (m : Int) := by omega
          have l4 : (m : Int) ≤ 1000 := by have := HMm.out; omega
          clear y0 y1 y2 qz hzm
          generalize Z[j] = x at *
          clear hjz
          go_upto_region 16 with (fail)
          have HU1 := hid (show Old w5 (wr.alloc (.cells #[.int .i64 x.f, .int .i64 x.t, .slice x.a x.L.length x.c] 30)) from HU.out.alloc _)
          obtain ⟨b0, b1, b2, -, -, -⟩ := box3 (alloc_at wr (.cells #[.int .i64 x.f, .int .i64 x.t, .slice x.a x.L.length x.c] 30))
          have HBx := hid (And.intro b0 (And.intro b1 b2))
          clear k0 k1 k2 b0 b1 b2 HU
          generalize wr.alloc (.cells #[.int .i64 x.f, .int .i64 x.t, .slice x.a x.L.length x.c] 30) = w6 at *
          obtain ⟨xp, hxp⟩ : ∃ xp, xp = x.p := ⟨_, rfl⟩
          rw [← hxp] at HFn
          have HXP := hid hxp
          clear hxp
          obtain ⟨xf, xt, xa, xc, xL⟩ := x
          dsimp only at HOz HBx ⊢
          obtain ⟨xl, hxl⟩ : ∃ xl, xl = xL.length := ⟨_, rfl⟩
          rw [← hxl] at HOz HBx ⊢
          have HXL := hid hxl
          clear hxl
          generalize wr.heap.size = bl at *
          have HJ := hid hlt
          clear hlt
          generalize wr = wq at *
          go_wp2
          go_loopw [9, 55] (fun fs c wr => ∃ (t : Nat), t ≤ X.length ∧ c = .int .i64 (t : Nat) ∧ fs = .bool (fndB (X.map Lt.p) xp t) ∧ Old w6 wr) (fun _ c _ => X.length - (intOf c).toNat)
          case atStart => exact ⟨0, Nat.zero_le _, rfl, rfl, Old.refl _⟩
          case round =>
            obtain ⟨t, ht, rfl, rfl, hU2⟩ := hrel
            have HU2 := hid hU2
            clear hU2
            by_cases hlt : t < X.length
            · have htx : t < X.length := hlt
              obtain ⟨g2, cx, qx, -, -, ⟨y0, y1, y2⟩, -⟩ := M5.out.row.at t htx
              have HV := hid qx
              obtain ⟨ea, -, -⟩ := Value.slice.inj qx
              subst ea
              have HRs := hid (M5.out.rw _ (List.getElem_mem htx))
              have HSu := hid (fnd_succ (X.map Lt.p) xp t (by rw [List.length_map]; exact htx))
              rw [List.getElem_map] at HSu
              have k0 := (HU1.out.trans HU2.out).keep y0
              have k1 := (HU1.out.trans HU2.out).keep y1
              have k2 := (HU1.out.trans HU2.out).keep y2
              unfold Lt.v at k2 HRs
              have l5 : (0 : Int) ≤ (t : Int) := by omega
              have l6 : (t : Int) < (X.length : Int) := by omega
              have l7 : (X.length : Int) ≤ 2199023255552 := by have := HXl.out; omega
              clear y0 y1 y2 qx HV
              generalize X[t] = s at *
              clear htx
              go_upto_region 20 with (fail)
              have HW8 := hid (show Old wr (wr.alloc (.cells #[.int .i64 s.f, .int .i64 s.t, .slice s.a s.L.length s.c] 30)) from (Old.refl wr).alloc _)
              obtain ⟨b0, b1, b2, -, -, -⟩ := box3 (alloc_at wr (.cells #[.int .i64 s.f, .int .i64 s.t, .slice s.a s.L.length s.c] 30))
              have HBB := hid (show (((wr.alloc (.cells #[.int .i64 s.f, .int .i64 s.t, .slice s.a s.L.length s.c] 30)).cell? ⟨bl, 0, none⟩ = some (.int .i64 xf) ∧ (wr.alloc (.cells #[.int .i64 s.f, .int .i64 s.t, .slice s.a s.L.length s.c] 30)).cell? ⟨bl, 1, none⟩ = some (.int .i64 xt) ∧ (wr.alloc (.cells #[.int .i64 s.f, .int .i64 s.t, .slice s.a s.L.length s.c] 30)).cell? ⟨bl, 2, none⟩ = some (.slice xa xl xc)) ∧ (wr.alloc (.cells #[.int .i64 s.f, .int .i64 s.t, .slice s.a s.L.length s.c] 30)).cell? ⟨wr.heap.size, 0, none⟩ = some (.int .i64 s.f) ∧ (wr.alloc (.cells #[.int .i64 s.f, .int .i64 s.t, .slice s.a s.L.length s.c] 30)).cell? ⟨wr.heap.size, 1, none⟩ = some (.int .i64 s.t) ∧ (wr.alloc (.cells #[.int .i64 s.f, .int .i64 s.t, .slice s.a s.L.length s.c] 30)).cell? ⟨wr.heap.size, 2, none⟩ = some (.slice s.a s.L.length s.c)) from ⟨⟨(HU2.out.trans HW8.out).keep HBx.out.1, (HU2.out.trans HW8.out).keep HBx.out.2.1, (HU2.out.trans HW8.out).keep HBx.out.2.2⟩, b0, b1, b2⟩)
              have HU3 := hid (HU2.out.trans HW8.out)
              clear k0 k1 k2 b0 b1 b2 HU2 HW8
              generalize wr.alloc (.cells #[.int .i64 s.f, .int .i64 s.t, .slice s.a s.L.length s.c] 30) = w8 at *
              generalize wr.heap.size = bs at *
              have HSB := hid (show ∀ W, Old w8 W → xl ≤ s.L.length → Calls Try.prog 10 #[.slice xa xl xc, .slice s.a xl s.c] W fun o w' => o = .returned (.bool (decide (xL = s.L.take xl))) ∧ Old W w' from fun W u hle => sameG _ _ _ _ W ((HOz.out.old (HU1.out.trans (HU3.out.trans u))).row) ((HRs.out.old (M5.out.net.base.trans (HU1.out.trans (HU3.out.trans u)))).take xl hle))
              have HCap := hid (show s.L.length ≤ s.c ∧ (s.L.length = 0 → s.a = none → s.c = 0) from by
                rcases HRs.out with ⟨h0, a, c, e, hz⟩ | ⟨_, _, b, off, cap, e, _, hcp⟩
                · obtain ⟨e1, _, e3⟩ := Value.slice.inj e
                  exact ⟨by omega, fun _ hn => by rw [e3]; exact hz (by rw [← e1]; exact hn)⟩
                · obtain ⟨_, _, e3⟩ := Value.slice.inj e
                  exact ⟨by omega, fun h0 _ => by omega⟩)
              have HMt := hid (show matB s.p xp = (decide (s.f = xf) && decide (s.t = xt) && decide (xl ≤ s.L.length) && decide (xL = s.L.take xl)) from by rw [HXP.out, HXL.out]; rfl)
              rw [HMt.out] at HSu
              clear HMt HRs HOz HBx
              obtain ⟨sf, st, sa, sc, sL⟩ := s
              dsimp only at HSu HSB HCap HBB ⊢
              cases hf0 : fndB (X.map Lt.p) xp t
              case true =>
                have HE := hid (show fndB (X.map Lt.p) xp (t + 1) = true from by rw [HSu.out, hf0]; rfl)
                clear HSu HSB HCap hf0
                refine wp_region_noPanic ?_
                refine wp_region_held_drew (S := fun wz => (wz.cell? ⟨bl, 0, none⟩ = some (.int .i64 xf) ∧ wz.cell? ⟨bl, 1, none⟩ = some (.int .i64 xt) ∧ wz.cell? ⟨bl, 2, none⟩ = some (.slice xa xl xc)) ∧ wz.cell? ⟨bs, 0, none⟩ = some (.int .i64 sf) ∧ wz.cell? ⟨bs, 1, none⟩ = some (.int .i64 st) ∧ wz.cell? ⟨bs, 2, none⟩ = some (.slice sa sL.length sc)) (by kernel_rfl) ?_ (fun hHeld => ?_)
                · exact B6.old ((Old.refl _).drew) HBB.out
                (try simp only [Act.put]); (try simp only [List.setIfInBounds_toArray]); (try simp only [List.set_cons_succ]); (try simp only [List.set_cons_zero])
                clear hHeld
                refine wpAnyH_take (i := 0) (oi := { dst := some 59, op := Op.move (Operand.tmp 9), type := 4, pos := "law.go:104", after := #[], guard := none }) (v := ?vk1) rfl (by kernel_rfl) (by kernel_rfl) (by kernel_rfl) (fun _ _ _ h => h) (Or.inl ⟨by rfl, ?hk1⟩) (B6.old ((Old.refl w8).drew) HBB.out) ?rk1
                case hk1 => (intro wz hSw; (try dsimp only at hSw); go_simp; try with_reducible rfl)
                (try simp only [Act.put]); (try simp only [List.setIfInBounds_toArray]); (try simp only [List.set_cons_succ]); (try simp only [List.set_cons_zero])
                refine wpAnyH_take (i := 1) (oi := { dst := some 60, op := Op.move (Operand.tmp 59), type := 4, pos := "law.go:104", after := #[{ on := 0, ground := Ground.data }], guard := none }) (v := ?vk2) rfl (by kernel_rfl) (by kernel_rfl) (by kernel_rfl) (fun _ _ _ h => h) (Or.inl ⟨by rfl, ?hk2⟩) (B6.old ((Old.refl w8).drew) HBB.out) ?rk2
                case hk2 => (intro wz hSw; (try dsimp only at hSw); go_simp; try with_reducible rfl)
                (try simp only [Act.put]); (try simp only [List.setIfInBounds_toArray]); (try simp only [List.set_cons_succ]); (try simp only [List.set_cons_zero])
                refine wpAnyH_take (i := 2) (oi := { dst := some 61, op := Op.fieldAddr 30 (Operand.tmp 11) 0, type := 0, pos := "law.go:104", after := #[{ on := 1, ground := Ground.guard }], guard := some (1, false) }) (v := undef) rfl (by kernel_rfl) (by kernel_rfl) (by kernel_rfl) (fun _ _ _ h => h) (Or.inr ⟨by rfl, rfl⟩) (B6.old ((Old.refl w8).drew) HBB.out) ?_
                (try simp only [Act.put]); (try simp only [List.setIfInBounds_toArray]); (try simp only [List.set_cons_succ]); (try simp only [List.set_cons_zero])
                refine wpAnyH_take (i := 3) (oi := { dst := some 62, op := Op.load 3 (Operand.tmp 61), type := 3, pos := "law.go:104", after := #[{ on := 2, ground := Ground.data }, { on := 1, ground := Ground.guard }], guard := some (1, false) }) (v := undef) rfl (by kernel_rfl) (by kernel_rfl) (by kernel_rfl) (fun _ _ _ h => h) (Or.inr ⟨by rfl, rfl⟩) (B6.old ((Old.refl w8).drew) HBB.out) ?_
                (try simp only [Act.put]); (try simp only [List.setIfInBounds_toArray]); (try simp only [List.set_cons_succ]); (try simp only [List.set_cons_zero])
                refine wpAnyH_take (i := 4) (oi := { dst := some 63, op := Op.fieldAddr 30 (Operand.tmp 8) 0, type := 0, pos := "law.go:104", after := #[{ on := 1, ground := Ground.guard }], guard := some (1, false) }) (v := undef) rfl (by kernel_rfl) (by kernel_rfl) (by kernel_rfl) (fun _ _ _ h => h) (Or.inr ⟨by rfl, rfl⟩) (B6.old ((Old.refl w8).drew) HBB.out) ?_
                (try simp only [Act.put]); (try simp only [List.setIfInBounds_toArray]); (try simp only [List.set_cons_succ]); (try simp only [List.set_cons_zero])
                refine wpAnyH_take (i := 5) (oi := { dst := some 64, op := Op.load 3 (Operand.tmp 63), type := 3, pos := "law.go:104", after := #[{ on := 4, ground := Ground.data }, { on := 1, ground := Ground.guard }], guard := some (1, false) }) (v := undef) rfl (by kernel_rfl) (by kernel_rfl) (by kernel_rfl) (fun _ _ _ h => h) (Or.inr ⟨by rfl, rfl⟩) (B6.old ((Old.refl w8).drew) HBB.out) ?_
                (try simp only [Act.put]); (try simp only [List.setIfInBounds_toArray]); (try simp only [List.set_cons_succ]); (try simp only [List.set_cons_zero])
                refine wpAnyH_take (i := 6) (oi := { dst := some 65, op := Op.binOp BinOp.eql 3 (Operand.tmp 62) (Operand.tmp 64) 3, type := 4, pos := "law.go:104", after := #[{ on := 3, ground := Ground.data }, { on := 5, ground := Ground.data }, { on := 1, ground := Ground.guard }], guard := some (1, false) }) (v := undef) rfl (by kernel_rfl) (by kernel_rfl) (by kernel_rfl) (fun _ _ _ h => h) (Or.inr ⟨by rfl, rfl⟩) (B6.old ((Old.refl w8).drew) HBB.out) ?_
                (try simp only [Act.put]); (try simp only [List.setIfInBounds_toArray]); (try simp only [List.set_cons_succ]); (try simp only [List.set_cons_zero])
                refine wpAnyH_take (i := 7) (oi := { dst := some 66, op := Op.move (Operand.tmp 65), type := 4, pos := "law.go:104", after := #[{ on := 6, ground := Ground.data }, { on := 1, ground := Ground.chain }, { on := 1, ground := Ground.guard }], guard := some (1, false) }) (v := undef) rfl (by kernel_rfl) (by kernel_rfl) (by kernel_rfl) (fun _ _ _ h => h) (Or.inr ⟨by rfl, rfl⟩) (B6.old ((Old.refl w8).drew) HBB.out) ?_
                (try simp only [Act.put]); (try simp only [List.setIfInBounds_toArray]); (try simp only [List.set_cons_succ]); (try simp only [List.set_cons_zero])
                refine wpAnyH_take (i := 8) (oi := { dst := some 67, op := Op.fieldAddr 30 (Operand.tmp 11) 1, type := 0, pos := "law.go:104", after := #[{ on := 7, ground := Ground.guard }], guard := some (7, true) }) (v := undef) rfl (by kernel_rfl) (by kernel_rfl) (by kernel_rfl) (fun _ _ _ h => h) (Or.inr ⟨by rfl, rfl⟩) (B6.old ((Old.refl w8).drew) HBB.out) ?_
                (try simp only [Act.put]); (try simp only [List.setIfInBounds_toArray]); (try simp only [List.set_cons_succ]); (try simp only [List.set_cons_zero])
                refine wpAnyH_take (i := 9) (oi := { dst := some 68, op := Op.load 3 (Operand.tmp 67), type := 3, pos := "law.go:104", after := #[{ on := 8, ground := Ground.data }, { on := 7, ground := Ground.guard }], guard := some (7, true) }) (v := undef) rfl (by kernel_rfl) (by kernel_rfl) (by kernel_rfl) (fun _ _ _ h => h) (Or.inr ⟨by rfl, rfl⟩) (B6.old ((Old.refl w8).drew) HBB.out) ?_
                (try simp only [Act.put]); (try simp only [List.setIfInBounds_toArray]); (try simp only [List.set_cons_succ]); (try simp only [List.set_cons_zero])
                refine wpAnyH_take (i := 10) (oi := { dst := some 69, op := Op.fieldAddr 30 (Operand.tmp 8) 1, type := 0, pos := "law.go:104", after := #[{ on := 7, ground := Ground.guard }], guard := some (7, true) }) (v := undef) rfl (by kernel_rfl) (by kernel_rfl) (by kernel_rfl) (fun _ _ _ h => h) (Or.inr ⟨by rfl, rfl⟩) (B6.old ((Old.refl w8).drew) HBB.out) ?_
                (try simp only [Act.put]); (try simp only [List.setIfInBounds_toArray]); (try simp only [List.set_cons_succ]); (try simp only [List.set_cons_zero])
                refine wpAnyH_take (i := 11) (oi := { dst := some 70, op := Op.load 3 (Operand.tmp 69), type := 3, pos := "law.go:104", after := #[{ on := 10, ground := Ground.data }, { on := 7, ground := Ground.guard }], guard := some (7, true) }) (v := undef) rfl (by kernel_rfl) (by kernel_rfl) (by kernel_rfl) (fun _ _ _ h => h) (Or.inr ⟨by rfl, rfl⟩) (B6.old ((Old.refl w8).drew) HBB.out) ?_
                (try simp only [Act.put]); (try simp only [List.setIfInBounds_toArray]); (try simp only [List.set_cons_succ]); (try simp only [List.set_cons_zero])
                refine wpAnyH_take (i := 12) (oi := { dst := some 71, op := Op.binOp BinOp.eql 3 (Operand.tmp 68) (Operand.tmp 70) 3, type := 4, pos := "law.go:104", after := #[{ on := 9, ground := Ground.data }, { on := 11, ground := Ground.data }, { on := 7, ground := Ground.guard }], guard := some (7, true) }) (v := undef) rfl (by kernel_rfl) (by kernel_rfl) (by kernel_rfl) (fun _ _ _ h => h) (Or.inr ⟨by rfl, rfl⟩) (B6.old ((Old.refl w8).drew) HBB.out) ?_
                (try simp only [Act.put]); (try simp only [List.setIfInBounds_toArray]); (try simp only [List.set_cons_succ]); (try simp only [List.set_cons_zero])
                refine wpAnyH_take (i := 13) (oi := { dst := some 72, op := Op.pick (Operand.tmp 66) (Operand.tmp 71) (Operand.const (Value.bool false)), type := 4, pos := "law.go:104", after := #[{ on := 7, ground := Ground.data }, { on := 12, ground := Ground.data }, { on := 1, ground := Ground.guard }], guard := some (1, false) }) (v := undef) rfl (by kernel_rfl) (by kernel_rfl) (by kernel_rfl) (fun _ _ _ h => h) (Or.inr ⟨by rfl, rfl⟩) (B6.old ((Old.refl w8).drew) HBB.out) ?_
                (try simp only [Act.put]); (try simp only [List.setIfInBounds_toArray]); (try simp only [List.set_cons_succ]); (try simp only [List.set_cons_zero])
                refine wpAnyH_take (i := 14) (oi := { dst := some 73, op := Op.move (Operand.tmp 72), type := 4, pos := "law.go:104", after := #[{ on := 13, ground := Ground.data }, { on := 7, ground := Ground.chain }, { on := 1, ground := Ground.guard }], guard := some (1, false) }) (v := undef) rfl (by kernel_rfl) (by kernel_rfl) (by kernel_rfl) (fun _ _ _ h => h) (Or.inr ⟨by rfl, rfl⟩) (B6.old ((Old.refl w8).drew) HBB.out) ?_
                (try simp only [Act.put]); (try simp only [List.setIfInBounds_toArray]); (try simp only [List.set_cons_succ]); (try simp only [List.set_cons_zero])
                refine wpAnyH_take (i := 15) (oi := { dst := some 74, op := Op.fieldAddr 30 (Operand.tmp 8) 2, type := 0, pos := "law.go:104", after := #[{ on := 14, ground := Ground.guard }], guard := some (14, true) }) (v := undef) rfl (by kernel_rfl) (by kernel_rfl) (by kernel_rfl) (fun _ _ _ h => h) (Or.inr ⟨by rfl, rfl⟩) (B6.old ((Old.refl w8).drew) HBB.out) ?_
                (try simp only [Act.put]); (try simp only [List.setIfInBounds_toArray]); (try simp only [List.set_cons_succ]); (try simp only [List.set_cons_zero])
                refine wpAnyH_take (i := 16) (oi := { dst := some 75, op := Op.load 26 (Operand.tmp 74), type := 26, pos := "law.go:104", after := #[{ on := 15, ground := Ground.data }, { on := 14, ground := Ground.guard }], guard := some (14, true) }) (v := undef) rfl (by kernel_rfl) (by kernel_rfl) (by kernel_rfl) (fun _ _ _ h => h) (Or.inr ⟨by rfl, rfl⟩) (B6.old ((Old.refl w8).drew) HBB.out) ?_
                (try simp only [Act.put]); (try simp only [List.setIfInBounds_toArray]); (try simp only [List.set_cons_succ]); (try simp only [List.set_cons_zero])
                refine wpAnyH_take (i := 17) (oi := { dst := some 76, op := Op.call { callee := Callee.builtin Builtin.len, args := #[Operand.tmp 75], argTypes := #[26] }, type := 3, pos := "law.go:104", after := #[{ on := 16, ground := Ground.data }, { on := 14, ground := Ground.guard }], guard := some (14, true) }) (v := undef) rfl (by kernel_rfl) (by kernel_rfl) (by kernel_rfl) (fun _ _ _ h => h) (Or.inr ⟨by rfl, rfl⟩) (B6.old ((Old.refl w8).drew) HBB.out) ?_
                (try simp only [Act.put]); (try simp only [List.setIfInBounds_toArray]); (try simp only [List.set_cons_succ]); (try simp only [List.set_cons_zero])
                refine wpAnyH_take (i := 18) (oi := { dst := some 77, op := Op.fieldAddr 30 (Operand.tmp 11) 2, type := 0, pos := "law.go:104", after := #[{ on := 14, ground := Ground.guard }], guard := some (14, true) }) (v := undef) rfl (by kernel_rfl) (by kernel_rfl) (by kernel_rfl) (fun _ _ _ h => h) (Or.inr ⟨by rfl, rfl⟩) (B6.old ((Old.refl w8).drew) HBB.out) ?_
                (try simp only [Act.put]); (try simp only [List.setIfInBounds_toArray]); (try simp only [List.set_cons_succ]); (try simp only [List.set_cons_zero])
                refine wpAnyH_take (i := 19) (oi := { dst := some 78, op := Op.load 26 (Operand.tmp 77), type := 26, pos := "law.go:104", after := #[{ on := 18, ground := Ground.data }, { on := 14, ground := Ground.guard }], guard := some (14, true) }) (v := undef) rfl (by kernel_rfl) (by kernel_rfl) (by kernel_rfl) (fun _ _ _ h => h) (Or.inr ⟨by rfl, rfl⟩) (B6.old ((Old.refl w8).drew) HBB.out) ?_
                (try simp only [Act.put]); (try simp only [List.setIfInBounds_toArray]); (try simp only [List.set_cons_succ]); (try simp only [List.set_cons_zero])
                refine wpAnyH_take (i := 20) (oi := { dst := some 79, op := Op.call { callee := Callee.builtin Builtin.len, args := #[Operand.tmp 78], argTypes := #[26] }, type := 3, pos := "law.go:104", after := #[{ on := 19, ground := Ground.data }, { on := 14, ground := Ground.guard }], guard := some (14, true) }) (v := undef) rfl (by kernel_rfl) (by kernel_rfl) (by kernel_rfl) (fun _ _ _ h => h) (Or.inr ⟨by rfl, rfl⟩) (B6.old ((Old.refl w8).drew) HBB.out) ?_
                (try simp only [Act.put]); (try simp only [List.setIfInBounds_toArray]); (try simp only [List.set_cons_succ]); (try simp only [List.set_cons_zero])
                refine wpAnyH_take (i := 21) (oi := { dst := some 80, op := Op.binOp BinOp.leq 3 (Operand.tmp 76) (Operand.tmp 79) 3, type := 4, pos := "law.go:104", after := #[{ on := 17, ground := Ground.data }, { on := 20, ground := Ground.data }, { on := 14, ground := Ground.guard }], guard := some (14, true) }) (v := undef) rfl (by kernel_rfl) (by kernel_rfl) (by kernel_rfl) (fun _ _ _ h => h) (Or.inr ⟨by rfl, rfl⟩) (B6.old ((Old.refl w8).drew) HBB.out) ?_
                (try simp only [Act.put]); (try simp only [List.setIfInBounds_toArray]); (try simp only [List.set_cons_succ]); (try simp only [List.set_cons_zero])
                refine wpAnyH_take (i := 22) (oi := { dst := some 81, op := Op.pick (Operand.tmp 73) (Operand.tmp 80) (Operand.const (Value.bool false)), type := 4, pos := "law.go:104", after := #[{ on := 14, ground := Ground.data }, { on := 21, ground := Ground.data }, { on := 1, ground := Ground.guard }], guard := some (1, false) }) (v := undef) rfl (by kernel_rfl) (by kernel_rfl) (by kernel_rfl) (fun _ _ _ h => h) (Or.inr ⟨by rfl, rfl⟩) (B6.old ((Old.refl w8).drew) HBB.out) ?_
                (try simp only [Act.put]); (try simp only [List.setIfInBounds_toArray]); (try simp only [List.set_cons_succ]); (try simp only [List.set_cons_zero])
                refine wpAnyH_take (i := 23) (oi := { dst := some 82, op := Op.move (Operand.tmp 81), type := 4, pos := "law.go:104", after := #[{ on := 22, ground := Ground.data }, { on := 14, ground := Ground.chain }, { on := 1, ground := Ground.guard }], guard := some (1, false) }) (v := undef) rfl (by kernel_rfl) (by kernel_rfl) (by kernel_rfl) (fun _ _ _ h => h) (Or.inr ⟨by rfl, rfl⟩) (B6.old ((Old.refl w8).drew) HBB.out) ?_
                (try simp only [Act.put]); (try simp only [List.setIfInBounds_toArray]); (try simp only [List.set_cons_succ]); (try simp only [List.set_cons_zero])
                refine wpAnyH_take (i := 24) (oi := { dst := some 83, op := Op.fieldAddr 30 (Operand.tmp 8) 2, type := 0, pos := "law.go:104", after := #[{ on := 23, ground := Ground.guard }], guard := some (23, true) }) (v := undef) rfl (by kernel_rfl) (by kernel_rfl) (by kernel_rfl) (fun _ _ _ h => h) (Or.inr ⟨by rfl, rfl⟩) (B6.old ((Old.refl w8).drew) HBB.out) ?_
                (try simp only [Act.put]); (try simp only [List.setIfInBounds_toArray]); (try simp only [List.set_cons_succ]); (try simp only [List.set_cons_zero])
                refine wpAnyH_take (i := 25) (oi := { dst := some 84, op := Op.load 26 (Operand.tmp 83), type := 26, pos := "law.go:104", after := #[{ on := 24, ground := Ground.data }, { on := 23, ground := Ground.guard }], guard := some (23, true) }) (v := undef) rfl (by kernel_rfl) (by kernel_rfl) (by kernel_rfl) (fun _ _ _ h => h) (Or.inr ⟨by rfl, rfl⟩) (B6.old ((Old.refl w8).drew) HBB.out) ?_
                (try simp only [Act.put]); (try simp only [List.setIfInBounds_toArray]); (try simp only [List.set_cons_succ]); (try simp only [List.set_cons_zero])
                refine wpAnyH_take (i := 26) (oi := { dst := some 85, op := Op.fieldAddr 30 (Operand.tmp 11) 2, type := 0, pos := "law.go:104", after := #[{ on := 23, ground := Ground.guard }], guard := some (23, true) }) (v := undef) rfl (by kernel_rfl) (by kernel_rfl) (by kernel_rfl) (fun _ _ _ h => h) (Or.inr ⟨by rfl, rfl⟩) (B6.old ((Old.refl w8).drew) HBB.out) ?_
                (try simp only [Act.put]); (try simp only [List.setIfInBounds_toArray]); (try simp only [List.set_cons_succ]); (try simp only [List.set_cons_zero])
                refine wpAnyH_take (i := 27) (oi := { dst := some 86, op := Op.load 26 (Operand.tmp 85), type := 26, pos := "law.go:104", after := #[{ on := 26, ground := Ground.data }, { on := 23, ground := Ground.guard }], guard := some (23, true) }) (v := undef) rfl (by kernel_rfl) (by kernel_rfl) (by kernel_rfl) (fun _ _ _ h => h) (Or.inr ⟨by rfl, rfl⟩) (B6.old ((Old.refl w8).drew) HBB.out) ?_
                (try simp only [Act.put]); (try simp only [List.setIfInBounds_toArray]); (try simp only [List.set_cons_succ]); (try simp only [List.set_cons_zero])
                refine wpAnyH_take (i := 28) (oi := { dst := some 87, op := Op.fieldAddr 30 (Operand.tmp 8) 2, type := 0, pos := "law.go:104", after := #[{ on := 23, ground := Ground.guard }], guard := some (23, true) }) (v := undef) rfl (by kernel_rfl) (by kernel_rfl) (by kernel_rfl) (fun _ _ _ h => h) (Or.inr ⟨by rfl, rfl⟩) (B6.old ((Old.refl w8).drew) HBB.out) ?_
                (try simp only [Act.put]); (try simp only [List.setIfInBounds_toArray]); (try simp only [List.set_cons_succ]); (try simp only [List.set_cons_zero])
                refine wpAnyH_take (i := 29) (oi := { dst := some 88, op := Op.load 26 (Operand.tmp 87), type := 26, pos := "law.go:104", after := #[{ on := 28, ground := Ground.data }, { on := 23, ground := Ground.guard }], guard := some (23, true) }) (v := undef) rfl (by kernel_rfl) (by kernel_rfl) (by kernel_rfl) (fun _ _ _ h => h) (Or.inr ⟨by rfl, rfl⟩) (B6.old ((Old.refl w8).drew) HBB.out) ?_
                (try simp only [Act.put]); (try simp only [List.setIfInBounds_toArray]); (try simp only [List.set_cons_succ]); (try simp only [List.set_cons_zero])
                refine wpAnyH_take (i := 30) (oi := { dst := some 89, op := Op.call { callee := Callee.builtin Builtin.len, args := #[Operand.tmp 88], argTypes := #[26] }, type := 3, pos := "law.go:104", after := #[{ on := 29, ground := Ground.data }, { on := 23, ground := Ground.guard }], guard := some (23, true) }) (v := undef) rfl (by kernel_rfl) (by kernel_rfl) (by kernel_rfl) (fun _ _ _ h => h) (Or.inr ⟨by rfl, rfl⟩) (B6.old ((Old.refl w8).drew) HBB.out) ?_
                (try simp only [Act.put]); (try simp only [List.setIfInBounds_toArray]); (try simp only [List.set_cons_succ]); (try simp only [List.set_cons_zero])
                refine wpAnyH_take (i := 31) (oi := { dst := some 90, op := Op.slice 26 (Operand.tmp 86) none (some (Operand.tmp 89)) none, type := 26, pos := "law.go:104", after := #[{ on := 27, ground := Ground.data }, { on := 30, ground := Ground.data }, { on := 23, ground := Ground.guard }], guard := some (23, true) }) (v := undef) rfl (by kernel_rfl) (by kernel_rfl) (by kernel_rfl) (fun _ _ _ h => h) (Or.inr ⟨by rfl, rfl⟩) (B6.old ((Old.refl w8).drew) HBB.out) ?_
                (try simp only [Act.put]); (try simp only [List.setIfInBounds_toArray]); (try simp only [List.set_cons_succ]); (try simp only [List.set_cons_zero])
                refine wpAnyH_take (i := 32) (oi := { dst := some 91, op := Op.call { callee := Callee.value (Operand.func 10), args := #[Operand.tmp 84, Operand.tmp 90], argTypes := #[26, 26] }, type := 4, pos := "law.go:104", after := #[{ on := 25, ground := Ground.data }, { on := 31, ground := Ground.data }, { on := 23, ground := Ground.chain }, { on := 23, ground := Ground.guard }], guard := some (23, true) }) (v := undef) rfl (by kernel_rfl) (by kernel_rfl) (by kernel_rfl) (fun _ _ _ h => h) (Or.inr ⟨by rfl, rfl⟩) (B6.old ((Old.refl w8).drew) HBB.out) ?_
                (try simp only [Act.put]); (try simp only [List.setIfInBounds_toArray]); (try simp only [List.set_cons_succ]); (try simp only [List.set_cons_zero])
                refine wpAnyH_take (i := 33) (oi := { dst := some 92, op := Op.pick (Operand.tmp 82) (Operand.tmp 91) (Operand.const (Value.bool false)), type := 4, pos := "law.go:104", after := #[{ on := 23, ground := Ground.data }, { on := 32, ground := Ground.data }, { on := 1, ground := Ground.guard }], guard := some (1, false) }) (v := undef) rfl (by kernel_rfl) (by kernel_rfl) (by kernel_rfl) (fun _ _ _ h => h) (Or.inr ⟨by rfl, rfl⟩) (B6.old ((Old.refl w8).drew) HBB.out) ?_
                (try simp only [Act.put]); (try simp only [List.setIfInBounds_toArray]); (try simp only [List.set_cons_succ]); (try simp only [List.set_cons_zero])
                refine wpAnyH_take (i := 34) (oi := { dst := some 93, op := Op.pick (Operand.tmp 60) (Operand.const (Value.bool true)) (Operand.tmp 92), type := 4, pos := "law.go:104", after := #[{ on := 1, ground := Ground.data }, { on := 33, ground := Ground.data }], guard := none }) (v := ?vk3) rfl (by kernel_rfl) (by kernel_rfl) (by kernel_rfl) (fun _ _ _ h => h) (Or.inl ⟨by rfl, ?hk3⟩) (B6.old ((Old.refl w8).drew) HBB.out) ?rk3
                case hk3 => (intro wz hSw; (try dsimp only at hSw); go_simp; try with_reducible rfl)
                (try simp only [Act.put]); (try simp only [List.setIfInBounds_toArray]); (try simp only [List.set_cons_succ]); (try simp only [List.set_cons_zero])
                refine wpAnyH_ready (rs := [35]) (by kernel_rfl) (by simp) ?_
                refine AllReadyH.cons (o := { dst := some 9, op := Op.assign (Operand.tmp 93), type := 4, pos := "law.go:104", after := #[{ on := 34, ground := Ground.data }, { on := 32, ground := Ground.chain }, { on := 0, ground := Ground.phase }, { on := 1, ground := Ground.phase }, { on := 2, ground := Ground.phase }, { on := 3, ground := Ground.phase }, { on := 4, ground := Ground.phase }, { on := 5, ground := Ground.phase }, { on := 6, ground := Ground.phase }, { on := 7, ground := Ground.phase }, { on := 8, ground := Ground.phase }, { on := 9, ground := Ground.phase }, { on := 10, ground := Ground.phase }, { on := 11, ground := Ground.phase }, { on := 12, ground := Ground.phase }, { on := 13, ground := Ground.phase }, { on := 14, ground := Ground.phase }, { on := 15, ground := Ground.phase }, { on := 16, ground := Ground.phase }, { on := 17, ground := Ground.phase }, { on := 18, ground := Ground.phase }, { on := 19, ground := Ground.phase }, { on := 20, ground := Ground.phase }, { on := 21, ground := Ground.phase }, { on := 22, ground := Ground.phase }, { on := 23, ground := Ground.phase }, { on := 24, ground := Ground.phase }, { on := 25, ground := Ground.phase }, { on := 26, ground := Ground.phase }, { on := 27, ground := Ground.phase }, { on := 28, ground := Ground.phase }, { on := 29, ground := Ground.phase }, { on := 30, ground := Ground.phase }, { on := 31, ground := Ground.phase }, { on := 32, ground := Ground.phase }, { on := 33, ground := Ground.phase }, { on := 34, ground := Ground.phase }], guard := none }) rfl (fun K hK => ?_) AllReadyH.nil
                go_simp
                refine hK.out _ _ (B6.old ((Old.refl w8).drew) HBB.out) (fun _ => ?_)
                clear hK K
                (try simp only [Act.put]); (try simp only [List.setIfInBounds_toArray]); (try simp only [List.set_cons_succ]); (try simp only [List.set_cons_zero])
                refine wpAnyH_done (by kernel_rfl) ?_ _
                refine NoPanic.normal ?_
                have UZ := hid ((Old.refl w8).drew)
                go_wp2
                go_roundw
                case rel => exact ⟨t + 1, hlt, by go_num, by rw [HE.out], HU3.out.trans UZ.out⟩
                case measure => simp [intOf]; omega
              case false =>
                rw [hf0] at HSu
                clear hf0
                by_cases cf : sf = xf
                · have cf2 := cf.symm
                  subst cf2
                  by_cases ct : st = xt
                  · have ct2 := ct.symm
                    subst ct2
                    by_cases cl : xl ≤ sL.length
                    · have HE := hid (show fndB (X.map Lt.p) xp (t + 1) = decide (xL = sL.take xl) from by rw [HSu.out, decide_eq_true cl]; simp)
                      have HSc := hid (fun (W : World) (u : Old w8 W) => HSB.out W u cl)
                      have g1 : (xl : Int) ≤ (sL.length : Int) := by omega
                      have g2 : (0 : Int) ≤ (xl : Int) := by omega
                      have g3 : (xl : Int) ≤ (sc : Int) := by have := HCap.out.1; omega
                      clear HSu HSB HCap
                      generalize decide (xL = sL.take xl) = bD at *
                      generalize sL.length = sl at *
                      clear cl
                      refine wp_region_noPanic ?_
                      refine wp_region_held_drew (S := fun wz => (wz.cell? ⟨bl, 0, none⟩ = some (.int .i64 xf) ∧ wz.cell? ⟨bl, 1, none⟩ = some (.int .i64 xt) ∧ wz.cell? ⟨bl, 2, none⟩ = some (.slice xa xl xc)) ∧ wz.cell? ⟨bs, 0, none⟩ = some (.int .i64 xf) ∧ wz.cell? ⟨bs, 1, none⟩ = some (.int .i64 xt) ∧ wz.cell? ⟨bs, 2, none⟩ = some (.slice sa sl sc)) (by kernel_rfl) ?_ (fun hHeld => ?_)
                      · exact B6.old ((Old.refl _).drew) HBB.out
                      (try simp only [Act.put]); (try simp only [List.setIfInBounds_toArray]); (try simp only [List.set_cons_succ]); (try simp only [List.set_cons_zero])
                      clear hHeld
                      refine wpAnyH_take (i := 0) (oi := { dst := some 59, op := Op.move (Operand.tmp 9), type := 4, pos := "law.go:104", after := #[], guard := none }) (v := ?vk63) rfl (by kernel_rfl) (by kernel_rfl) (by kernel_rfl) (fun _ _ _ h => h) (Or.inl ⟨by rfl, ?hk63⟩) (B6.old ((Old.refl w8).drew) HBB.out) ?rk63
                      case hk63 => (intro wz hSw; (try dsimp only at hSw); go_simp; try with_reducible rfl)
                      (try simp only [Act.put]); (try simp only [List.setIfInBounds_toArray]); (try simp only [List.set_cons_succ]); (try simp only [List.set_cons_zero])
                      refine wpAnyH_take (i := 1) (oi := { dst := some 60, op := Op.move (Operand.tmp 59), type := 4, pos := "law.go:104", after := #[{ on := 0, ground := Ground.data }], guard := none }) (v := ?vk64) rfl (by kernel_rfl) (by kernel_rfl) (by kernel_rfl) (fun _ _ _ h => h) (Or.inl ⟨by rfl, ?hk64⟩) (B6.old ((Old.refl w8).drew) HBB.out) ?rk64
                      case hk64 => (intro wz hSw; (try dsimp only at hSw); go_simp; try with_reducible rfl)
                      (try simp only [Act.put]); (try simp only [List.setIfInBounds_toArray]); (try simp only [List.set_cons_succ]); (try simp only [List.set_cons_zero])
                      refine wpAnyH_take (i := 2) (oi := { dst := some 61, op := Op.fieldAddr 30 (Operand.tmp 11) 0, type := 0, pos := "law.go:104", after := #[{ on := 1, ground := Ground.guard }], guard := some (1, false) }) (v := ?vk65) rfl (by kernel_rfl) (by kernel_rfl) (by kernel_rfl) (fun _ _ _ h => h) (Or.inl ⟨by rfl, ?hk65⟩) (B6.old ((Old.refl w8).drew) HBB.out) ?rk65
                      case hk65 => (intro wz hSw; (try dsimp only at hSw); go_simp; try with_reducible rfl)
                      (try simp only [Act.put]); (try simp only [List.setIfInBounds_toArray]); (try simp only [List.set_cons_succ]); (try simp only [List.set_cons_zero])
                      refine wpAnyH_take (i := 3) (oi := { dst := some 62, op := Op.load 3 (Operand.tmp 61), type := 3, pos := "law.go:104", after := #[{ on := 2, ground := Ground.data }, { on := 1, ground := Ground.guard }], guard := some (1, false) }) (v := ?vk66) rfl (by kernel_rfl) (by kernel_rfl) (by kernel_rfl) (fun _ _ _ h => h) (Or.inl ⟨by rfl, ?hk66⟩) (B6.old ((Old.refl w8).drew) HBB.out) ?rk66
                      case hk66 => (intro wz hSw; (try dsimp only at hSw); go_simp; try with_reducible rfl)
                      (try simp only [Act.put]); (try simp only [List.setIfInBounds_toArray]); (try simp only [List.set_cons_succ]); (try simp only [List.set_cons_zero])
                      refine wpAnyH_take (i := 4) (oi := { dst := some 63, op := Op.fieldAddr 30 (Operand.tmp 8) 0, type := 0, pos := "law.go:104", after := #[{ on := 1, ground := Ground.guard }], guard := some (1, false) }) (v := ?vk67) rfl (by kernel_rfl) (by kernel_rfl) (by kernel_rfl) (fun _ _ _ h => h) (Or.inl ⟨by rfl, ?hk67⟩) (B6.old ((Old.refl w8).drew) HBB.out) ?rk67
                      case hk67 => (intro wz hSw; (try dsimp only at hSw); go_simp; try with_reducible rfl)
                      (try simp only [Act.put]); (try simp only [List.setIfInBounds_toArray]); (try simp only [List.set_cons_succ]); (try simp only [List.set_cons_zero])
                      refine wpAnyH_take (i := 5) (oi := { dst := some 64, op := Op.load 3 (Operand.tmp 63), type := 3, pos := "law.go:104", after := #[{ on := 4, ground := Ground.data }, { on := 1, ground := Ground.guard }], guard := some (1, false) }) (v := ?vk68) rfl (by kernel_rfl) (by kernel_rfl) (by kernel_rfl) (fun _ _ _ h => h) (Or.inl ⟨by rfl, ?hk68⟩) (B6.old ((Old.refl w8).drew) HBB.out) ?rk68
                      case hk68 => (intro wz hSw; (try dsimp only at hSw); go_simp; try with_reducible rfl)
                      (try simp only [Act.put]); (try simp only [List.setIfInBounds_toArray]); (try simp only [List.set_cons_succ]); (try simp only [List.set_cons_zero])
                      refine wpAnyH_take (i := 6) (oi := { dst := some 65, op := Op.binOp BinOp.eql 3 (Operand.tmp 62) (Operand.tmp 64) 3, type := 4, pos := "law.go:104", after := #[{ on := 3, ground := Ground.data }, { on := 5, ground := Ground.data }, { on := 1, ground := Ground.guard }], guard := some (1, false) }) (v := ?vk69) rfl (by kernel_rfl) (by kernel_rfl) (by kernel_rfl) (fun _ _ _ h => h) (Or.inl ⟨by rfl, ?hk69⟩) (B6.old ((Old.refl w8).drew) HBB.out) ?rk69
                      case hk69 => (intro wz hSw; (try dsimp only at hSw); go_simp; try with_reducible rfl)
                      (try simp only [Act.put]); (try simp only [List.setIfInBounds_toArray]); (try simp only [List.set_cons_succ]); (try simp only [List.set_cons_zero])
                      refine wpAnyH_take (i := 7) (oi := { dst := some 66, op := Op.move (Operand.tmp 65), type := 4, pos := "law.go:104", after := #[{ on := 6, ground := Ground.data }, { on := 1, ground := Ground.chain }, { on := 1, ground := Ground.guard }], guard := some (1, false) }) (v := ?vk70) rfl (by kernel_rfl) (by kernel_rfl) (by kernel_rfl) (fun _ _ _ h => h) (Or.inl ⟨by rfl, ?hk70⟩) (B6.old ((Old.refl w8).drew) HBB.out) ?rk70
                      case hk70 => (intro wz hSw; (try dsimp only at hSw); go_simp; try with_reducible rfl)
                      (try simp only [Act.put]); (try simp only [List.setIfInBounds_toArray]); (try simp only [List.set_cons_succ]); (try simp only [List.set_cons_zero])
                      refine wpAnyH_take (i := 8) (oi := { dst := some 67, op := Op.fieldAddr 30 (Operand.tmp 11) 1, type := 0, pos := "law.go:104", after := #[{ on := 7, ground := Ground.guard }], guard := some (7, true) }) (v := ?vk71) rfl (by kernel_rfl) (by kernel_rfl) (by kernel_rfl) (fun _ _ _ h => h) (Or.inl ⟨by rfl, ?hk71⟩) (B6.old ((Old.refl w8).drew) HBB.out) ?rk71
                      case hk71 => (intro wz hSw; (try dsimp only at hSw); go_simp; try with_reducible rfl)
                      (try simp only [Act.put]); (try simp only [List.setIfInBounds_toArray]); (try simp only [List.set_cons_succ]); (try simp only [List.set_cons_zero])
                      refine wpAnyH_take (i := 9) (oi := { dst := some 68, op := Op.load 3 (Operand.tmp 67), type := 3, pos := "law.go:104", after := #[{ on := 8, ground := Ground.data }, { on := 7, ground := Ground.guard }], guard := some (7, true) }) (v := ?vk72) rfl (by kernel_rfl) (by kernel_rfl) (by kernel_rfl) (fun _ _ _ h => h) (Or.inl ⟨by rfl, ?hk72⟩) (B6.old ((Old.refl w8).drew) HBB.out) ?rk72
                      case hk72 => (intro wz hSw; (try dsimp only at hSw); go_simp; try with_reducible rfl)
                      (try simp only [Act.put]); (try simp only [List.setIfInBounds_toArray]); (try simp only [List.set_cons_succ]); (try simp only [List.set_cons_zero])
                      refine wpAnyH_take (i := 10) (oi := { dst := some 69, op := Op.fieldAddr 30 (Operand.tmp 8) 1, type := 0, pos := "law.go:104", after := #[{ on := 7, ground := Ground.guard }], guard := some (7, true) }) (v := ?vk73) rfl (by kernel_rfl) (by kernel_rfl) (by kernel_rfl) (fun _ _ _ h => h) (Or.inl ⟨by rfl, ?hk73⟩) (B6.old ((Old.refl w8).drew) HBB.out) ?rk73
                      case hk73 => (intro wz hSw; (try dsimp only at hSw); go_simp; try with_reducible rfl)
                      (try simp only [Act.put]); (try simp only [List.setIfInBounds_toArray]); (try simp only [List.set_cons_succ]); (try simp only [List.set_cons_zero])
                      refine wpAnyH_take (i := 11) (oi := { dst := some 70, op := Op.load 3 (Operand.tmp 69), type := 3, pos := "law.go:104", after := #[{ on := 10, ground := Ground.data }, { on := 7, ground := Ground.guard }], guard := some (7, true) }) (v := ?vk74) rfl (by kernel_rfl) (by kernel_rfl) (by kernel_rfl) (fun _ _ _ h => h) (Or.inl ⟨by rfl, ?hk74⟩) (B6.old ((Old.refl w8).drew) HBB.out) ?rk74
                      case hk74 => (intro wz hSw; (try dsimp only at hSw); go_simp; try with_reducible rfl)
                      (try simp only [Act.put]); (try simp only [List.setIfInBounds_toArray]); (try simp only [List.set_cons_succ]); (try simp only [List.set_cons_zero])
                      refine wpAnyH_take (i := 12) (oi := { dst := some 71, op := Op.binOp BinOp.eql 3 (Operand.tmp 68) (Operand.tmp 70) 3, type := 4, pos := "law.go:104", after := #[{ on := 9, ground := Ground.data }, { on := 11, ground := Ground.data }, { on := 7, ground := Ground.guard }], guard := some (7, true) }) (v := ?vk75) rfl (by kernel_rfl) (by kernel_rfl) (by kernel_rfl) (fun _ _ _ h => h) (Or.inl ⟨by rfl, ?hk75⟩) (B6.old ((Old.refl w8).drew) HBB.out) ?rk75
                      case hk75 => (intro wz hSw; (try dsimp only at hSw); go_simp; try with_reducible rfl)
                      (try simp only [Act.put]); (try simp only [List.setIfInBounds_toArray]); (try simp only [List.set_cons_succ]); (try simp only [List.set_cons_zero])
                      refine wpAnyH_take (i := 13) (oi := { dst := some 72, op := Op.pick (Operand.tmp 66) (Operand.tmp 71) (Operand.const (Value.bool false)), type := 4, pos := "law.go:104", after := #[{ on := 7, ground := Ground.data }, { on := 12, ground := Ground.data }, { on := 1, ground := Ground.guard }], guard := some (1, false) }) (v := ?vk76) rfl (by kernel_rfl) (by kernel_rfl) (by kernel_rfl) (fun _ _ _ h => h) (Or.inl ⟨by rfl, ?hk76⟩) (B6.old ((Old.refl w8).drew) HBB.out) ?rk76
                      case hk76 => (intro wz hSw; (try dsimp only at hSw); go_simp; try with_reducible rfl)
                      (try simp only [Act.put]); (try simp only [List.setIfInBounds_toArray]); (try simp only [List.set_cons_succ]); (try simp only [List.set_cons_zero])
                      refine wpAnyH_take (i := 14) (oi := { dst := some 73, op := Op.move (Operand.tmp 72), type := 4, pos := "law.go:104", after := #[{ on := 13, ground := Ground.data }, { on := 7, ground := Ground.chain }, { on := 1, ground := Ground.guard }], guard := some (1, false) }) (v := ?vk77) rfl (by kernel_rfl) (by kernel_rfl) (by kernel_rfl) (fun _ _ _ h => h) (Or.inl ⟨by rfl, ?hk77⟩) (B6.old ((Old.refl w8).drew) HBB.out) ?rk77
                      case hk77 => (intro wz hSw; (try dsimp only at hSw); go_simp; try with_reducible rfl)
                      (try simp only [Act.put]); (try simp only [List.setIfInBounds_toArray]); (try simp only [List.set_cons_succ]); (try simp only [List.set_cons_zero])
                      refine wpAnyH_take (i := 15) (oi := { dst := some 74, op := Op.fieldAddr 30 (Operand.tmp 8) 2, type := 0, pos := "law.go:104", after := #[{ on := 14, ground := Ground.guard }], guard := some (14, true) }) (v := ?vk78) rfl (by kernel_rfl) (by kernel_rfl) (by kernel_rfl) (fun _ _ _ h => h) (Or.inl ⟨by rfl, ?hk78⟩) (B6.old ((Old.refl w8).drew) HBB.out) ?rk78
                      case hk78 => (intro wz hSw; (try dsimp only at hSw); go_simp; try with_reducible rfl)
                      (try simp only [Act.put]); (try simp only [List.setIfInBounds_toArray]); (try simp only [List.set_cons_succ]); (try simp only [List.set_cons_zero])
                      refine wpAnyH_take (i := 16) (oi := { dst := some 75, op := Op.load 26 (Operand.tmp 74), type := 26, pos := "law.go:104", after := #[{ on := 15, ground := Ground.data }, { on := 14, ground := Ground.guard }], guard := some (14, true) }) (v := ?vk79) rfl (by kernel_rfl) (by kernel_rfl) (by kernel_rfl) (fun _ _ _ h => h) (Or.inl ⟨by rfl, ?hk79⟩) (B6.old ((Old.refl w8).drew) HBB.out) ?rk79
                      case hk79 => (intro wz hSw; (try dsimp only at hSw); go_simp; try with_reducible rfl)
                      (try simp only [Act.put]); (try simp only [List.setIfInBounds_toArray]); (try simp only [List.set_cons_succ]); (try simp only [List.set_cons_zero])
                      refine wpAnyH_take (i := 17) (oi := { dst := some 76, op := Op.call { callee := Callee.builtin Builtin.len, args := #[Operand.tmp 75], argTypes := #[26] }, type := 3, pos := "law.go:104", after := #[{ on := 16, ground := Ground.data }, { on := 14, ground := Ground.guard }], guard := some (14, true) }) (v := ?vk80) rfl (by kernel_rfl) (by kernel_rfl) (by kernel_rfl) (fun _ _ _ h => h) (Or.inl ⟨by rfl, ?hk80⟩) (B6.old ((Old.refl w8).drew) HBB.out) ?rk80
                      case hk80 => (intro wz hSw; (try dsimp only at hSw); go_simp; try with_reducible rfl)
                      (try simp only [Act.put]); (try simp only [List.setIfInBounds_toArray]); (try simp only [List.set_cons_succ]); (try simp only [List.set_cons_zero])
                      refine wpAnyH_take (i := 18) (oi := { dst := some 77, op := Op.fieldAddr 30 (Operand.tmp 11) 2, type := 0, pos := "law.go:104", after := #[{ on := 14, ground := Ground.guard }], guard := some (14, true) }) (v := ?vk81) rfl (by kernel_rfl) (by kernel_rfl) (by kernel_rfl) (fun _ _ _ h => h) (Or.inl ⟨by rfl, ?hk81⟩) (B6.old ((Old.refl w8).drew) HBB.out) ?rk81
                      case hk81 => (intro wz hSw; (try dsimp only at hSw); go_simp; try with_reducible rfl)
                      (try simp only [Act.put]); (try simp only [List.setIfInBounds_toArray]); (try simp only [List.set_cons_succ]); (try simp only [List.set_cons_zero])
                      refine wpAnyH_take (i := 19) (oi := { dst := some 78, op := Op.load 26 (Operand.tmp 77), type := 26, pos := "law.go:104", after := #[{ on := 18, ground := Ground.data }, { on := 14, ground := Ground.guard }], guard := some (14, true) }) (v := ?vk82) rfl (by kernel_rfl) (by kernel_rfl) (by kernel_rfl) (fun _ _ _ h => h) (Or.inl ⟨by rfl, ?hk82⟩) (B6.old ((Old.refl w8).drew) HBB.out) ?rk82
                      case hk82 => (intro wz hSw; (try dsimp only at hSw); go_simp; try with_reducible rfl)
                      (try simp only [Act.put]); (try simp only [List.setIfInBounds_toArray]); (try simp only [List.set_cons_succ]); (try simp only [List.set_cons_zero])
                      refine wpAnyH_take (i := 20) (oi := { dst := some 79, op := Op.call { callee := Callee.builtin Builtin.len, args := #[Operand.tmp 78], argTypes := #[26] }, type := 3, pos := "law.go:104", after := #[{ on := 19, ground := Ground.data }, { on := 14, ground := Ground.guard }], guard := some (14, true) }) (v := ?vk83) rfl (by kernel_rfl) (by kernel_rfl) (by kernel_rfl) (fun _ _ _ h => h) (Or.inl ⟨by rfl, ?hk83⟩) (B6.old ((Old.refl w8).drew) HBB.out) ?rk83
                      case hk83 => (intro wz hSw; (try dsimp only at hSw); go_simp; try with_reducible rfl)
                      (try simp only [Act.put]); (try simp only [List.setIfInBounds_toArray]); (try simp only [List.set_cons_succ]); (try simp only [List.set_cons_zero])
                      refine wpAnyH_take (i := 21) (oi := { dst := some 80, op := Op.binOp BinOp.leq 3 (Operand.tmp 76) (Operand.tmp 79) 3, type := 4, pos := "law.go:104", after := #[{ on := 17, ground := Ground.data }, { on := 20, ground := Ground.data }, { on := 14, ground := Ground.guard }], guard := some (14, true) }) (v := ?vk84) rfl (by kernel_rfl) (by kernel_rfl) (by kernel_rfl) (fun _ _ _ h => h) (Or.inl ⟨by rfl, ?hk84⟩) (B6.old ((Old.refl w8).drew) HBB.out) ?rk84
                      case hk84 => (intro wz hSw; (try dsimp only at hSw); go_simp; try with_reducible rfl)
                      (try simp only [Act.put]); (try simp only [List.setIfInBounds_toArray]); (try simp only [List.set_cons_succ]); (try simp only [List.set_cons_zero])
                      refine wpAnyH_take (i := 22) (oi := { dst := some 81, op := Op.pick (Operand.tmp 73) (Operand.tmp 80) (Operand.const (Value.bool false)), type := 4, pos := "law.go:104", after := #[{ on := 14, ground := Ground.data }, { on := 21, ground := Ground.data }, { on := 1, ground := Ground.guard }], guard := some (1, false) }) (v := ?vk85) rfl (by kernel_rfl) (by kernel_rfl) (by kernel_rfl) (fun _ _ _ h => h) (Or.inl ⟨by rfl, ?hk85⟩) (B6.old ((Old.refl w8).drew) HBB.out) ?rk85
                      case hk85 => (intro wz hSw; (try dsimp only at hSw); go_simp; try with_reducible rfl)
                      (try simp only [Act.put]); (try simp only [List.setIfInBounds_toArray]); (try simp only [List.set_cons_succ]); (try simp only [List.set_cons_zero])
                      refine wpAnyH_take (i := 23) (oi := { dst := some 82, op := Op.move (Operand.tmp 81), type := 4, pos := "law.go:104", after := #[{ on := 22, ground := Ground.data }, { on := 14, ground := Ground.chain }, { on := 1, ground := Ground.guard }], guard := some (1, false) }) (v := ?vk86) rfl (by kernel_rfl) (by kernel_rfl) (by kernel_rfl) (fun _ _ _ h => h) (Or.inl ⟨by rfl, ?hk86⟩) (B6.old ((Old.refl w8).drew) HBB.out) ?rk86
                      case hk86 => (intro wz hSw; (try dsimp only at hSw); go_simp; try with_reducible rfl)
                      (try simp only [Act.put]); (try simp only [List.setIfInBounds_toArray]); (try simp only [List.set_cons_succ]); (try simp only [List.set_cons_zero])
                      refine wpAnyH_take (i := 24) (oi := { dst := some 83, op := Op.fieldAddr 30 (Operand.tmp 8) 2, type := 0, pos := "law.go:104", after := #[{ on := 23, ground := Ground.guard }], guard := some (23, true) }) (v := ?vk87) rfl (by kernel_rfl) (by kernel_rfl) (by kernel_rfl) (fun _ _ _ h => h) (Or.inl ⟨by rfl, ?hk87⟩) (B6.old ((Old.refl w8).drew) HBB.out) ?rk87
                      case hk87 => (intro wz hSw; (try dsimp only at hSw); go_simp; try with_reducible rfl)
                      (try simp only [Act.put]); (try simp only [List.setIfInBounds_toArray]); (try simp only [List.set_cons_succ]); (try simp only [List.set_cons_zero])
                      refine wpAnyH_take (i := 25) (oi := { dst := some 84, op := Op.load 26 (Operand.tmp 83), type := 26, pos := "law.go:104", after := #[{ on := 24, ground := Ground.data }, { on := 23, ground := Ground.guard }], guard := some (23, true) }) (v := ?vk88) rfl (by kernel_rfl) (by kernel_rfl) (by kernel_rfl) (fun _ _ _ h => h) (Or.inl ⟨by rfl, ?hk88⟩) (B6.old ((Old.refl w8).drew) HBB.out) ?rk88
                      case hk88 => (intro wz hSw; (try dsimp only at hSw); go_simp; try with_reducible rfl)
                      (try simp only [Act.put]); (try simp only [List.setIfInBounds_toArray]); (try simp only [List.set_cons_succ]); (try simp only [List.set_cons_zero])
                      refine wpAnyH_take (i := 26) (oi := { dst := some 85, op := Op.fieldAddr 30 (Operand.tmp 11) 2, type := 0, pos := "law.go:104", after := #[{ on := 23, ground := Ground.guard }], guard := some (23, true) }) (v := ?vk89) rfl (by kernel_rfl) (by kernel_rfl) (by kernel_rfl) (fun _ _ _ h => h) (Or.inl ⟨by rfl, ?hk89⟩) (B6.old ((Old.refl w8).drew) HBB.out) ?rk89
                      case hk89 => (intro wz hSw; (try dsimp only at hSw); go_simp; try with_reducible rfl)
                      (try simp only [Act.put]); (try simp only [List.setIfInBounds_toArray]); (try simp only [List.set_cons_succ]); (try simp only [List.set_cons_zero])
                      refine wpAnyH_take (i := 27) (oi := { dst := some 86, op := Op.load 26 (Operand.tmp 85), type := 26, pos := "law.go:104", after := #[{ on := 26, ground := Ground.data }, { on := 23, ground := Ground.guard }], guard := some (23, true) }) (v := ?vk90) rfl (by kernel_rfl) (by kernel_rfl) (by kernel_rfl) (fun _ _ _ h => h) (Or.inl ⟨by rfl, ?hk90⟩) (B6.old ((Old.refl w8).drew) HBB.out) ?rk90
                      case hk90 => (intro wz hSw; (try dsimp only at hSw); go_simp; try with_reducible rfl)
                      (try simp only [Act.put]); (try simp only [List.setIfInBounds_toArray]); (try simp only [List.set_cons_succ]); (try simp only [List.set_cons_zero])
                      refine wpAnyH_take (i := 28) (oi := { dst := some 87, op := Op.fieldAddr 30 (Operand.tmp 8) 2, type := 0, pos := "law.go:104", after := #[{ on := 23, ground := Ground.guard }], guard := some (23, true) }) (v := ?vk91) rfl (by kernel_rfl) (by kernel_rfl) (by kernel_rfl) (fun _ _ _ h => h) (Or.inl ⟨by rfl, ?hk91⟩) (B6.old ((Old.refl w8).drew) HBB.out) ?rk91
                      case hk91 => (intro wz hSw; (try dsimp only at hSw); go_simp; try with_reducible rfl)
                      (try simp only [Act.put]); (try simp only [List.setIfInBounds_toArray]); (try simp only [List.set_cons_succ]); (try simp only [List.set_cons_zero])
                      refine wpAnyH_take (i := 29) (oi := { dst := some 88, op := Op.load 26 (Operand.tmp 87), type := 26, pos := "law.go:104", after := #[{ on := 28, ground := Ground.data }, { on := 23, ground := Ground.guard }], guard := some (23, true) }) (v := ?vk92) rfl (by kernel_rfl) (by kernel_rfl) (by kernel_rfl) (fun _ _ _ h => h) (Or.inl ⟨by rfl, ?hk92⟩) (B6.old ((Old.refl w8).drew) HBB.out) ?rk92
                      case hk92 => (intro wz hSw; (try dsimp only at hSw); go_simp; try with_reducible rfl)
                      (try simp only [Act.put]); (try simp only [List.setIfInBounds_toArray]); (try simp only [List.set_cons_succ]); (try simp only [List.set_cons_zero])
                      refine wpAnyH_take (i := 30) (oi := { dst := some 89, op := Op.call { callee := Callee.builtin Builtin.len, args := #[Operand.tmp 88], argTypes := #[26] }, type := 3, pos := "law.go:104", after := #[{ on := 29, ground := Ground.data }, { on := 23, ground := Ground.guard }], guard := some (23, true) }) (v := ?vk93) rfl (by kernel_rfl) (by kernel_rfl) (by kernel_rfl) (fun _ _ _ h => h) (Or.inl ⟨by rfl, ?hk93⟩) (B6.old ((Old.refl w8).drew) HBB.out) ?rk93
                      case hk93 => (intro wz hSw; (try dsimp only at hSw); go_simp; try with_reducible rfl)
                      (try simp only [Act.put]); (try simp only [List.setIfInBounds_toArray]); (try simp only [List.set_cons_succ]); (try simp only [List.set_cons_zero])
                      refine wpAnyH_take (i := 31) (oi := { dst := some 90, op := Op.slice 26 (Operand.tmp 86) none (some (Operand.tmp 89)) none, type := 26, pos := "law.go:104", after := #[{ on := 27, ground := Ground.data }, { on := 30, ground := Ground.data }, { on := 23, ground := Ground.guard }], guard := some (23, true) }) (v := ?vk94) rfl (by kernel_rfl) (by kernel_rfl) (by kernel_rfl) (fun _ _ _ h => h) (Or.inl ⟨by rfl, ?hk94⟩) (B6.old ((Old.refl w8).drew) HBB.out) ?rk94
                      case hk94 => (intro wz hSw; (try dsimp only at hSw); go_simp; try with_reducible rfl)
                      (try simp only [Act.put]); (try simp only [List.setIfInBounds_toArray]); (try simp only [List.set_cons_succ]); (try simp only [List.set_cons_zero])
                      refine wpAnyH_ready (rs := [32]) (by kernel_rfl) (by simp) ?_
                      refine AllReadyH.cons (o := { dst := some 91, op := Op.call { callee := Callee.value (Operand.func 10), args := #[Operand.tmp 84, Operand.tmp 90], argTypes := #[26, 26] }, type := 4, pos := "law.go:104", after := #[{ on := 25, ground := Ground.data }, { on := 31, ground := Ground.data }, { on := 23, ground := Ground.chain }, { on := 23, ground := Ground.guard }], guard := some (23, true) }) rfl (fun K hK => ?_) AllReadyH.nil
                      refine wantCall2 ?_ 10 (.tmp 84) (.tmp 90) #[26, 26] ?_ (.slice xa xl xc) (.slice sa xl sc) ?_ ?_ ?_ ((enters_of Try.func10 (by kernel_rfl) rfl) _ _) ?_
                      · rfl
                      · rfl
                      · rfl
                      · rfl
                      · rfl
                      refine (HSc.out _ ((Old.refl w8).drew)).mono ?_
                      rintro o x95 ⟨rfl, b95⟩
                      refine ⟨_, rfl, ?_⟩
                      have U95 := ((Old.refl w8).drew).trans b95
                      refine hK.out _ _ (B6.old U95 HBB.out) (fun _ => ?_)
                      clear hK K
                      (try simp only [Act.put]); (try simp only [List.setIfInBounds_toArray]); (try simp only [List.set_cons_succ]); (try simp only [List.set_cons_zero])
                      refine wpAnyH_take (i := 33) (oi := { dst := some 92, op := Op.pick (Operand.tmp 82) (Operand.tmp 91) (Operand.const (Value.bool false)), type := 4, pos := "law.go:104", after := #[{ on := 23, ground := Ground.data }, { on := 32, ground := Ground.data }, { on := 1, ground := Ground.guard }], guard := some (1, false) }) (v := ?vk96) rfl (by kernel_rfl) (by kernel_rfl) (by kernel_rfl) (fun _ _ _ h => h) (Or.inl ⟨by rfl, ?hk96⟩) (B6.old U95 HBB.out) ?rk96
                      case hk96 => (intro wz hSw; (try dsimp only at hSw); go_simp; try with_reducible rfl)
                      (try simp only [Act.put]); (try simp only [List.setIfInBounds_toArray]); (try simp only [List.set_cons_succ]); (try simp only [List.set_cons_zero])
                      refine wpAnyH_take (i := 34) (oi := { dst := some 93, op := Op.pick (Operand.tmp 60) (Operand.const (Value.bool true)) (Operand.tmp 92), type := 4, pos := "law.go:104", after := #[{ on := 1, ground := Ground.data }, { on := 33, ground := Ground.data }], guard := none }) (v := ?vk97) rfl (by kernel_rfl) (by kernel_rfl) (by kernel_rfl) (fun _ _ _ h => h) (Or.inl ⟨by rfl, ?hk97⟩) (B6.old U95 HBB.out) ?rk97
                      case hk97 => (intro wz hSw; (try dsimp only at hSw); go_simp; try with_reducible rfl)
                      (try simp only [Act.put]); (try simp only [List.setIfInBounds_toArray]); (try simp only [List.set_cons_succ]); (try simp only [List.set_cons_zero])
                      refine wpAnyH_ready (rs := [35]) (by kernel_rfl) (by simp) ?_
                      refine AllReadyH.cons (o := { dst := some 9, op := Op.assign (Operand.tmp 93), type := 4, pos := "law.go:104", after := #[{ on := 34, ground := Ground.data }, { on := 32, ground := Ground.chain }, { on := 0, ground := Ground.phase }, { on := 1, ground := Ground.phase }, { on := 2, ground := Ground.phase }, { on := 3, ground := Ground.phase }, { on := 4, ground := Ground.phase }, { on := 5, ground := Ground.phase }, { on := 6, ground := Ground.phase }, { on := 7, ground := Ground.phase }, { on := 8, ground := Ground.phase }, { on := 9, ground := Ground.phase }, { on := 10, ground := Ground.phase }, { on := 11, ground := Ground.phase }, { on := 12, ground := Ground.phase }, { on := 13, ground := Ground.phase }, { on := 14, ground := Ground.phase }, { on := 15, ground := Ground.phase }, { on := 16, ground := Ground.phase }, { on := 17, ground := Ground.phase }, { on := 18, ground := Ground.phase }, { on := 19, ground := Ground.phase }, { on := 20, ground := Ground.phase }, { on := 21, ground := Ground.phase }, { on := 22, ground := Ground.phase }, { on := 23, ground := Ground.phase }, { on := 24, ground := Ground.phase }, { on := 25, ground := Ground.phase }, { on := 26, ground := Ground.phase }, { on := 27, ground := Ground.phase }, { on := 28, ground := Ground.phase }, { on := 29, ground := Ground.phase }, { on := 30, ground := Ground.phase }, { on := 31, ground := Ground.phase }, { on := 32, ground := Ground.phase }, { on := 33, ground := Ground.phase }, { on := 34, ground := Ground.phase }], guard := none }) rfl (fun K hK => ?_) AllReadyH.nil
                      go_simp
                      refine hK.out _ _ (B6.old U95 HBB.out) (fun _ => ?_)
                      clear hK K
                      (try simp only [Act.put]); (try simp only [List.setIfInBounds_toArray]); (try simp only [List.set_cons_succ]); (try simp only [List.set_cons_zero])
                      refine wpAnyH_done (by kernel_rfl) ?_ _
                      refine NoPanic.normal ?_
                      have UZ := hid U95
                      go_wp2
                      go_roundw
                      case rel => exact ⟨t + 1, hlt, by go_num, by rw [HE.out], HU3.out.trans UZ.out⟩
                      case measure => simp [intOf]; omega
                    · have HE := hid (show fndB (X.map Lt.p) xp (t + 1) = false from by rw [HSu.out, decide_eq_false cl]; simp)
                      have g1 : ¬ (xl : Int) ≤ (sL.length : Int) := by omega
                      clear HSu HSB HCap
                      generalize sL.length = sl at *
                      clear cl
                      refine wp_region_noPanic ?_
                      refine wp_region_held_drew (S := fun wz => (wz.cell? ⟨bl, 0, none⟩ = some (.int .i64 xf) ∧ wz.cell? ⟨bl, 1, none⟩ = some (.int .i64 xt) ∧ wz.cell? ⟨bl, 2, none⟩ = some (.slice xa xl xc)) ∧ wz.cell? ⟨bs, 0, none⟩ = some (.int .i64 xf) ∧ wz.cell? ⟨bs, 1, none⟩ = some (.int .i64 xt) ∧ wz.cell? ⟨bs, 2, none⟩ = some (.slice sa sl sc)) (by kernel_rfl) ?_ (fun hHeld => ?_)
                      · exact B6.old ((Old.refl _).drew) HBB.out
                      (try simp only [Act.put]); (try simp only [List.setIfInBounds_toArray]); (try simp only [List.set_cons_succ]); (try simp only [List.set_cons_zero])
                      clear hHeld
                      refine wpAnyH_take (i := 0) (oi := { dst := some 59, op := Op.move (Operand.tmp 9), type := 4, pos := "law.go:104", after := #[], guard := none }) (v := ?vk37) rfl (by kernel_rfl) (by kernel_rfl) (by kernel_rfl) (fun _ _ _ h => h) (Or.inl ⟨by rfl, ?hk37⟩) (B6.old ((Old.refl w8).drew) HBB.out) ?rk37
                      case hk37 => (intro wz hSw; (try dsimp only at hSw); go_simp; try with_reducible rfl)
                      (try simp only [Act.put]); (try simp only [List.setIfInBounds_toArray]); (try simp only [List.set_cons_succ]); (try simp only [List.set_cons_zero])
                      refine wpAnyH_take (i := 1) (oi := { dst := some 60, op := Op.move (Operand.tmp 59), type := 4, pos := "law.go:104", after := #[{ on := 0, ground := Ground.data }], guard := none }) (v := ?vk38) rfl (by kernel_rfl) (by kernel_rfl) (by kernel_rfl) (fun _ _ _ h => h) (Or.inl ⟨by rfl, ?hk38⟩) (B6.old ((Old.refl w8).drew) HBB.out) ?rk38
                      case hk38 => (intro wz hSw; (try dsimp only at hSw); go_simp; try with_reducible rfl)
                      (try simp only [Act.put]); (try simp only [List.setIfInBounds_toArray]); (try simp only [List.set_cons_succ]); (try simp only [List.set_cons_zero])
                      refine wpAnyH_take (i := 2) (oi := { dst := some 61, op := Op.fieldAddr 30 (Operand.tmp 11) 0, type := 0, pos := "law.go:104", after := #[{ on := 1, ground := Ground.guard }], guard := some (1, false) }) (v := ?vk39) rfl (by kernel_rfl) (by kernel_rfl) (by kernel_rfl) (fun _ _ _ h => h) (Or.inl ⟨by rfl, ?hk39⟩) (B6.old ((Old.refl w8).drew) HBB.out) ?rk39
                      case hk39 => (intro wz hSw; (try dsimp only at hSw); go_simp; try with_reducible rfl)
                      (try simp only [Act.put]); (try simp only [List.setIfInBounds_toArray]); (try simp only [List.set_cons_succ]); (try simp only [List.set_cons_zero])
                      refine wpAnyH_take (i := 3) (oi := { dst := some 62, op := Op.load 3 (Operand.tmp 61), type := 3, pos := "law.go:104", after := #[{ on := 2, ground := Ground.data }, { on := 1, ground := Ground.guard }], guard := some (1, false) }) (v := ?vk40) rfl (by kernel_rfl) (by kernel_rfl) (by kernel_rfl) (fun _ _ _ h => h) (Or.inl ⟨by rfl, ?hk40⟩) (B6.old ((Old.refl w8).drew) HBB.out) ?rk40
                      case hk40 => (intro wz hSw; (try dsimp only at hSw); go_simp; try with_reducible rfl)
                      (try simp only [Act.put]); (try simp only [List.setIfInBounds_toArray]); (try simp only [List.set_cons_succ]); (try simp only [List.set_cons_zero])
                      refine wpAnyH_take (i := 4) (oi := { dst := some 63, op := Op.fieldAddr 30 (Operand.tmp 8) 0, type := 0, pos := "law.go:104", after := #[{ on := 1, ground := Ground.guard }], guard := some (1, false) }) (v := ?vk41) rfl (by kernel_rfl) (by kernel_rfl) (by kernel_rfl) (fun _ _ _ h => h) (Or.inl ⟨by rfl, ?hk41⟩) (B6.old ((Old.refl w8).drew) HBB.out) ?rk41
                      case hk41 => (intro wz hSw; (try dsimp only at hSw); go_simp; try with_reducible rfl)
                      (try simp only [Act.put]); (try simp only [List.setIfInBounds_toArray]); (try simp only [List.set_cons_succ]); (try simp only [List.set_cons_zero])
                      refine wpAnyH_take (i := 5) (oi := { dst := some 64, op := Op.load 3 (Operand.tmp 63), type := 3, pos := "law.go:104", after := #[{ on := 4, ground := Ground.data }, { on := 1, ground := Ground.guard }], guard := some (1, false) }) (v := ?vk42) rfl (by kernel_rfl) (by kernel_rfl) (by kernel_rfl) (fun _ _ _ h => h) (Or.inl ⟨by rfl, ?hk42⟩) (B6.old ((Old.refl w8).drew) HBB.out) ?rk42
                      case hk42 => (intro wz hSw; (try dsimp only at hSw); go_simp; try with_reducible rfl)
                      (try simp only [Act.put]); (try simp only [List.setIfInBounds_toArray]); (try simp only [List.set_cons_succ]); (try simp only [List.set_cons_zero])
                      refine wpAnyH_take (i := 6) (oi := { dst := some 65, op := Op.binOp BinOp.eql 3 (Operand.tmp 62) (Operand.tmp 64) 3, type := 4, pos := "law.go:104", after := #[{ on := 3, ground := Ground.data }, { on := 5, ground := Ground.data }, { on := 1, ground := Ground.guard }], guard := some (1, false) }) (v := ?vk43) rfl (by kernel_rfl) (by kernel_rfl) (by kernel_rfl) (fun _ _ _ h => h) (Or.inl ⟨by rfl, ?hk43⟩) (B6.old ((Old.refl w8).drew) HBB.out) ?rk43
                      case hk43 => (intro wz hSw; (try dsimp only at hSw); go_simp; try with_reducible rfl)
                      (try simp only [Act.put]); (try simp only [List.setIfInBounds_toArray]); (try simp only [List.set_cons_succ]); (try simp only [List.set_cons_zero])
                      refine wpAnyH_take (i := 7) (oi := { dst := some 66, op := Op.move (Operand.tmp 65), type := 4, pos := "law.go:104", after := #[{ on := 6, ground := Ground.data }, { on := 1, ground := Ground.chain }, { on := 1, ground := Ground.guard }], guard := some (1, false) }) (v := ?vk44) rfl (by kernel_rfl) (by kernel_rfl) (by kernel_rfl) (fun _ _ _ h => h) (Or.inl ⟨by rfl, ?hk44⟩) (B6.old ((Old.refl w8).drew) HBB.out) ?rk44
                      case hk44 => (intro wz hSw; (try dsimp only at hSw); go_simp; try with_reducible rfl)
                      (try simp only [Act.put]); (try simp only [List.setIfInBounds_toArray]); (try simp only [List.set_cons_succ]); (try simp only [List.set_cons_zero])
                      refine wpAnyH_take (i := 8) (oi := { dst := some 67, op := Op.fieldAddr 30 (Operand.tmp 11) 1, type := 0, pos := "law.go:104", after := #[{ on := 7, ground := Ground.guard }], guard := some (7, true) }) (v := ?vk45) rfl (by kernel_rfl) (by kernel_rfl) (by kernel_rfl) (fun _ _ _ h => h) (Or.inl ⟨by rfl, ?hk45⟩) (B6.old ((Old.refl w8).drew) HBB.out) ?rk45
                      case hk45 => (intro wz hSw; (try dsimp only at hSw); go_simp; try with_reducible rfl)
                      (try simp only [Act.put]); (try simp only [List.setIfInBounds_toArray]); (try simp only [List.set_cons_succ]); (try simp only [List.set_cons_zero])
                      refine wpAnyH_take (i := 9) (oi := { dst := some 68, op := Op.load 3 (Operand.tmp 67), type := 3, pos := "law.go:104", after := #[{ on := 8, ground := Ground.data }, { on := 7, ground := Ground.guard }], guard := some (7, true) }) (v := ?vk46) rfl (by kernel_rfl) (by kernel_rfl) (by kernel_rfl) (fun _ _ _ h => h) (Or.inl ⟨by rfl, ?hk46⟩) (B6.old ((Old.refl w8).drew) HBB.out) ?rk46
                      case hk46 => (intro wz hSw; (try dsimp only at hSw); go_simp; try with_reducible rfl)
                      (try simp only [Act.put]); (try simp only [List.setIfInBounds_toArray]); (try simp only [List.set_cons_succ]); (try simp only [List.set_cons_zero])
                      refine wpAnyH_take (i := 10) (oi := { dst := some 69, op := Op.fieldAddr 30 (Operand.tmp 8) 1, type := 0, pos := "law.go:104", after := #[{ on := 7, ground := Ground.guard }], guard := some (7, true) }) (v := ?vk47) rfl (by kernel_rfl) (by kernel_rfl) (by kernel_rfl) (fun _ _ _ h => h) (Or.inl ⟨by rfl, ?hk47⟩) (B6.old ((Old.refl w8).drew) HBB.out) ?rk47
                      case hk47 => (intro wz hSw; (try dsimp only at hSw); go_simp; try with_reducible rfl)
                      (try simp only [Act.put]); (try simp only [List.setIfInBounds_toArray]); (try simp only [List.set_cons_succ]); (try simp only [List.set_cons_zero])
                      refine wpAnyH_take (i := 11) (oi := { dst := some 70, op := Op.load 3 (Operand.tmp 69), type := 3, pos := "law.go:104", after := #[{ on := 10, ground := Ground.data }, { on := 7, ground := Ground.guard }], guard := some (7, true) }) (v := ?vk48) rfl (by kernel_rfl) (by kernel_rfl) (by kernel_rfl) (fun _ _ _ h => h) (Or.inl ⟨by rfl, ?hk48⟩) (B6.old ((Old.refl w8).drew) HBB.out) ?rk48
                      case hk48 => (intro wz hSw; (try dsimp only at hSw); go_simp; try with_reducible rfl)
                      (try simp only [Act.put]); (try simp only [List.setIfInBounds_toArray]); (try simp only [List.set_cons_succ]); (try simp only [List.set_cons_zero])
                      refine wpAnyH_take (i := 12) (oi := { dst := some 71, op := Op.binOp BinOp.eql 3 (Operand.tmp 68) (Operand.tmp 70) 3, type := 4, pos := "law.go:104", after := #[{ on := 9, ground := Ground.data }, { on := 11, ground := Ground.data }, { on := 7, ground := Ground.guard }], guard := some (7, true) }) (v := ?vk49) rfl (by kernel_rfl) (by kernel_rfl) (by kernel_rfl) (fun _ _ _ h => h) (Or.inl ⟨by rfl, ?hk49⟩) (B6.old ((Old.refl w8).drew) HBB.out) ?rk49
                      case hk49 => (intro wz hSw; (try dsimp only at hSw); go_simp; try with_reducible rfl)
                      (try simp only [Act.put]); (try simp only [List.setIfInBounds_toArray]); (try simp only [List.set_cons_succ]); (try simp only [List.set_cons_zero])
                      refine wpAnyH_take (i := 13) (oi := { dst := some 72, op := Op.pick (Operand.tmp 66) (Operand.tmp 71) (Operand.const (Value.bool false)), type := 4, pos := "law.go:104", after := #[{ on := 7, ground := Ground.data }, { on := 12, ground := Ground.data }, { on := 1, ground := Ground.guard }], guard := some (1, false) }) (v := ?vk50) rfl (by kernel_rfl) (by kernel_rfl) (by kernel_rfl) (fun _ _ _ h => h) (Or.inl ⟨by rfl, ?hk50⟩) (B6.old ((Old.refl w8).drew) HBB.out) ?rk50
                      case hk50 => (intro wz hSw; (try dsimp only at hSw); go_simp; try with_reducible rfl)
                      (try simp only [Act.put]); (try simp only [List.setIfInBounds_toArray]); (try simp only [List.set_cons_succ]); (try simp only [List.set_cons_zero])
                      refine wpAnyH_take (i := 14) (oi := { dst := some 73, op := Op.move (Operand.tmp 72), type := 4, pos := "law.go:104", after := #[{ on := 13, ground := Ground.data }, { on := 7, ground := Ground.chain }, { on := 1, ground := Ground.guard }], guard := some (1, false) }) (v := ?vk51) rfl (by kernel_rfl) (by kernel_rfl) (by kernel_rfl) (fun _ _ _ h => h) (Or.inl ⟨by rfl, ?hk51⟩) (B6.old ((Old.refl w8).drew) HBB.out) ?rk51
                      case hk51 => (intro wz hSw; (try dsimp only at hSw); go_simp; try with_reducible rfl)
                      (try simp only [Act.put]); (try simp only [List.setIfInBounds_toArray]); (try simp only [List.set_cons_succ]); (try simp only [List.set_cons_zero])
                      refine wpAnyH_take (i := 15) (oi := { dst := some 74, op := Op.fieldAddr 30 (Operand.tmp 8) 2, type := 0, pos := "law.go:104", after := #[{ on := 14, ground := Ground.guard }], guard := some (14, true) }) (v := ?vk52) rfl (by kernel_rfl) (by kernel_rfl) (by kernel_rfl) (fun _ _ _ h => h) (Or.inl ⟨by rfl, ?hk52⟩) (B6.old ((Old.refl w8).drew) HBB.out) ?rk52
                      case hk52 => (intro wz hSw; (try dsimp only at hSw); go_simp; try with_reducible rfl)
                      (try simp only [Act.put]); (try simp only [List.setIfInBounds_toArray]); (try simp only [List.set_cons_succ]); (try simp only [List.set_cons_zero])
                      refine wpAnyH_take (i := 16) (oi := { dst := some 75, op := Op.load 26 (Operand.tmp 74), type := 26, pos := "law.go:104", after := #[{ on := 15, ground := Ground.data }, { on := 14, ground := Ground.guard }], guard := some (14, true) }) (v := ?vk53) rfl (by kernel_rfl) (by kernel_rfl) (by kernel_rfl) (fun _ _ _ h => h) (Or.inl ⟨by rfl, ?hk53⟩) (B6.old ((Old.refl w8).drew) HBB.out) ?rk53
                      case hk53 => (intro wz hSw; (try dsimp only at hSw); go_simp; try with_reducible rfl)
                      (try simp only [Act.put]); (try simp only [List.setIfInBounds_toArray]); (try simp only [List.set_cons_succ]); (try simp only [List.set_cons_zero])
                      refine wpAnyH_take (i := 17) (oi := { dst := some 76, op := Op.call { callee := Callee.builtin Builtin.len, args := #[Operand.tmp 75], argTypes := #[26] }, type := 3, pos := "law.go:104", after := #[{ on := 16, ground := Ground.data }, { on := 14, ground := Ground.guard }], guard := some (14, true) }) (v := ?vk54) rfl (by kernel_rfl) (by kernel_rfl) (by kernel_rfl) (fun _ _ _ h => h) (Or.inl ⟨by rfl, ?hk54⟩) (B6.old ((Old.refl w8).drew) HBB.out) ?rk54
                      case hk54 => (intro wz hSw; (try dsimp only at hSw); go_simp; try with_reducible rfl)
                      (try simp only [Act.put]); (try simp only [List.setIfInBounds_toArray]); (try simp only [List.set_cons_succ]); (try simp only [List.set_cons_zero])
                      refine wpAnyH_take (i := 18) (oi := { dst := some 77, op := Op.fieldAddr 30 (Operand.tmp 11) 2, type := 0, pos := "law.go:104", after := #[{ on := 14, ground := Ground.guard }], guard := some (14, true) }) (v := ?vk55) rfl (by kernel_rfl) (by kernel_rfl) (by kernel_rfl) (fun _ _ _ h => h) (Or.inl ⟨by rfl, ?hk55⟩) (B6.old ((Old.refl w8).drew) HBB.out) ?rk55
                      case hk55 => (intro wz hSw; (try dsimp only at hSw); go_simp; try with_reducible rfl)
                      (try simp only [Act.put]); (try simp only [List.setIfInBounds_toArray]); (try simp only [List.set_cons_succ]); (try simp only [List.set_cons_zero])
                      refine wpAnyH_take (i := 19) (oi := { dst := some 78, op := Op.load 26 (Operand.tmp 77), type := 26, pos := "law.go:104", after := #[{ on := 18, ground := Ground.data }, { on := 14, ground := Ground.guard }], guard := some (14, true) }) (v := ?vk56) rfl (by kernel_rfl) (by kernel_rfl) (by kernel_rfl) (fun _ _ _ h => h) (Or.inl ⟨by rfl, ?hk56⟩) (B6.old ((Old.refl w8).drew) HBB.out) ?rk56
                      case hk56 => (intro wz hSw; (try dsimp only at hSw); go_simp; try with_reducible rfl)
                      (try simp only [Act.put]); (try simp only [List.setIfInBounds_toArray]); (try simp only [List.set_cons_succ]); (try simp only [List.set_cons_zero])
                      refine wpAnyH_take (i := 20) (oi := { dst := some 79, op := Op.call { callee := Callee.builtin Builtin.len, args := #[Operand.tmp 78], argTypes := #[26] }, type := 3, pos := "law.go:104", after := #[{ on := 19, ground := Ground.data }, { on := 14, ground := Ground.guard }], guard := some (14, true) }) (v := ?vk57) rfl (by kernel_rfl) (by kernel_rfl) (by kernel_rfl) (fun _ _ _ h => h) (Or.inl ⟨by rfl, ?hk57⟩) (B6.old ((Old.refl w8).drew) HBB.out) ?rk57
                      case hk57 => (intro wz hSw; (try dsimp only at hSw); go_simp; try with_reducible rfl)
                      (try simp only [Act.put]); (try simp only [List.setIfInBounds_toArray]); (try simp only [List.set_cons_succ]); (try simp only [List.set_cons_zero])
                      refine wpAnyH_take (i := 21) (oi := { dst := some 80, op := Op.binOp BinOp.leq 3 (Operand.tmp 76) (Operand.tmp 79) 3, type := 4, pos := "law.go:104", after := #[{ on := 17, ground := Ground.data }, { on := 20, ground := Ground.data }, { on := 14, ground := Ground.guard }], guard := some (14, true) }) (v := ?vk58) rfl (by kernel_rfl) (by kernel_rfl) (by kernel_rfl) (fun _ _ _ h => h) (Or.inl ⟨by rfl, ?hk58⟩) (B6.old ((Old.refl w8).drew) HBB.out) ?rk58
                      case hk58 => (intro wz hSw; (try dsimp only at hSw); go_simp; try with_reducible rfl)
                      (try simp only [Act.put]); (try simp only [List.setIfInBounds_toArray]); (try simp only [List.set_cons_succ]); (try simp only [List.set_cons_zero])
                      refine wpAnyH_take (i := 22) (oi := { dst := some 81, op := Op.pick (Operand.tmp 73) (Operand.tmp 80) (Operand.const (Value.bool false)), type := 4, pos := "law.go:104", after := #[{ on := 14, ground := Ground.data }, { on := 21, ground := Ground.data }, { on := 1, ground := Ground.guard }], guard := some (1, false) }) (v := ?vk59) rfl (by kernel_rfl) (by kernel_rfl) (by kernel_rfl) (fun _ _ _ h => h) (Or.inl ⟨by rfl, ?hk59⟩) (B6.old ((Old.refl w8).drew) HBB.out) ?rk59
                      case hk59 => (intro wz hSw; (try dsimp only at hSw); go_simp; try with_reducible rfl)
                      (try simp only [Act.put]); (try simp only [List.setIfInBounds_toArray]); (try simp only [List.set_cons_succ]); (try simp only [List.set_cons_zero])
                      refine wpAnyH_take (i := 23) (oi := { dst := some 82, op := Op.move (Operand.tmp 81), type := 4, pos := "law.go:104", after := #[{ on := 22, ground := Ground.data }, { on := 14, ground := Ground.chain }, { on := 1, ground := Ground.guard }], guard := some (1, false) }) (v := ?vk60) rfl (by kernel_rfl) (by kernel_rfl) (by kernel_rfl) (fun _ _ _ h => h) (Or.inl ⟨by rfl, ?hk60⟩) (B6.old ((Old.refl w8).drew) HBB.out) ?rk60
                      case hk60 => (intro wz hSw; (try dsimp only at hSw); go_simp; try with_reducible rfl)
                      (try simp only [Act.put]); (try simp only [List.setIfInBounds_toArray]); (try simp only [List.set_cons_succ]); (try simp only [List.set_cons_zero])
                      refine wpAnyH_take (i := 24) (oi := { dst := some 83, op := Op.fieldAddr 30 (Operand.tmp 8) 2, type := 0, pos := "law.go:104", after := #[{ on := 23, ground := Ground.guard }], guard := some (23, true) }) (v := undef) rfl (by kernel_rfl) (by kernel_rfl) (by kernel_rfl) (fun _ _ _ h => h) (Or.inr ⟨by rfl, rfl⟩) (B6.old ((Old.refl w8).drew) HBB.out) ?_
                      (try simp only [Act.put]); (try simp only [List.setIfInBounds_toArray]); (try simp only [List.set_cons_succ]); (try simp only [List.set_cons_zero])
                      refine wpAnyH_take (i := 25) (oi := { dst := some 84, op := Op.load 26 (Operand.tmp 83), type := 26, pos := "law.go:104", after := #[{ on := 24, ground := Ground.data }, { on := 23, ground := Ground.guard }], guard := some (23, true) }) (v := undef) rfl (by kernel_rfl) (by kernel_rfl) (by kernel_rfl) (fun _ _ _ h => h) (Or.inr ⟨by rfl, rfl⟩) (B6.old ((Old.refl w8).drew) HBB.out) ?_
                      (try simp only [Act.put]); (try simp only [List.setIfInBounds_toArray]); (try simp only [List.set_cons_succ]); (try simp only [List.set_cons_zero])
                      refine wpAnyH_take (i := 26) (oi := { dst := some 85, op := Op.fieldAddr 30 (Operand.tmp 11) 2, type := 0, pos := "law.go:104", after := #[{ on := 23, ground := Ground.guard }], guard := some (23, true) }) (v := undef) rfl (by kernel_rfl) (by kernel_rfl) (by kernel_rfl) (fun _ _ _ h => h) (Or.inr ⟨by rfl, rfl⟩) (B6.old ((Old.refl w8).drew) HBB.out) ?_
                      (try simp only [Act.put]); (try simp only [List.setIfInBounds_toArray]); (try simp only [List.set_cons_succ]); (try simp only [List.set_cons_zero])
                      refine wpAnyH_take (i := 27) (oi := { dst := some 86, op := Op.load 26 (Operand.tmp 85), type := 26, pos := "law.go:104", after := #[{ on := 26, ground := Ground.data }, { on := 23, ground := Ground.guard }], guard := some (23, true) }) (v := undef) rfl (by kernel_rfl) (by kernel_rfl) (by kernel_rfl) (fun _ _ _ h => h) (Or.inr ⟨by rfl, rfl⟩) (B6.old ((Old.refl w8).drew) HBB.out) ?_
                      (try simp only [Act.put]); (try simp only [List.setIfInBounds_toArray]); (try simp only [List.set_cons_succ]); (try simp only [List.set_cons_zero])
                      refine wpAnyH_take (i := 28) (oi := { dst := some 87, op := Op.fieldAddr 30 (Operand.tmp 8) 2, type := 0, pos := "law.go:104", after := #[{ on := 23, ground := Ground.guard }], guard := some (23, true) }) (v := undef) rfl (by kernel_rfl) (by kernel_rfl) (by kernel_rfl) (fun _ _ _ h => h) (Or.inr ⟨by rfl, rfl⟩) (B6.old ((Old.refl w8).drew) HBB.out) ?_
                      (try simp only [Act.put]); (try simp only [List.setIfInBounds_toArray]); (try simp only [List.set_cons_succ]); (try simp only [List.set_cons_zero])
                      refine wpAnyH_take (i := 29) (oi := { dst := some 88, op := Op.load 26 (Operand.tmp 87), type := 26, pos := "law.go:104", after := #[{ on := 28, ground := Ground.data }, { on := 23, ground := Ground.guard }], guard := some (23, true) }) (v := undef) rfl (by kernel_rfl) (by kernel_rfl) (by kernel_rfl) (fun _ _ _ h => h) (Or.inr ⟨by rfl, rfl⟩) (B6.old ((Old.refl w8).drew) HBB.out) ?_
                      (try simp only [Act.put]); (try simp only [List.setIfInBounds_toArray]); (try simp only [List.set_cons_succ]); (try simp only [List.set_cons_zero])
                      refine wpAnyH_take (i := 30) (oi := { dst := some 89, op := Op.call { callee := Callee.builtin Builtin.len, args := #[Operand.tmp 88], argTypes := #[26] }, type := 3, pos := "law.go:104", after := #[{ on := 29, ground := Ground.data }, { on := 23, ground := Ground.guard }], guard := some (23, true) }) (v := undef) rfl (by kernel_rfl) (by kernel_rfl) (by kernel_rfl) (fun _ _ _ h => h) (Or.inr ⟨by rfl, rfl⟩) (B6.old ((Old.refl w8).drew) HBB.out) ?_
                      (try simp only [Act.put]); (try simp only [List.setIfInBounds_toArray]); (try simp only [List.set_cons_succ]); (try simp only [List.set_cons_zero])
                      refine wpAnyH_take (i := 31) (oi := { dst := some 90, op := Op.slice 26 (Operand.tmp 86) none (some (Operand.tmp 89)) none, type := 26, pos := "law.go:104", after := #[{ on := 27, ground := Ground.data }, { on := 30, ground := Ground.data }, { on := 23, ground := Ground.guard }], guard := some (23, true) }) (v := undef) rfl (by kernel_rfl) (by kernel_rfl) (by kernel_rfl) (fun _ _ _ h => h) (Or.inr ⟨by rfl, rfl⟩) (B6.old ((Old.refl w8).drew) HBB.out) ?_
                      (try simp only [Act.put]); (try simp only [List.setIfInBounds_toArray]); (try simp only [List.set_cons_succ]); (try simp only [List.set_cons_zero])
                      refine wpAnyH_take (i := 32) (oi := { dst := some 91, op := Op.call { callee := Callee.value (Operand.func 10), args := #[Operand.tmp 84, Operand.tmp 90], argTypes := #[26, 26] }, type := 4, pos := "law.go:104", after := #[{ on := 25, ground := Ground.data }, { on := 31, ground := Ground.data }, { on := 23, ground := Ground.chain }, { on := 23, ground := Ground.guard }], guard := some (23, true) }) (v := undef) rfl (by kernel_rfl) (by kernel_rfl) (by kernel_rfl) (fun _ _ _ h => h) (Or.inr ⟨by rfl, rfl⟩) (B6.old ((Old.refl w8).drew) HBB.out) ?_
                      (try simp only [Act.put]); (try simp only [List.setIfInBounds_toArray]); (try simp only [List.set_cons_succ]); (try simp only [List.set_cons_zero])
                      refine wpAnyH_take (i := 33) (oi := { dst := some 92, op := Op.pick (Operand.tmp 82) (Operand.tmp 91) (Operand.const (Value.bool false)), type := 4, pos := "law.go:104", after := #[{ on := 23, ground := Ground.data }, { on := 32, ground := Ground.data }, { on := 1, ground := Ground.guard }], guard := some (1, false) }) (v := ?vk61) rfl (by kernel_rfl) (by kernel_rfl) (by kernel_rfl) (fun _ _ _ h => h) (Or.inl ⟨by rfl, ?hk61⟩) (B6.old ((Old.refl w8).drew) HBB.out) ?rk61
                      case hk61 => (intro wz hSw; (try dsimp only at hSw); go_simp; try with_reducible rfl)
                      (try simp only [Act.put]); (try simp only [List.setIfInBounds_toArray]); (try simp only [List.set_cons_succ]); (try simp only [List.set_cons_zero])
                      refine wpAnyH_take (i := 34) (oi := { dst := some 93, op := Op.pick (Operand.tmp 60) (Operand.const (Value.bool true)) (Operand.tmp 92), type := 4, pos := "law.go:104", after := #[{ on := 1, ground := Ground.data }, { on := 33, ground := Ground.data }], guard := none }) (v := ?vk62) rfl (by kernel_rfl) (by kernel_rfl) (by kernel_rfl) (fun _ _ _ h => h) (Or.inl ⟨by rfl, ?hk62⟩) (B6.old ((Old.refl w8).drew) HBB.out) ?rk62
                      case hk62 => (intro wz hSw; (try dsimp only at hSw); go_simp; try with_reducible rfl)
                      (try simp only [Act.put]); (try simp only [List.setIfInBounds_toArray]); (try simp only [List.set_cons_succ]); (try simp only [List.set_cons_zero])
                      refine wpAnyH_ready (rs := [35]) (by kernel_rfl) (by simp) ?_
                      refine AllReadyH.cons (o := { dst := some 9, op := Op.assign (Operand.tmp 93), type := 4, pos := "law.go:104", after := #[{ on := 34, ground := Ground.data }, { on := 32, ground := Ground.chain }, { on := 0, ground := Ground.phase }, { on := 1, ground := Ground.phase }, { on := 2, ground := Ground.phase }, { on := 3, ground := Ground.phase }, { on := 4, ground := Ground.phase }, { on := 5, ground := Ground.phase }, { on := 6, ground := Ground.phase }, { on := 7, ground := Ground.phase }, { on := 8, ground := Ground.phase }, { on := 9, ground := Ground.phase }, { on := 10, ground := Ground.phase }, { on := 11, ground := Ground.phase }, { on := 12, ground := Ground.phase }, { on := 13, ground := Ground.phase }, { on := 14, ground := Ground.phase }, { on := 15, ground := Ground.phase }, { on := 16, ground := Ground.phase }, { on := 17, ground := Ground.phase }, { on := 18, ground := Ground.phase }, { on := 19, ground := Ground.phase }, { on := 20, ground := Ground.phase }, { on := 21, ground := Ground.phase }, { on := 22, ground := Ground.phase }, { on := 23, ground := Ground.phase }, { on := 24, ground := Ground.phase }, { on := 25, ground := Ground.phase }, { on := 26, ground := Ground.phase }, { on := 27, ground := Ground.phase }, { on := 28, ground := Ground.phase }, { on := 29, ground := Ground.phase }, { on := 30, ground := Ground.phase }, { on := 31, ground := Ground.phase }, { on := 32, ground := Ground.phase }, { on := 33, ground := Ground.phase }, { on := 34, ground := Ground.phase }], guard := none }) rfl (fun K hK => ?_) AllReadyH.nil
                      go_simp
                      refine hK.out _ _ (B6.old ((Old.refl w8).drew) HBB.out) (fun _ => ?_)
                      clear hK K
                      (try simp only [Act.put]); (try simp only [List.setIfInBounds_toArray]); (try simp only [List.set_cons_succ]); (try simp only [List.set_cons_zero])
                      refine wpAnyH_done (by kernel_rfl) ?_ _
                      refine NoPanic.normal ?_
                      have UZ := hid ((Old.refl w8).drew)
                      go_wp2
                      go_roundw
                      case rel => exact ⟨t + 1, hlt, by go_num, by rw [HE.out], HU3.out.trans UZ.out⟩
                      case measure => simp [intOf]; omega
                  · have HE := hid (show fndB (X.map Lt.p) xp (t + 1) = false from by rw [HSu.out, decide_eq_false ct]; simp)
                    have g1 : (st == xt) = false := by rw [beq_eq_false_iff_ne]; exact ct
                    clear HSu HSB HCap
                    refine wp_region_noPanic ?_
                    refine wp_region_held_drew (S := fun wz => (wz.cell? ⟨bl, 0, none⟩ = some (.int .i64 xf) ∧ wz.cell? ⟨bl, 1, none⟩ = some (.int .i64 xt) ∧ wz.cell? ⟨bl, 2, none⟩ = some (.slice xa xl xc)) ∧ wz.cell? ⟨bs, 0, none⟩ = some (.int .i64 xf) ∧ wz.cell? ⟨bs, 1, none⟩ = some (.int .i64 st) ∧ wz.cell? ⟨bs, 2, none⟩ = some (.slice sa sL.length sc)) (by kernel_rfl) ?_ (fun hHeld => ?_)
                    · exact B6.old ((Old.refl _).drew) HBB.out
                    (try simp only [Act.put]); (try simp only [List.setIfInBounds_toArray]); (try simp only [List.set_cons_succ]); (try simp only [List.set_cons_zero])
                    clear hHeld
                    refine wpAnyH_take (i := 0) (oi := { dst := some 59, op := Op.move (Operand.tmp 9), type := 4, pos := "law.go:104", after := #[], guard := none }) (v := ?vk18) rfl (by kernel_rfl) (by kernel_rfl) (by kernel_rfl) (fun _ _ _ h => h) (Or.inl ⟨by rfl, ?hk18⟩) (B6.old ((Old.refl w8).drew) HBB.out) ?rk18
                    case hk18 => (intro wz hSw; (try dsimp only at hSw); go_simp; try with_reducible rfl)
                    (try simp only [Act.put]); (try simp only [List.setIfInBounds_toArray]); (try simp only [List.set_cons_succ]); (try simp only [List.set_cons_zero])
                    refine wpAnyH_take (i := 1) (oi := { dst := some 60, op := Op.move (Operand.tmp 59), type := 4, pos := "law.go:104", after := #[{ on := 0, ground := Ground.data }], guard := none }) (v := ?vk19) rfl (by kernel_rfl) (by kernel_rfl) (by kernel_rfl) (fun _ _ _ h => h) (Or.inl ⟨by rfl, ?hk19⟩) (B6.old ((Old.refl w8).drew) HBB.out) ?rk19
                    case hk19 => (intro wz hSw; (try dsimp only at hSw); go_simp; try with_reducible rfl)
                    (try simp only [Act.put]); (try simp only [List.setIfInBounds_toArray]); (try simp only [List.set_cons_succ]); (try simp only [List.set_cons_zero])
                    refine wpAnyH_take (i := 2) (oi := { dst := some 61, op := Op.fieldAddr 30 (Operand.tmp 11) 0, type := 0, pos := "law.go:104", after := #[{ on := 1, ground := Ground.guard }], guard := some (1, false) }) (v := ?vk20) rfl (by kernel_rfl) (by kernel_rfl) (by kernel_rfl) (fun _ _ _ h => h) (Or.inl ⟨by rfl, ?hk20⟩) (B6.old ((Old.refl w8).drew) HBB.out) ?rk20
                    case hk20 => (intro wz hSw; (try dsimp only at hSw); go_simp; try with_reducible rfl)
                    (try simp only [Act.put]); (try simp only [List.setIfInBounds_toArray]); (try simp only [List.set_cons_succ]); (try simp only [List.set_cons_zero])
                    refine wpAnyH_take (i := 3) (oi := { dst := some 62, op := Op.load 3 (Operand.tmp 61), type := 3, pos := "law.go:104", after := #[{ on := 2, ground := Ground.data }, { on := 1, ground := Ground.guard }], guard := some (1, false) }) (v := ?vk21) rfl (by kernel_rfl) (by kernel_rfl) (by kernel_rfl) (fun _ _ _ h => h) (Or.inl ⟨by rfl, ?hk21⟩) (B6.old ((Old.refl w8).drew) HBB.out) ?rk21
                    case hk21 => (intro wz hSw; (try dsimp only at hSw); go_simp; try with_reducible rfl)
                    (try simp only [Act.put]); (try simp only [List.setIfInBounds_toArray]); (try simp only [List.set_cons_succ]); (try simp only [List.set_cons_zero])
                    refine wpAnyH_take (i := 4) (oi := { dst := some 63, op := Op.fieldAddr 30 (Operand.tmp 8) 0, type := 0, pos := "law.go:104", after := #[{ on := 1, ground := Ground.guard }], guard := some (1, false) }) (v := ?vk22) rfl (by kernel_rfl) (by kernel_rfl) (by kernel_rfl) (fun _ _ _ h => h) (Or.inl ⟨by rfl, ?hk22⟩) (B6.old ((Old.refl w8).drew) HBB.out) ?rk22
                    case hk22 => (intro wz hSw; (try dsimp only at hSw); go_simp; try with_reducible rfl)
                    (try simp only [Act.put]); (try simp only [List.setIfInBounds_toArray]); (try simp only [List.set_cons_succ]); (try simp only [List.set_cons_zero])
                    refine wpAnyH_take (i := 5) (oi := { dst := some 64, op := Op.load 3 (Operand.tmp 63), type := 3, pos := "law.go:104", after := #[{ on := 4, ground := Ground.data }, { on := 1, ground := Ground.guard }], guard := some (1, false) }) (v := ?vk23) rfl (by kernel_rfl) (by kernel_rfl) (by kernel_rfl) (fun _ _ _ h => h) (Or.inl ⟨by rfl, ?hk23⟩) (B6.old ((Old.refl w8).drew) HBB.out) ?rk23
                    case hk23 => (intro wz hSw; (try dsimp only at hSw); go_simp; try with_reducible rfl)
                    (try simp only [Act.put]); (try simp only [List.setIfInBounds_toArray]); (try simp only [List.set_cons_succ]); (try simp only [List.set_cons_zero])
                    refine wpAnyH_take (i := 6) (oi := { dst := some 65, op := Op.binOp BinOp.eql 3 (Operand.tmp 62) (Operand.tmp 64) 3, type := 4, pos := "law.go:104", after := #[{ on := 3, ground := Ground.data }, { on := 5, ground := Ground.data }, { on := 1, ground := Ground.guard }], guard := some (1, false) }) (v := ?vk24) rfl (by kernel_rfl) (by kernel_rfl) (by kernel_rfl) (fun _ _ _ h => h) (Or.inl ⟨by rfl, ?hk24⟩) (B6.old ((Old.refl w8).drew) HBB.out) ?rk24
                    case hk24 => (intro wz hSw; (try dsimp only at hSw); go_simp; try with_reducible rfl)
                    (try simp only [Act.put]); (try simp only [List.setIfInBounds_toArray]); (try simp only [List.set_cons_succ]); (try simp only [List.set_cons_zero])
                    refine wpAnyH_take (i := 7) (oi := { dst := some 66, op := Op.move (Operand.tmp 65), type := 4, pos := "law.go:104", after := #[{ on := 6, ground := Ground.data }, { on := 1, ground := Ground.chain }, { on := 1, ground := Ground.guard }], guard := some (1, false) }) (v := ?vk25) rfl (by kernel_rfl) (by kernel_rfl) (by kernel_rfl) (fun _ _ _ h => h) (Or.inl ⟨by rfl, ?hk25⟩) (B6.old ((Old.refl w8).drew) HBB.out) ?rk25
                    case hk25 => (intro wz hSw; (try dsimp only at hSw); go_simp; try with_reducible rfl)
                    (try simp only [Act.put]); (try simp only [List.setIfInBounds_toArray]); (try simp only [List.set_cons_succ]); (try simp only [List.set_cons_zero])
                    refine wpAnyH_take (i := 8) (oi := { dst := some 67, op := Op.fieldAddr 30 (Operand.tmp 11) 1, type := 0, pos := "law.go:104", after := #[{ on := 7, ground := Ground.guard }], guard := some (7, true) }) (v := ?vk26) rfl (by kernel_rfl) (by kernel_rfl) (by kernel_rfl) (fun _ _ _ h => h) (Or.inl ⟨by rfl, ?hk26⟩) (B6.old ((Old.refl w8).drew) HBB.out) ?rk26
                    case hk26 => (intro wz hSw; (try dsimp only at hSw); go_simp; try with_reducible rfl)
                    (try simp only [Act.put]); (try simp only [List.setIfInBounds_toArray]); (try simp only [List.set_cons_succ]); (try simp only [List.set_cons_zero])
                    refine wpAnyH_take (i := 9) (oi := { dst := some 68, op := Op.load 3 (Operand.tmp 67), type := 3, pos := "law.go:104", after := #[{ on := 8, ground := Ground.data }, { on := 7, ground := Ground.guard }], guard := some (7, true) }) (v := ?vk27) rfl (by kernel_rfl) (by kernel_rfl) (by kernel_rfl) (fun _ _ _ h => h) (Or.inl ⟨by rfl, ?hk27⟩) (B6.old ((Old.refl w8).drew) HBB.out) ?rk27
                    case hk27 => (intro wz hSw; (try dsimp only at hSw); go_simp; try with_reducible rfl)
                    (try simp only [Act.put]); (try simp only [List.setIfInBounds_toArray]); (try simp only [List.set_cons_succ]); (try simp only [List.set_cons_zero])
                    refine wpAnyH_take (i := 10) (oi := { dst := some 69, op := Op.fieldAddr 30 (Operand.tmp 8) 1, type := 0, pos := "law.go:104", after := #[{ on := 7, ground := Ground.guard }], guard := some (7, true) }) (v := ?vk28) rfl (by kernel_rfl) (by kernel_rfl) (by kernel_rfl) (fun _ _ _ h => h) (Or.inl ⟨by rfl, ?hk28⟩) (B6.old ((Old.refl w8).drew) HBB.out) ?rk28
                    case hk28 => (intro wz hSw; (try dsimp only at hSw); go_simp; try with_reducible rfl)
                    (try simp only [Act.put]); (try simp only [List.setIfInBounds_toArray]); (try simp only [List.set_cons_succ]); (try simp only [List.set_cons_zero])
                    refine wpAnyH_take (i := 11) (oi := { dst := some 70, op := Op.load 3 (Operand.tmp 69), type := 3, pos := "law.go:104", after := #[{ on := 10, ground := Ground.data }, { on := 7, ground := Ground.guard }], guard := some (7, true) }) (v := ?vk29) rfl (by kernel_rfl) (by kernel_rfl) (by kernel_rfl) (fun _ _ _ h => h) (Or.inl ⟨by rfl, ?hk29⟩) (B6.old ((Old.refl w8).drew) HBB.out) ?rk29
                    case hk29 => (intro wz hSw; (try dsimp only at hSw); go_simp; try with_reducible rfl)
                    (try simp only [Act.put]); (try simp only [List.setIfInBounds_toArray]); (try simp only [List.set_cons_succ]); (try simp only [List.set_cons_zero])
                    refine wpAnyH_take (i := 12) (oi := { dst := some 71, op := Op.binOp BinOp.eql 3 (Operand.tmp 68) (Operand.tmp 70) 3, type := 4, pos := "law.go:104", after := #[{ on := 9, ground := Ground.data }, { on := 11, ground := Ground.data }, { on := 7, ground := Ground.guard }], guard := some (7, true) }) (v := ?vk30) rfl (by kernel_rfl) (by kernel_rfl) (by kernel_rfl) (fun _ _ _ h => h) (Or.inl ⟨by rfl, ?hk30⟩) (B6.old ((Old.refl w8).drew) HBB.out) ?rk30
                    case hk30 => (intro wz hSw; (try dsimp only at hSw); go_simp; try with_reducible rfl)
                    (try simp only [Act.put]); (try simp only [List.setIfInBounds_toArray]); (try simp only [List.set_cons_succ]); (try simp only [List.set_cons_zero])
                    refine wpAnyH_take (i := 13) (oi := { dst := some 72, op := Op.pick (Operand.tmp 66) (Operand.tmp 71) (Operand.const (Value.bool false)), type := 4, pos := "law.go:104", after := #[{ on := 7, ground := Ground.data }, { on := 12, ground := Ground.data }, { on := 1, ground := Ground.guard }], guard := some (1, false) }) (v := ?vk31) rfl (by kernel_rfl) (by kernel_rfl) (by kernel_rfl) (fun _ _ _ h => h) (Or.inl ⟨by rfl, ?hk31⟩) (B6.old ((Old.refl w8).drew) HBB.out) ?rk31
                    case hk31 => (intro wz hSw; (try dsimp only at hSw); go_simp; try with_reducible rfl)
                    (try simp only [Act.put]); (try simp only [List.setIfInBounds_toArray]); (try simp only [List.set_cons_succ]); (try simp only [List.set_cons_zero])
                    refine wpAnyH_take (i := 14) (oi := { dst := some 73, op := Op.move (Operand.tmp 72), type := 4, pos := "law.go:104", after := #[{ on := 13, ground := Ground.data }, { on := 7, ground := Ground.chain }, { on := 1, ground := Ground.guard }], guard := some (1, false) }) (v := ?vk32) rfl (by kernel_rfl) (by kernel_rfl) (by kernel_rfl) (fun _ _ _ h => h) (Or.inl ⟨by rfl, ?hk32⟩) (B6.old ((Old.refl w8).drew) HBB.out) ?rk32
                    case hk32 => (intro wz hSw; (try dsimp only at hSw); go_simp; try with_reducible rfl)
                    (try simp only [Act.put]); (try simp only [List.setIfInBounds_toArray]); (try simp only [List.set_cons_succ]); (try simp only [List.set_cons_zero])
                    refine wpAnyH_take (i := 15) (oi := { dst := some 74, op := Op.fieldAddr 30 (Operand.tmp 8) 2, type := 0, pos := "law.go:104", after := #[{ on := 14, ground := Ground.guard }], guard := some (14, true) }) (v := undef) rfl (by kernel_rfl) (by kernel_rfl) (by kernel_rfl) (fun _ _ _ h => h) (Or.inr ⟨by rfl, rfl⟩) (B6.old ((Old.refl w8).drew) HBB.out) ?_
                    (try simp only [Act.put]); (try simp only [List.setIfInBounds_toArray]); (try simp only [List.set_cons_succ]); (try simp only [List.set_cons_zero])
                    refine wpAnyH_take (i := 16) (oi := { dst := some 75, op := Op.load 26 (Operand.tmp 74), type := 26, pos := "law.go:104", after := #[{ on := 15, ground := Ground.data }, { on := 14, ground := Ground.guard }], guard := some (14, true) }) (v := undef) rfl (by kernel_rfl) (by kernel_rfl) (by kernel_rfl) (fun _ _ _ h => h) (Or.inr ⟨by rfl, rfl⟩) (B6.old ((Old.refl w8).drew) HBB.out) ?_
                    (try simp only [Act.put]); (try simp only [List.setIfInBounds_toArray]); (try simp only [List.set_cons_succ]); (try simp only [List.set_cons_zero])
                    refine wpAnyH_take (i := 17) (oi := { dst := some 76, op := Op.call { callee := Callee.builtin Builtin.len, args := #[Operand.tmp 75], argTypes := #[26] }, type := 3, pos := "law.go:104", after := #[{ on := 16, ground := Ground.data }, { on := 14, ground := Ground.guard }], guard := some (14, true) }) (v := undef) rfl (by kernel_rfl) (by kernel_rfl) (by kernel_rfl) (fun _ _ _ h => h) (Or.inr ⟨by rfl, rfl⟩) (B6.old ((Old.refl w8).drew) HBB.out) ?_
                    (try simp only [Act.put]); (try simp only [List.setIfInBounds_toArray]); (try simp only [List.set_cons_succ]); (try simp only [List.set_cons_zero])
                    refine wpAnyH_take (i := 18) (oi := { dst := some 77, op := Op.fieldAddr 30 (Operand.tmp 11) 2, type := 0, pos := "law.go:104", after := #[{ on := 14, ground := Ground.guard }], guard := some (14, true) }) (v := undef) rfl (by kernel_rfl) (by kernel_rfl) (by kernel_rfl) (fun _ _ _ h => h) (Or.inr ⟨by rfl, rfl⟩) (B6.old ((Old.refl w8).drew) HBB.out) ?_
                    (try simp only [Act.put]); (try simp only [List.setIfInBounds_toArray]); (try simp only [List.set_cons_succ]); (try simp only [List.set_cons_zero])
                    refine wpAnyH_take (i := 19) (oi := { dst := some 78, op := Op.load 26 (Operand.tmp 77), type := 26, pos := "law.go:104", after := #[{ on := 18, ground := Ground.data }, { on := 14, ground := Ground.guard }], guard := some (14, true) }) (v := undef) rfl (by kernel_rfl) (by kernel_rfl) (by kernel_rfl) (fun _ _ _ h => h) (Or.inr ⟨by rfl, rfl⟩) (B6.old ((Old.refl w8).drew) HBB.out) ?_
                    (try simp only [Act.put]); (try simp only [List.setIfInBounds_toArray]); (try simp only [List.set_cons_succ]); (try simp only [List.set_cons_zero])
                    refine wpAnyH_take (i := 20) (oi := { dst := some 79, op := Op.call { callee := Callee.builtin Builtin.len, args := #[Operand.tmp 78], argTypes := #[26] }, type := 3, pos := "law.go:104", after := #[{ on := 19, ground := Ground.data }, { on := 14, ground := Ground.guard }], guard := some (14, true) }) (v := undef) rfl (by kernel_rfl) (by kernel_rfl) (by kernel_rfl) (fun _ _ _ h => h) (Or.inr ⟨by rfl, rfl⟩) (B6.old ((Old.refl w8).drew) HBB.out) ?_
                    (try simp only [Act.put]); (try simp only [List.setIfInBounds_toArray]); (try simp only [List.set_cons_succ]); (try simp only [List.set_cons_zero])
                    refine wpAnyH_take (i := 21) (oi := { dst := some 80, op := Op.binOp BinOp.leq 3 (Operand.tmp 76) (Operand.tmp 79) 3, type := 4, pos := "law.go:104", after := #[{ on := 17, ground := Ground.data }, { on := 20, ground := Ground.data }, { on := 14, ground := Ground.guard }], guard := some (14, true) }) (v := undef) rfl (by kernel_rfl) (by kernel_rfl) (by kernel_rfl) (fun _ _ _ h => h) (Or.inr ⟨by rfl, rfl⟩) (B6.old ((Old.refl w8).drew) HBB.out) ?_
                    (try simp only [Act.put]); (try simp only [List.setIfInBounds_toArray]); (try simp only [List.set_cons_succ]); (try simp only [List.set_cons_zero])
                    refine wpAnyH_take (i := 22) (oi := { dst := some 81, op := Op.pick (Operand.tmp 73) (Operand.tmp 80) (Operand.const (Value.bool false)), type := 4, pos := "law.go:104", after := #[{ on := 14, ground := Ground.data }, { on := 21, ground := Ground.data }, { on := 1, ground := Ground.guard }], guard := some (1, false) }) (v := ?vk33) rfl (by kernel_rfl) (by kernel_rfl) (by kernel_rfl) (fun _ _ _ h => h) (Or.inl ⟨by rfl, ?hk33⟩) (B6.old ((Old.refl w8).drew) HBB.out) ?rk33
                    case hk33 => (intro wz hSw; (try dsimp only at hSw); go_simp; try with_reducible rfl)
                    (try simp only [Act.put]); (try simp only [List.setIfInBounds_toArray]); (try simp only [List.set_cons_succ]); (try simp only [List.set_cons_zero])
                    refine wpAnyH_take (i := 23) (oi := { dst := some 82, op := Op.move (Operand.tmp 81), type := 4, pos := "law.go:104", after := #[{ on := 22, ground := Ground.data }, { on := 14, ground := Ground.chain }, { on := 1, ground := Ground.guard }], guard := some (1, false) }) (v := ?vk34) rfl (by kernel_rfl) (by kernel_rfl) (by kernel_rfl) (fun _ _ _ h => h) (Or.inl ⟨by rfl, ?hk34⟩) (B6.old ((Old.refl w8).drew) HBB.out) ?rk34
                    case hk34 => (intro wz hSw; (try dsimp only at hSw); go_simp; try with_reducible rfl)
                    (try simp only [Act.put]); (try simp only [List.setIfInBounds_toArray]); (try simp only [List.set_cons_succ]); (try simp only [List.set_cons_zero])
                    refine wpAnyH_take (i := 24) (oi := { dst := some 83, op := Op.fieldAddr 30 (Operand.tmp 8) 2, type := 0, pos := "law.go:104", after := #[{ on := 23, ground := Ground.guard }], guard := some (23, true) }) (v := undef) rfl (by kernel_rfl) (by kernel_rfl) (by kernel_rfl) (fun _ _ _ h => h) (Or.inr ⟨by rfl, rfl⟩) (B6.old ((Old.refl w8).drew) HBB.out) ?_
                    (try simp only [Act.put]); (try simp only [List.setIfInBounds_toArray]); (try simp only [List.set_cons_succ]); (try simp only [List.set_cons_zero])
                    refine wpAnyH_take (i := 25) (oi := { dst := some 84, op := Op.load 26 (Operand.tmp 83), type := 26, pos := "law.go:104", after := #[{ on := 24, ground := Ground.data }, { on := 23, ground := Ground.guard }], guard := some (23, true) }) (v := undef) rfl (by kernel_rfl) (by kernel_rfl) (by kernel_rfl) (fun _ _ _ h => h) (Or.inr ⟨by rfl, rfl⟩) (B6.old ((Old.refl w8).drew) HBB.out) ?_
                    (try simp only [Act.put]); (try simp only [List.setIfInBounds_toArray]); (try simp only [List.set_cons_succ]); (try simp only [List.set_cons_zero])
                    refine wpAnyH_take (i := 26) (oi := { dst := some 85, op := Op.fieldAddr 30 (Operand.tmp 11) 2, type := 0, pos := "law.go:104", after := #[{ on := 23, ground := Ground.guard }], guard := some (23, true) }) (v := undef) rfl (by kernel_rfl) (by kernel_rfl) (by kernel_rfl) (fun _ _ _ h => h) (Or.inr ⟨by rfl, rfl⟩) (B6.old ((Old.refl w8).drew) HBB.out) ?_
                    (try simp only [Act.put]); (try simp only [List.setIfInBounds_toArray]); (try simp only [List.set_cons_succ]); (try simp only [List.set_cons_zero])
                    refine wpAnyH_take (i := 27) (oi := { dst := some 86, op := Op.load 26 (Operand.tmp 85), type := 26, pos := "law.go:104", after := #[{ on := 26, ground := Ground.data }, { on := 23, ground := Ground.guard }], guard := some (23, true) }) (v := undef) rfl (by kernel_rfl) (by kernel_rfl) (by kernel_rfl) (fun _ _ _ h => h) (Or.inr ⟨by rfl, rfl⟩) (B6.old ((Old.refl w8).drew) HBB.out) ?_
                    (try simp only [Act.put]); (try simp only [List.setIfInBounds_toArray]); (try simp only [List.set_cons_succ]); (try simp only [List.set_cons_zero])
                    refine wpAnyH_take (i := 28) (oi := { dst := some 87, op := Op.fieldAddr 30 (Operand.tmp 8) 2, type := 0, pos := "law.go:104", after := #[{ on := 23, ground := Ground.guard }], guard := some (23, true) }) (v := undef) rfl (by kernel_rfl) (by kernel_rfl) (by kernel_rfl) (fun _ _ _ h => h) (Or.inr ⟨by rfl, rfl⟩) (B6.old ((Old.refl w8).drew) HBB.out) ?_
                    (try simp only [Act.put]); (try simp only [List.setIfInBounds_toArray]); (try simp only [List.set_cons_succ]); (try simp only [List.set_cons_zero])
                    refine wpAnyH_take (i := 29) (oi := { dst := some 88, op := Op.load 26 (Operand.tmp 87), type := 26, pos := "law.go:104", after := #[{ on := 28, ground := Ground.data }, { on := 23, ground := Ground.guard }], guard := some (23, true) }) (v := undef) rfl (by kernel_rfl) (by kernel_rfl) (by kernel_rfl) (fun _ _ _ h => h) (Or.inr ⟨by rfl, rfl⟩) (B6.old ((Old.refl w8).drew) HBB.out) ?_
                    (try simp only [Act.put]); (try simp only [List.setIfInBounds_toArray]); (try simp only [List.set_cons_succ]); (try simp only [List.set_cons_zero])
                    refine wpAnyH_take (i := 30) (oi := { dst := some 89, op := Op.call { callee := Callee.builtin Builtin.len, args := #[Operand.tmp 88], argTypes := #[26] }, type := 3, pos := "law.go:104", after := #[{ on := 29, ground := Ground.data }, { on := 23, ground := Ground.guard }], guard := some (23, true) }) (v := undef) rfl (by kernel_rfl) (by kernel_rfl) (by kernel_rfl) (fun _ _ _ h => h) (Or.inr ⟨by rfl, rfl⟩) (B6.old ((Old.refl w8).drew) HBB.out) ?_
                    (try simp only [Act.put]); (try simp only [List.setIfInBounds_toArray]); (try simp only [List.set_cons_succ]); (try simp only [List.set_cons_zero])
                    refine wpAnyH_take (i := 31) (oi := { dst := some 90, op := Op.slice 26 (Operand.tmp 86) none (some (Operand.tmp 89)) none, type := 26, pos := "law.go:104", after := #[{ on := 27, ground := Ground.data }, { on := 30, ground := Ground.data }, { on := 23, ground := Ground.guard }], guard := some (23, true) }) (v := undef) rfl (by kernel_rfl) (by kernel_rfl) (by kernel_rfl) (fun _ _ _ h => h) (Or.inr ⟨by rfl, rfl⟩) (B6.old ((Old.refl w8).drew) HBB.out) ?_
                    (try simp only [Act.put]); (try simp only [List.setIfInBounds_toArray]); (try simp only [List.set_cons_succ]); (try simp only [List.set_cons_zero])
                    refine wpAnyH_take (i := 32) (oi := { dst := some 91, op := Op.call { callee := Callee.value (Operand.func 10), args := #[Operand.tmp 84, Operand.tmp 90], argTypes := #[26, 26] }, type := 4, pos := "law.go:104", after := #[{ on := 25, ground := Ground.data }, { on := 31, ground := Ground.data }, { on := 23, ground := Ground.chain }, { on := 23, ground := Ground.guard }], guard := some (23, true) }) (v := undef) rfl (by kernel_rfl) (by kernel_rfl) (by kernel_rfl) (fun _ _ _ h => h) (Or.inr ⟨by rfl, rfl⟩) (B6.old ((Old.refl w8).drew) HBB.out) ?_
                    (try simp only [Act.put]); (try simp only [List.setIfInBounds_toArray]); (try simp only [List.set_cons_succ]); (try simp only [List.set_cons_zero])
                    refine wpAnyH_take (i := 33) (oi := { dst := some 92, op := Op.pick (Operand.tmp 82) (Operand.tmp 91) (Operand.const (Value.bool false)), type := 4, pos := "law.go:104", after := #[{ on := 23, ground := Ground.data }, { on := 32, ground := Ground.data }, { on := 1, ground := Ground.guard }], guard := some (1, false) }) (v := ?vk35) rfl (by kernel_rfl) (by kernel_rfl) (by kernel_rfl) (fun _ _ _ h => h) (Or.inl ⟨by rfl, ?hk35⟩) (B6.old ((Old.refl w8).drew) HBB.out) ?rk35
                    case hk35 => (intro wz hSw; (try dsimp only at hSw); go_simp; try with_reducible rfl)
                    (try simp only [Act.put]); (try simp only [List.setIfInBounds_toArray]); (try simp only [List.set_cons_succ]); (try simp only [List.set_cons_zero])
                    refine wpAnyH_take (i := 34) (oi := { dst := some 93, op := Op.pick (Operand.tmp 60) (Operand.const (Value.bool true)) (Operand.tmp 92), type := 4, pos := "law.go:104", after := #[{ on := 1, ground := Ground.data }, { on := 33, ground := Ground.data }], guard := none }) (v := ?vk36) rfl (by kernel_rfl) (by kernel_rfl) (by kernel_rfl) (fun _ _ _ h => h) (Or.inl ⟨by rfl, ?hk36⟩) (B6.old ((Old.refl w8).drew) HBB.out) ?rk36
                    case hk36 => (intro wz hSw; (try dsimp only at hSw); go_simp; try with_reducible rfl)
                    (try simp only [Act.put]); (try simp only [List.setIfInBounds_toArray]); (try simp only [List.set_cons_succ]); (try simp only [List.set_cons_zero])
                    refine wpAnyH_ready (rs := [35]) (by kernel_rfl) (by simp) ?_
                    refine AllReadyH.cons (o := { dst := some 9, op := Op.assign (Operand.tmp 93), type := 4, pos := "law.go:104", after := #[{ on := 34, ground := Ground.data }, { on := 32, ground := Ground.chain }, { on := 0, ground := Ground.phase }, { on := 1, ground := Ground.phase }, { on := 2, ground := Ground.phase }, { on := 3, ground := Ground.phase }, { on := 4, ground := Ground.phase }, { on := 5, ground := Ground.phase }, { on := 6, ground := Ground.phase }, { on := 7, ground := Ground.phase }, { on := 8, ground := Ground.phase }, { on := 9, ground := Ground.phase }, { on := 10, ground := Ground.phase }, { on := 11, ground := Ground.phase }, { on := 12, ground := Ground.phase }, { on := 13, ground := Ground.phase }, { on := 14, ground := Ground.phase }, { on := 15, ground := Ground.phase }, { on := 16, ground := Ground.phase }, { on := 17, ground := Ground.phase }, { on := 18, ground := Ground.phase }, { on := 19, ground := Ground.phase }, { on := 20, ground := Ground.phase }, { on := 21, ground := Ground.phase }, { on := 22, ground := Ground.phase }, { on := 23, ground := Ground.phase }, { on := 24, ground := Ground.phase }, { on := 25, ground := Ground.phase }, { on := 26, ground := Ground.phase }, { on := 27, ground := Ground.phase }, { on := 28, ground := Ground.phase }, { on := 29, ground := Ground.phase }, { on := 30, ground := Ground.phase }, { on := 31, ground := Ground.phase }, { on := 32, ground := Ground.phase }, { on := 33, ground := Ground.phase }, { on := 34, ground := Ground.phase }], guard := none }) rfl (fun K hK => ?_) AllReadyH.nil
                    go_simp
                    refine hK.out _ _ (B6.old ((Old.refl w8).drew) HBB.out) (fun _ => ?_)
                    clear hK K
                    (try simp only [Act.put]); (try simp only [List.setIfInBounds_toArray]); (try simp only [List.set_cons_succ]); (try simp only [List.set_cons_zero])
                    refine wpAnyH_done (by kernel_rfl) ?_ _
                    refine NoPanic.normal ?_
                    have UZ := hid ((Old.refl w8).drew)
                    go_wp2
                    go_roundw
                    case rel => exact ⟨t + 1, hlt, by go_num, by rw [HE.out], HU3.out.trans UZ.out⟩
                    case measure => simp [intOf]; omega
                · have HE := hid (show fndB (X.map Lt.p) xp (t + 1) = false from by rw [HSu.out, decide_eq_false cf]; simp)
                  have g1 : (sf == xf) = false := by rw [beq_eq_false_iff_ne]; exact cf
                  clear HSu HSB HCap
                  refine wp_region_noPanic ?_
                  refine wp_region_held_drew (S := fun wz => (wz.cell? ⟨bl, 0, none⟩ = some (.int .i64 xf) ∧ wz.cell? ⟨bl, 1, none⟩ = some (.int .i64 xt) ∧ wz.cell? ⟨bl, 2, none⟩ = some (.slice xa xl xc)) ∧ wz.cell? ⟨bs, 0, none⟩ = some (.int .i64 sf) ∧ wz.cell? ⟨bs, 1, none⟩ = some (.int .i64 st) ∧ wz.cell? ⟨bs, 2, none⟩ = some (.slice sa sL.length sc)) (by kernel_rfl) ?_ (fun hHeld => ?_)
                  · exact B6.old ((Old.refl _).drew) HBB.out
                  (try simp only [Act.put]); (try simp only [List.setIfInBounds_toArray]); (try simp only [List.set_cons_succ]); (try simp only [List.set_cons_zero])
                  clear hHeld
                  refine wpAnyH_take (i := 0) (oi := { dst := some 59, op := Op.move (Operand.tmp 9), type := 4, pos := "law.go:104", after := #[], guard := none }) (v := ?vk4) rfl (by kernel_rfl) (by kernel_rfl) (by kernel_rfl) (fun _ _ _ h => h) (Or.inl ⟨by rfl, ?hk4⟩) (B6.old ((Old.refl w8).drew) HBB.out) ?rk4
                  case hk4 => (intro wz hSw; (try dsimp only at hSw); go_simp; try with_reducible rfl)
                  (try simp only [Act.put]); (try simp only [List.setIfInBounds_toArray]); (try simp only [List.set_cons_succ]); (try simp only [List.set_cons_zero])
                  refine wpAnyH_take (i := 1) (oi := { dst := some 60, op := Op.move (Operand.tmp 59), type := 4, pos := "law.go:104", after := #[{ on := 0, ground := Ground.data }], guard := none }) (v := ?vk5) rfl (by kernel_rfl) (by kernel_rfl) (by kernel_rfl) (fun _ _ _ h => h) (Or.inl ⟨by rfl, ?hk5⟩) (B6.old ((Old.refl w8).drew) HBB.out) ?rk5
                  case hk5 => (intro wz hSw; (try dsimp only at hSw); go_simp; try with_reducible rfl)
                  (try simp only [Act.put]); (try simp only [List.setIfInBounds_toArray]); (try simp only [List.set_cons_succ]); (try simp only [List.set_cons_zero])
                  refine wpAnyH_take (i := 2) (oi := { dst := some 61, op := Op.fieldAddr 30 (Operand.tmp 11) 0, type := 0, pos := "law.go:104", after := #[{ on := 1, ground := Ground.guard }], guard := some (1, false) }) (v := ?vk6) rfl (by kernel_rfl) (by kernel_rfl) (by kernel_rfl) (fun _ _ _ h => h) (Or.inl ⟨by rfl, ?hk6⟩) (B6.old ((Old.refl w8).drew) HBB.out) ?rk6
                  case hk6 => (intro wz hSw; (try dsimp only at hSw); go_simp; try with_reducible rfl)
                  (try simp only [Act.put]); (try simp only [List.setIfInBounds_toArray]); (try simp only [List.set_cons_succ]); (try simp only [List.set_cons_zero])
                  refine wpAnyH_take (i := 3) (oi := { dst := some 62, op := Op.load 3 (Operand.tmp 61), type := 3, pos := "law.go:104", after := #[{ on := 2, ground := Ground.data }, { on := 1, ground := Ground.guard }], guard := some (1, false) }) (v := ?vk7) rfl (by kernel_rfl) (by kernel_rfl) (by kernel_rfl) (fun _ _ _ h => h) (Or.inl ⟨by rfl, ?hk7⟩) (B6.old ((Old.refl w8).drew) HBB.out) ?rk7
                  case hk7 => (intro wz hSw; (try dsimp only at hSw); go_simp; try with_reducible rfl)
                  (try simp only [Act.put]); (try simp only [List.setIfInBounds_toArray]); (try simp only [List.set_cons_succ]); (try simp only [List.set_cons_zero])
                  refine wpAnyH_take (i := 4) (oi := { dst := some 63, op := Op.fieldAddr 30 (Operand.tmp 8) 0, type := 0, pos := "law.go:104", after := #[{ on := 1, ground := Ground.guard }], guard := some (1, false) }) (v := ?vk8) rfl (by kernel_rfl) (by kernel_rfl) (by kernel_rfl) (fun _ _ _ h => h) (Or.inl ⟨by rfl, ?hk8⟩) (B6.old ((Old.refl w8).drew) HBB.out) ?rk8
                  case hk8 => (intro wz hSw; (try dsimp only at hSw); go_simp; try with_reducible rfl)
                  (try simp only [Act.put]); (try simp only [List.setIfInBounds_toArray]); (try simp only [List.set_cons_succ]); (try simp only [List.set_cons_zero])
                  refine wpAnyH_take (i := 5) (oi := { dst := some 64, op := Op.load 3 (Operand.tmp 63), type := 3, pos := "law.go:104", after := #[{ on := 4, ground := Ground.data }, { on := 1, ground := Ground.guard }], guard := some (1, false) }) (v := ?vk9) rfl (by kernel_rfl) (by kernel_rfl) (by kernel_rfl) (fun _ _ _ h => h) (Or.inl ⟨by rfl, ?hk9⟩) (B6.old ((Old.refl w8).drew) HBB.out) ?rk9
                  case hk9 => (intro wz hSw; (try dsimp only at hSw); go_simp; try with_reducible rfl)
                  (try simp only [Act.put]); (try simp only [List.setIfInBounds_toArray]); (try simp only [List.set_cons_succ]); (try simp only [List.set_cons_zero])
                  refine wpAnyH_take (i := 6) (oi := { dst := some 65, op := Op.binOp BinOp.eql 3 (Operand.tmp 62) (Operand.tmp 64) 3, type := 4, pos := "law.go:104", after := #[{ on := 3, ground := Ground.data }, { on := 5, ground := Ground.data }, { on := 1, ground := Ground.guard }], guard := some (1, false) }) (v := ?vk10) rfl (by kernel_rfl) (by kernel_rfl) (by kernel_rfl) (fun _ _ _ h => h) (Or.inl ⟨by rfl, ?hk10⟩) (B6.old ((Old.refl w8).drew) HBB.out) ?rk10
                  case hk10 => (intro wz hSw; (try dsimp only at hSw); go_simp; try with_reducible rfl)
                  (try simp only [Act.put]); (try simp only [List.setIfInBounds_toArray]); (try simp only [List.set_cons_succ]); (try simp only [List.set_cons_zero])
                  refine wpAnyH_take (i := 7) (oi := { dst := some 66, op := Op.move (Operand.tmp 65), type := 4, pos := "law.go:104", after := #[{ on := 6, ground := Ground.data }, { on := 1, ground := Ground.chain }, { on := 1, ground := Ground.guard }], guard := some (1, false) }) (v := ?vk11) rfl (by kernel_rfl) (by kernel_rfl) (by kernel_rfl) (fun _ _ _ h => h) (Or.inl ⟨by rfl, ?hk11⟩) (B6.old ((Old.refl w8).drew) HBB.out) ?rk11
                  case hk11 => (intro wz hSw; (try dsimp only at hSw); go_simp; try with_reducible rfl)
                  (try simp only [Act.put]); (try simp only [List.setIfInBounds_toArray]); (try simp only [List.set_cons_succ]); (try simp only [List.set_cons_zero])
                  refine wpAnyH_take (i := 8) (oi := { dst := some 67, op := Op.fieldAddr 30 (Operand.tmp 11) 1, type := 0, pos := "law.go:104", after := #[{ on := 7, ground := Ground.guard }], guard := some (7, true) }) (v := undef) rfl (by kernel_rfl) (by kernel_rfl) (by kernel_rfl) (fun _ _ _ h => h) (Or.inr ⟨by rfl, rfl⟩) (B6.old ((Old.refl w8).drew) HBB.out) ?_
                  (try simp only [Act.put]); (try simp only [List.setIfInBounds_toArray]); (try simp only [List.set_cons_succ]); (try simp only [List.set_cons_zero])
                  refine wpAnyH_take (i := 9) (oi := { dst := some 68, op := Op.load 3 (Operand.tmp 67), type := 3, pos := "law.go:104", after := #[{ on := 8, ground := Ground.data }, { on := 7, ground := Ground.guard }], guard := some (7, true) }) (v := undef) rfl (by kernel_rfl) (by kernel_rfl) (by kernel_rfl) (fun _ _ _ h => h) (Or.inr ⟨by rfl, rfl⟩) (B6.old ((Old.refl w8).drew) HBB.out) ?_
                  (try simp only [Act.put]); (try simp only [List.setIfInBounds_toArray]); (try simp only [List.set_cons_succ]); (try simp only [List.set_cons_zero])
                  refine wpAnyH_take (i := 10) (oi := { dst := some 69, op := Op.fieldAddr 30 (Operand.tmp 8) 1, type := 0, pos := "law.go:104", after := #[{ on := 7, ground := Ground.guard }], guard := some (7, true) }) (v := undef) rfl (by kernel_rfl) (by kernel_rfl) (by kernel_rfl) (fun _ _ _ h => h) (Or.inr ⟨by rfl, rfl⟩) (B6.old ((Old.refl w8).drew) HBB.out) ?_
                  (try simp only [Act.put]); (try simp only [List.setIfInBounds_toArray]); (try simp only [List.set_cons_succ]); (try simp only [List.set_cons_zero])
                  refine wpAnyH_take (i := 11) (oi := { dst := some 70, op := Op.load 3 (Operand.tmp 69), type := 3, pos := "law.go:104", after := #[{ on := 10, ground := Ground.data }, { on := 7, ground := Ground.guard }], guard := some (7, true) }) (v := undef) rfl (by kernel_rfl) (by kernel_rfl) (by kernel_rfl) (fun _ _ _ h => h) (Or.inr ⟨by rfl, rfl⟩) (B6.old ((Old.refl w8).drew) HBB.out) ?_
                  (try simp only [Act.put]); (try simp only [List.setIfInBounds_toArray]); (try simp only [List.set_cons_succ]); (try simp only [List.set_cons_zero])
                  refine wpAnyH_take (i := 12) (oi := { dst := some 71, op := Op.binOp BinOp.eql 3 (Operand.tmp 68) (Operand.tmp 70) 3, type := 4, pos := "law.go:104", after := #[{ on := 9, ground := Ground.data }, { on := 11, ground := Ground.data }, { on := 7, ground := Ground.guard }], guard := some (7, true) }) (v := undef) rfl (by kernel_rfl) (by kernel_rfl) (by kernel_rfl) (fun _ _ _ h => h) (Or.inr ⟨by rfl, rfl⟩) (B6.old ((Old.refl w8).drew) HBB.out) ?_
                  (try simp only [Act.put]); (try simp only [List.setIfInBounds_toArray]); (try simp only [List.set_cons_succ]); (try simp only [List.set_cons_zero])
                  refine wpAnyH_take (i := 13) (oi := { dst := some 72, op := Op.pick (Operand.tmp 66) (Operand.tmp 71) (Operand.const (Value.bool false)), type := 4, pos := "law.go:104", after := #[{ on := 7, ground := Ground.data }, { on := 12, ground := Ground.data }, { on := 1, ground := Ground.guard }], guard := some (1, false) }) (v := ?vk12) rfl (by kernel_rfl) (by kernel_rfl) (by kernel_rfl) (fun _ _ _ h => h) (Or.inl ⟨by rfl, ?hk12⟩) (B6.old ((Old.refl w8).drew) HBB.out) ?rk12
                  case hk12 => (intro wz hSw; (try dsimp only at hSw); go_simp; try with_reducible rfl)
                  (try simp only [Act.put]); (try simp only [List.setIfInBounds_toArray]); (try simp only [List.set_cons_succ]); (try simp only [List.set_cons_zero])
                  refine wpAnyH_take (i := 14) (oi := { dst := some 73, op := Op.move (Operand.tmp 72), type := 4, pos := "law.go:104", after := #[{ on := 13, ground := Ground.data }, { on := 7, ground := Ground.chain }, { on := 1, ground := Ground.guard }], guard := some (1, false) }) (v := ?vk13) rfl (by kernel_rfl) (by kernel_rfl) (by kernel_rfl) (fun _ _ _ h => h) (Or.inl ⟨by rfl, ?hk13⟩) (B6.old ((Old.refl w8).drew) HBB.out) ?rk13
                  case hk13 => (intro wz hSw; (try dsimp only at hSw); go_simp; try with_reducible rfl)
                  (try simp only [Act.put]); (try simp only [List.setIfInBounds_toArray]); (try simp only [List.set_cons_succ]); (try simp only [List.set_cons_zero])
                  refine wpAnyH_take (i := 15) (oi := { dst := some 74, op := Op.fieldAddr 30 (Operand.tmp 8) 2, type := 0, pos := "law.go:104", after := #[{ on := 14, ground := Ground.guard }], guard := some (14, true) }) (v := undef) rfl (by kernel_rfl) (by kernel_rfl) (by kernel_rfl) (fun _ _ _ h => h) (Or.inr ⟨by rfl, rfl⟩) (B6.old ((Old.refl w8).drew) HBB.out) ?_
                  (try simp only [Act.put]); (try simp only [List.setIfInBounds_toArray]); (try simp only [List.set_cons_succ]); (try simp only [List.set_cons_zero])
                  refine wpAnyH_take (i := 16) (oi := { dst := some 75, op := Op.load 26 (Operand.tmp 74), type := 26, pos := "law.go:104", after := #[{ on := 15, ground := Ground.data }, { on := 14, ground := Ground.guard }], guard := some (14, true) }) (v := undef) rfl (by kernel_rfl) (by kernel_rfl) (by kernel_rfl) (fun _ _ _ h => h) (Or.inr ⟨by rfl, rfl⟩) (B6.old ((Old.refl w8).drew) HBB.out) ?_
                  (try simp only [Act.put]); (try simp only [List.setIfInBounds_toArray]); (try simp only [List.set_cons_succ]); (try simp only [List.set_cons_zero])
                  refine wpAnyH_take (i := 17) (oi := { dst := some 76, op := Op.call { callee := Callee.builtin Builtin.len, args := #[Operand.tmp 75], argTypes := #[26] }, type := 3, pos := "law.go:104", after := #[{ on := 16, ground := Ground.data }, { on := 14, ground := Ground.guard }], guard := some (14, true) }) (v := undef) rfl (by kernel_rfl) (by kernel_rfl) (by kernel_rfl) (fun _ _ _ h => h) (Or.inr ⟨by rfl, rfl⟩) (B6.old ((Old.refl w8).drew) HBB.out) ?_
                  (try simp only [Act.put]); (try simp only [List.setIfInBounds_toArray]); (try simp only [List.set_cons_succ]); (try simp only [List.set_cons_zero])
                  refine wpAnyH_take (i := 18) (oi := { dst := some 77, op := Op.fieldAddr 30 (Operand.tmp 11) 2, type := 0, pos := "law.go:104", after := #[{ on := 14, ground := Ground.guard }], guard := some (14, true) }) (v := undef) rfl (by kernel_rfl) (by kernel_rfl) (by kernel_rfl) (fun _ _ _ h => h) (Or.inr ⟨by rfl, rfl⟩) (B6.old ((Old.refl w8).drew) HBB.out) ?_
                  (try simp only [Act.put]); (try simp only [List.setIfInBounds_toArray]); (try simp only [List.set_cons_succ]); (try simp only [List.set_cons_zero])
                  refine wpAnyH_take (i := 19) (oi := { dst := some 78, op := Op.load 26 (Operand.tmp 77), type := 26, pos := "law.go:104", after := #[{ on := 18, ground := Ground.data }, { on := 14, ground := Ground.guard }], guard := some (14, true) }) (v := undef) rfl (by kernel_rfl) (by kernel_rfl) (by kernel_rfl) (fun _ _ _ h => h) (Or.inr ⟨by rfl, rfl⟩) (B6.old ((Old.refl w8).drew) HBB.out) ?_
                  (try simp only [Act.put]); (try simp only [List.setIfInBounds_toArray]); (try simp only [List.set_cons_succ]); (try simp only [List.set_cons_zero])
                  refine wpAnyH_take (i := 20) (oi := { dst := some 79, op := Op.call { callee := Callee.builtin Builtin.len, args := #[Operand.tmp 78], argTypes := #[26] }, type := 3, pos := "law.go:104", after := #[{ on := 19, ground := Ground.data }, { on := 14, ground := Ground.guard }], guard := some (14, true) }) (v := undef) rfl (by kernel_rfl) (by kernel_rfl) (by kernel_rfl) (fun _ _ _ h => h) (Or.inr ⟨by rfl, rfl⟩) (B6.old ((Old.refl w8).drew) HBB.out) ?_
                  (try simp only [Act.put]); (try simp only [List.setIfInBounds_toArray]); (try simp only [List.set_cons_succ]); (try simp only [List.set_cons_zero])
                  refine wpAnyH_take (i := 21) (oi := { dst := some 80, op := Op.binOp BinOp.leq 3 (Operand.tmp 76) (Operand.tmp 79) 3, type := 4, pos := "law.go:104", after := #[{ on := 17, ground := Ground.data }, { on := 20, ground := Ground.data }, { on := 14, ground := Ground.guard }], guard := some (14, true) }) (v := undef) rfl (by kernel_rfl) (by kernel_rfl) (by kernel_rfl) (fun _ _ _ h => h) (Or.inr ⟨by rfl, rfl⟩) (B6.old ((Old.refl w8).drew) HBB.out) ?_
                  (try simp only [Act.put]); (try simp only [List.setIfInBounds_toArray]); (try simp only [List.set_cons_succ]); (try simp only [List.set_cons_zero])
                  refine wpAnyH_take (i := 22) (oi := { dst := some 81, op := Op.pick (Operand.tmp 73) (Operand.tmp 80) (Operand.const (Value.bool false)), type := 4, pos := "law.go:104", after := #[{ on := 14, ground := Ground.data }, { on := 21, ground := Ground.data }, { on := 1, ground := Ground.guard }], guard := some (1, false) }) (v := ?vk14) rfl (by kernel_rfl) (by kernel_rfl) (by kernel_rfl) (fun _ _ _ h => h) (Or.inl ⟨by rfl, ?hk14⟩) (B6.old ((Old.refl w8).drew) HBB.out) ?rk14
                  case hk14 => (intro wz hSw; (try dsimp only at hSw); go_simp; try with_reducible rfl)
                  (try simp only [Act.put]); (try simp only [List.setIfInBounds_toArray]); (try simp only [List.set_cons_succ]); (try simp only [List.set_cons_zero])
                  refine wpAnyH_take (i := 23) (oi := { dst := some 82, op := Op.move (Operand.tmp 81), type := 4, pos := "law.go:104", after := #[{ on := 22, ground := Ground.data }, { on := 14, ground := Ground.chain }, { on := 1, ground := Ground.guard }], guard := some (1, false) }) (v := ?vk15) rfl (by kernel_rfl) (by kernel_rfl) (by kernel_rfl) (fun _ _ _ h => h) (Or.inl ⟨by rfl, ?hk15⟩) (B6.old ((Old.refl w8).drew) HBB.out) ?rk15
                  case hk15 => (intro wz hSw; (try dsimp only at hSw); go_simp; try with_reducible rfl)
                  (try simp only [Act.put]); (try simp only [List.setIfInBounds_toArray]); (try simp only [List.set_cons_succ]); (try simp only [List.set_cons_zero])
                  refine wpAnyH_take (i := 24) (oi := { dst := some 83, op := Op.fieldAddr 30 (Operand.tmp 8) 2, type := 0, pos := "law.go:104", after := #[{ on := 23, ground := Ground.guard }], guard := some (23, true) }) (v := undef) rfl (by kernel_rfl) (by kernel_rfl) (by kernel_rfl) (fun _ _ _ h => h) (Or.inr ⟨by rfl, rfl⟩) (B6.old ((Old.refl w8).drew) HBB.out) ?_
                  (try simp only [Act.put]); (try simp only [List.setIfInBounds_toArray]); (try simp only [List.set_cons_succ]); (try simp only [List.set_cons_zero])
                  refine wpAnyH_take (i := 25) (oi := { dst := some 84, op := Op.load 26 (Operand.tmp 83), type := 26, pos := "law.go:104", after := #[{ on := 24, ground := Ground.data }, { on := 23, ground := Ground.guard }], guard := some (23, true) }) (v := undef) rfl (by kernel_rfl) (by kernel_rfl) (by kernel_rfl) (fun _ _ _ h => h) (Or.inr ⟨by rfl, rfl⟩) (B6.old ((Old.refl w8).drew) HBB.out) ?_
                  (try simp only [Act.put]); (try simp only [List.setIfInBounds_toArray]); (try simp only [List.set_cons_succ]); (try simp only [List.set_cons_zero])
                  refine wpAnyH_take (i := 26) (oi := { dst := some 85, op := Op.fieldAddr 30 (Operand.tmp 11) 2, type := 0, pos := "law.go:104", after := #[{ on := 23, ground := Ground.guard }], guard := some (23, true) }) (v := undef) rfl (by kernel_rfl) (by kernel_rfl) (by kernel_rfl) (fun _ _ _ h => h) (Or.inr ⟨by rfl, rfl⟩) (B6.old ((Old.refl w8).drew) HBB.out) ?_
                  (try simp only [Act.put]); (try simp only [List.setIfInBounds_toArray]); (try simp only [List.set_cons_succ]); (try simp only [List.set_cons_zero])
                  refine wpAnyH_take (i := 27) (oi := { dst := some 86, op := Op.load 26 (Operand.tmp 85), type := 26, pos := "law.go:104", after := #[{ on := 26, ground := Ground.data }, { on := 23, ground := Ground.guard }], guard := some (23, true) }) (v := undef) rfl (by kernel_rfl) (by kernel_rfl) (by kernel_rfl) (fun _ _ _ h => h) (Or.inr ⟨by rfl, rfl⟩) (B6.old ((Old.refl w8).drew) HBB.out) ?_
                  (try simp only [Act.put]); (try simp only [List.setIfInBounds_toArray]); (try simp only [List.set_cons_succ]); (try simp only [List.set_cons_zero])
                  refine wpAnyH_take (i := 28) (oi := { dst := some 87, op := Op.fieldAddr 30 (Operand.tmp 8) 2, type := 0, pos := "law.go:104", after := #[{ on := 23, ground := Ground.guard }], guard := some (23, true) }) (v := undef) rfl (by kernel_rfl) (by kernel_rfl) (by kernel_rfl) (fun _ _ _ h => h) (Or.inr ⟨by rfl, rfl⟩) (B6.old ((Old.refl w8).drew) HBB.out) ?_
                  (try simp only [Act.put]); (try simp only [List.setIfInBounds_toArray]); (try simp only [List.set_cons_succ]); (try simp only [List.set_cons_zero])
                  refine wpAnyH_take (i := 29) (oi := { dst := some 88, op := Op.load 26 (Operand.tmp 87), type := 26, pos := "law.go:104", after := #[{ on := 28, ground := Ground.data }, { on := 23, ground := Ground.guard }], guard := some (23, true) }) (v := undef) rfl (by kernel_rfl) (by kernel_rfl) (by kernel_rfl) (fun _ _ _ h => h) (Or.inr ⟨by rfl, rfl⟩) (B6.old ((Old.refl w8).drew) HBB.out) ?_
                  (try simp only [Act.put]); (try simp only [List.setIfInBounds_toArray]); (try simp only [List.set_cons_succ]); (try simp only [List.set_cons_zero])
                  refine wpAnyH_take (i := 30) (oi := { dst := some 89, op := Op.call { callee := Callee.builtin Builtin.len, args := #[Operand.tmp 88], argTypes := #[26] }, type := 3, pos := "law.go:104", after := #[{ on := 29, ground := Ground.data }, { on := 23, ground := Ground.guard }], guard := some (23, true) }) (v := undef) rfl (by kernel_rfl) (by kernel_rfl) (by kernel_rfl) (fun _ _ _ h => h) (Or.inr ⟨by rfl, rfl⟩) (B6.old ((Old.refl w8).drew) HBB.out) ?_
                  (try simp only [Act.put]); (try simp only [List.setIfInBounds_toArray]); (try simp only [List.set_cons_succ]); (try simp only [List.set_cons_zero])
                  refine wpAnyH_take (i := 31) (oi := { dst := some 90, op := Op.slice 26 (Operand.tmp 86) none (some (Operand.tmp 89)) none, type := 26, pos := "law.go:104", after := #[{ on := 27, ground := Ground.data }, { on := 30, ground := Ground.data }, { on := 23, ground := Ground.guard }], guard := some (23, true) }) (v := undef) rfl (by kernel_rfl) (by kernel_rfl) (by kernel_rfl) (fun _ _ _ h => h) (Or.inr ⟨by rfl, rfl⟩) (B6.old ((Old.refl w8).drew) HBB.out) ?_
                  (try simp only [Act.put]); (try simp only [List.setIfInBounds_toArray]); (try simp only [List.set_cons_succ]); (try simp only [List.set_cons_zero])
                  refine wpAnyH_take (i := 32) (oi := { dst := some 91, op := Op.call { callee := Callee.value (Operand.func 10), args := #[Operand.tmp 84, Operand.tmp 90], argTypes := #[26, 26] }, type := 4, pos := "law.go:104", after := #[{ on := 25, ground := Ground.data }, { on := 31, ground := Ground.data }, { on := 23, ground := Ground.chain }, { on := 23, ground := Ground.guard }], guard := some (23, true) }) (v := undef) rfl (by kernel_rfl) (by kernel_rfl) (by kernel_rfl) (fun _ _ _ h => h) (Or.inr ⟨by rfl, rfl⟩) (B6.old ((Old.refl w8).drew) HBB.out) ?_
                  (try simp only [Act.put]); (try simp only [List.setIfInBounds_toArray]); (try simp only [List.set_cons_succ]); (try simp only [List.set_cons_zero])
                  refine wpAnyH_take (i := 33) (oi := { dst := some 92, op := Op.pick (Operand.tmp 82) (Operand.tmp 91) (Operand.const (Value.bool false)), type := 4, pos := "law.go:104", after := #[{ on := 23, ground := Ground.data }, { on := 32, ground := Ground.data }, { on := 1, ground := Ground.guard }], guard := some (1, false) }) (v := ?vk16) rfl (by kernel_rfl) (by kernel_rfl) (by kernel_rfl) (fun _ _ _ h => h) (Or.inl ⟨by rfl, ?hk16⟩) (B6.old ((Old.refl w8).drew) HBB.out) ?rk16
                  case hk16 => (intro wz hSw; (try dsimp only at hSw); go_simp; try with_reducible rfl)
                  (try simp only [Act.put]); (try simp only [List.setIfInBounds_toArray]); (try simp only [List.set_cons_succ]); (try simp only [List.set_cons_zero])
                  refine wpAnyH_take (i := 34) (oi := { dst := some 93, op := Op.pick (Operand.tmp 60) (Operand.const (Value.bool true)) (Operand.tmp 92), type := 4, pos := "law.go:104", after := #[{ on := 1, ground := Ground.data }, { on := 33, ground := Ground.data }], guard := none }) (v := ?vk17) rfl (by kernel_rfl) (by kernel_rfl) (by kernel_rfl) (fun _ _ _ h => h) (Or.inl ⟨by rfl, ?hk17⟩) (B6.old ((Old.refl w8).drew) HBB.out) ?rk17
                  case hk17 => (intro wz hSw; (try dsimp only at hSw); go_simp; try with_reducible rfl)
                  (try simp only [Act.put]); (try simp only [List.setIfInBounds_toArray]); (try simp only [List.set_cons_succ]); (try simp only [List.set_cons_zero])
                  refine wpAnyH_ready (rs := [35]) (by kernel_rfl) (by simp) ?_
                  refine AllReadyH.cons (o := { dst := some 9, op := Op.assign (Operand.tmp 93), type := 4, pos := "law.go:104", after := #[{ on := 34, ground := Ground.data }, { on := 32, ground := Ground.chain }, { on := 0, ground := Ground.phase }, { on := 1, ground := Ground.phase }, { on := 2, ground := Ground.phase }, { on := 3, ground := Ground.phase }, { on := 4, ground := Ground.phase }, { on := 5, ground := Ground.phase }, { on := 6, ground := Ground.phase }, { on := 7, ground := Ground.phase }, { on := 8, ground := Ground.phase }, { on := 9, ground := Ground.phase }, { on := 10, ground := Ground.phase }, { on := 11, ground := Ground.phase }, { on := 12, ground := Ground.phase }, { on := 13, ground := Ground.phase }, { on := 14, ground := Ground.phase }, { on := 15, ground := Ground.phase }, { on := 16, ground := Ground.phase }, { on := 17, ground := Ground.phase }, { on := 18, ground := Ground.phase }, { on := 19, ground := Ground.phase }, { on := 20, ground := Ground.phase }, { on := 21, ground := Ground.phase }, { on := 22, ground := Ground.phase }, { on := 23, ground := Ground.phase }, { on := 24, ground := Ground.phase }, { on := 25, ground := Ground.phase }, { on := 26, ground := Ground.phase }, { on := 27, ground := Ground.phase }, { on := 28, ground := Ground.phase }, { on := 29, ground := Ground.phase }, { on := 30, ground := Ground.phase }, { on := 31, ground := Ground.phase }, { on := 32, ground := Ground.phase }, { on := 33, ground := Ground.phase }, { on := 34, ground := Ground.phase }], guard := none }) rfl (fun K hK => ?_) AllReadyH.nil
                  go_simp
                  refine hK.out _ _ (B6.old ((Old.refl w8).drew) HBB.out) (fun _ => ?_)
                  clear hK K
                  (try simp only [Act.put]); (try simp only [List.setIfInBounds_toArray]); (try simp only [List.set_cons_succ]); (try simp only [List.set_cons_zero])
                  refine wpAnyH_done (by kernel_rfl) ?_ _
                  refine NoPanic.normal ?_
                  have UZ := hid ((Old.refl w8).drew)
                  go_wp2
                  go_roundw
                  case rel => exact ⟨t + 1, hlt, by go_num, by rw [HE.out], HU3.out.trans UZ.out⟩
                  case measure => simp [intOf]; omega
            · obtain rfl : t = X.length := by omega
              have l5 : ¬ (X.length : Int) < (X.length : Int) := by omega
              rw [HFn.out]
              have HU3 := hid (HU1.out.trans HU2.out)
              clear HU1 HU2 hlt
              go_wp2
              go_roundw
              case rel => exact ⟨j + 1, HJ.out, by go_num, HU3.out⟩
              case measure => simp [intOf]; omega
        · obtain rfl : j = m := by omega
          have l5 : ¬ (j : Int) < (j : Int) := by omega
          go_wp2
          go_ret
          exact ⟨rfl, M5.out.net.base.trans HU.out⟩
end Go.Proofs.Ytpkgcakeahmiaaa
