/- The law ConfChanges; no condition. -/
import Derived.Test.YtcicefpcledmgaaV18
import Derived.Test.YtcicefpcledmgaaV20
import Derived.Test.YtcicefpcledmgaaV21
namespace Go.Proofs.Ytcicefpcledmgaa
open Go.RowKit Go.Lib
set_option linter.unusedVariables false
set_option linter.unusedSimpArgs false
set_option maxRecDepth 20000
/-- The variable c: what it holds is a right configuration, whose rows lie elsewhere. -/
structure AtB (B : Nat) (p1 p2 : Option Addr) (c1 c2 n m : Nat) (f g : Nat → Int) (W : World) : Prop where
  k0 : W.cell? ⟨B, 0, none⟩ = some (.slice p1 n c1)
  k1 : W.cell? ⟨B, 1, none⟩ = some (.slice p2 m c2)
  f0 : W.frozen? ⟨B, 0, none⟩ = false
  f1 : W.frozen? ⟨B, 1, none⟩ = false
  r1 : NRowL W (.slice p1 n c1) n f
  r2 : NRowL W (.slice p2 m c2) m g
  s1 : Sh (.slice p1 n c1)
  s2 : Sh (.slice p2 m c2)
  d1 : ∀ a, p1 = some a → 0 < n → a.block ≠ B
  d2 : ∀ a, p2 = some a → 0 < m → a.block ≠ B
  ok : rightB n f m g = true
abbrev BxD (B db : Nat) (a b c d : Value) : World → Prop := fun wz => wz.cell? ⟨B, 0, none⟩ = some a ∧ wz.cell? ⟨B, 1, none⟩ = some b ∧ wz.cell? ⟨db, 0, none⟩ = some c ∧ wz.cell? ⟨db, 1, none⟩ = some d
theorem BxD.old {B db : Nat} {a b c d : Value} {w w' : World} (u : Old w w') (h : BxD B db a b c d w) : BxD B db a b c d w' := ⟨u.keep h.1, u.keep h.2.1, u.keep h.2.2.1, u.keep h.2.2.2⟩
theorem AtB.old {B : Nat} {p1 p2 : Option Addr} {c1 c2 n m : Nat} {f g : Nat → Int} {W W' : World} (h : AtB B p1 p2 c1 c2 n m f g W) (u : Old W W') : AtB B p1 p2 c1 c2 n m f g W' :=
  ⟨u.keep h.k0, u.keep h.k1, u.keepF h.k0 h.f0, u.keepF h.k1 h.f1, h.r1.old u, h.r2.old u, h.s1, h.s2, h.d1, h.d2, h.ok⟩
theorem NRowL.far {w : World} {p : Option Addr} {n c B o : Nat} {f : Nat → Int} (u : Value) (h : NRowL w (.slice p n c) n f) (hd : ∀ a, p = some a → a.block ≠ B) : NRowL (w.setCell ⟨B, o, none⟩ u) (.slice p n c) n f := by
  obtain ⟨a1, p', c', e, a2, a3, hc⟩ := h
  cases e
  refine ⟨a1, p, c, rfl, a2, a3, fun i hi => ?_⟩
  obtain ⟨g, off, e, hx⟩ := hc i hi
  refine ⟨g, off, e, ?_⟩
  have := hd _ e
  rw [World.cell?_setCell_other _ _ _ _ (by intro q; cases q; exact this rfl)]
  exact hx
theorem AtB.put {B : Nat} {W : World} {u0 u1 : Value} {p1 p2 : Option Addr} {c1 c2 n m : Nat} {f g : Nat → Int} (g0 : W.cell? ⟨B, 0, none⟩ = some u0) (g1 : W.cell? ⟨B, 1, none⟩ = some u1) (f0 : W.frozen? ⟨B, 0, none⟩ = false) (f1 : W.frozen? ⟨B, 1, none⟩ = false) (r1 : NRowL W (.slice p1 n c1) n f) (r2 : NRowL W (.slice p2 m c2) m g) (s1 : Sh (.slice p1 n c1)) (s2 : Sh (.slice p2 m c2)) (d1 : ∀ a, p1 = some a → a.block ≠ B) (d2 : ∀ a, p2 = some a → a.block ≠ B) (ok : rightB n f m g = true) :
    AtB B p1 p2 c1 c2 n m f g ((W.setCell ⟨B, 0, none⟩ (.slice p1 n c1)).setCell ⟨B, 1, none⟩ (.slice p2 m c2)) := by
  have k := two_set g0 g1 (.slice p1 n c1) (.slice p2 m c2)
  exact ⟨k.1, k.2, by rw [World.frozen?_setCell, World.frozen?_setCell]; exact f0, by rw [World.frozen?_setCell, World.frozen?_setCell]; exact f1, (r1.far _ d1).far _ d1, (r2.far _ d2).far _ d2, s1, s2, fun a e _ => d1 a e, fun a e _ => d2 a e, ok⟩
theorem far_of {w : World} {p : Option Addr} {n c : Nat} {f : Nat → Int} (h : NRowL w (.slice p n c) n f) : ∀ a, p = some a → 0 < n → a.block < w.heap.size := by
  intro a ha hn
  obtain ⟨_, p', c', e, _, _, hc⟩ := h
  cases e
  obtain ⟨g, off, e2, hcell⟩ := hc 0 hn
  rw [ha] at e2
  cases e2
  exact World.block_lt_of_cell? w _ hcell
set_option maxHeartbeats 8000000 in
set_option maxRecDepth 20000 in
theorem changesLaw (v0 v1 v2 : Value) (w : World) (h0 : CfB w v0) (h1 : ∃ (n : Nat) (f : Nat → Int), NRowL w v1 n f) (h2 : ∃ (n : Nat) (f : Nat → Int), NRowL w v2 n f) :
    Calls Try.prog 3 #[v0, v1, v2] w fun e w' => e = .returned (.bool true) ∧ Old w w' := by
  obtain ⟨a1, a2, n, m, f, g, rfl, r1, r2, s1, s2⟩ := h0
  obtain ⟨nk, fk, hk⟩ := h1
  obtain ⟨nn, fn, hn⟩ := h2
  have R1 := hid r1
  have R2 := hid r2
  have S1 := hid s1
  have S2 := hid s2
  obtain ⟨_, p1, c1, rfl, _⟩ := r1
  obtain ⟨_, p2, c2, rfl, _⟩ := r2
  obtain ⟨hnk, pk, ck, rfl, _, _, hkc⟩ := hk
  obtain ⟨hnn, pn, cn, rfl, _, _, hnc⟩ := hn
  have HK := hid hkc
  have HN := hid hnc
  clear hkc hnc s1 s2
  go_enter Try.func3, Try.ntmps3
  go_upto_region 3 with (go_at_call 8; refine (alive_any _).mono ?_; rintro e w1 ⟨rfl, o1⟩; have O1 := hid (((Old.refl w).alloc _).trans o1); have x0 : w1.cell? ⟨w.heap.size, 0, none⟩ = some (.slice p1 n c1) := o1.keep (by simp); have x1 : w1.cell? ⟨w.heap.size, 1, none⟩ = some (.slice p2 m c2) := o1.keep (by simp); have y0 : w1.frozen? ⟨w.heap.size, 0, none⟩ = false := o1.keepF (v := .slice p1 n c1) (by simp) (by simp); have y1 : w1.frozen? ⟨w.heap.size, 1, none⟩ = false := o1.keepF (v := .slice p2 m c2) (by simp) (by simp); clear o1)
  have HRi := hid (right_any (.slice p1 n c1) (.slice p2 m c2) n m f g w1 (R1.out.old O1.out) (R2.out.old O1.out))
  cases hr : rightB n f m g with
  | false =>
    rw [hr] at HRi
    go_wp2_with (go_at_call 9; refine HRi.out.mono ?_; rintro e w2 ⟨rfl, o2⟩; have O2 := hid (O1.out.trans o2); clear o2)
    go_ret
    exact ⟨rfl, O2.out⟩
  | true =>
    rw [hr] at HRi
    have HA := hid (show AtB w.heap.size p1 p2 c1 c2 n m f g w1 from ⟨x0, x1, y0, y1, R1.out.old O1.out, R2.out.old O1.out, S1.out, S2.out, fun a e q => Nat.ne_of_lt (far_of R1.out a e q), fun a e q => Nat.ne_of_lt (far_of R2.out a e q), hr⟩)
    go_upto_region 5 with (go_at_call 9; refine HRi.out.mono ?_; rintro e w2 ⟨rfl, o2⟩; have O2 := hid (O1.out.trans o2); have HA2 := hid (HA.out.old o2); clear o2)
    clear HRi HA O1 x0 x1 y0 y1 R1 R2 S1 S2
    go_upto_region 6 with (fail)
    generalize hB : w.heap.size = B at *
    go_loopw [20] (fun i wr => ∃ (j : Nat) (p1 p2 : Option Addr) (c1 c2 n m : Nat) (f g : Nat → Int), j ≤ nk ∧ i = .int .i64 (j : Nat) ∧ AtB B p1 p2 c1 c2 n m f g wr ∧ Old w wr) (fun i _ => nk - (intOf i).toNat)
    case atStart => exact ⟨0, p1, p2, c1, c2, n, m, f, g, Nat.zero_le _, rfl, HA2.out, O2.out⟩
    case round =>
      obtain ⟨j, q1, q2, e1, e2, n', m', f', g', hj, rfl, ha, hu⟩ := hrel
      have HA := hid ha
      have HU := hid hu
      have x0 := ha.k0
      have x1 := ha.k1
      clear ha hu HA2 O2
      by_cases hlt : j < nk
      · obtain ⟨kb, ko, rfl, kc⟩ := HK.out j hlt
        have ic0 := HU.out.keep kc
        have l1 : (0 : Int) ≤ (j : Int) := by omega
        have l2 : (j : Int) < (nk : Int) := by omega
        clear kc
        generalize fk j = kd at *
        by_cases hln : j < nn
        · obtain ⟨nb, no, rfl, nc⟩ := HN.out j hln
          have ic1 := HU.out.keep nc
          have l3 : ¬ ((j : Int) ≥ (nn : Int)) := by omega
          have l4 : (j : Int) < (nn : Int) := by omega
          clear nc
          generalize fn j = x at *
          by_cases hF : fltC n' f' m' g' kd x = 0
          · have HX := hid (show Calls Try.prog 10 #[.agg #[.slice q1 n' e1, .slice q2 m' e2], .int .i64 kd, .int .i64 x] wr fun e w' => ∃ t1 z1 t2 z2, e = .returned (.tuple #[.agg #[.slice t1 (nxV kd x (lsI f' n')).length z1, .slice t2 (nxL kd x (lsI g' m')).length z2], .int .i64 0]) ∧ OwnI wr.heap.size w' (.slice t1 (nxV kd x (lsI f' n')).length z1) (nxV kd x (lsI f' n')) ∧ OwnI wr.heap.size w' (.slice t2 (nxL kd x (lsI g' m')).length z2) (nxL kd x (lsI g' m')) ∧ Old wr w' from by
              refine (next_any _ _ n' m' f' g' kd x wr HA.out.r1 HA.out.r2 HA.out.s1 HA.out.s2).mono ?_
              rintro e w' ⟨u, q⟩
              rcases q with ⟨h, _⟩ | ⟨_, v1, v2, rfl, o1, o2⟩
              · exact absurd hF h
              · obtain ⟨t1, z1, rfl⟩ := o1.len
                obtain ⟨t2, z2, rfl⟩ := o2.len
                exact ⟨t1, z1, t2, z2, rfl, o1, o2, u⟩)
            have HRt := hid (rightG (next_right hF))
            have HVo := hid (nx_voter hF)
            have HMe := hid (nx_member hF)
            have HVo' := hid (fun y hy => nx_voter' n' m' f' g' kd x y hy)
            have HMe' := hid (fun y hy => nx_member' n' m' f' g' kd x y hy)
            have HSm := hid (And.intro (riK_few _ _ (rightB_parts (rightG (next_right hF))).2.1) (riK_few _ _ (rightB_parts (rightG (next_right hF))).2.2.1))
            generalize nxV kd x (lsI f' n') = V at *
            generalize nxL kd x (lsI g' m') = M at *
            clear hF
            go_upto_region 11 with (go_at_call 10; refine HX.out.mono ?_; rintro e w3 ⟨t1, z1, t2, z2, rfl, o1, o2, u3⟩; have V1 := hid o1; have V2 := hid o2; have U3 := hid u3; clear o1 o2 u3)
            have D0 : (w3.alloc (.cells #[.slice t1 V.length z1, .slice t2 M.length z2] 24)).cell? ⟨w3.heap.size, 0, none⟩ = some (.slice t1 V.length z1) := by simp
            have D1 : (w3.alloc (.cells #[.slice t1 V.length z1, .slice t2 M.length z2] 24)).cell? ⟨w3.heap.size, 1, none⟩ = some (.slice t2 M.length z2) := by simp
            have HA4 := hid (HA.out.old (U3.out.alloc (.cells #[.slice t1 V.length z1, .slice t2 M.length z2] 24)))
            have HU4 := hid ((HU.out.trans U3.out).alloc (.cells #[.slice t1 V.length z1, .slice t2 M.length z2] 24))
            have HW1 := hid ((V1.out.rowG (by have := HSm.out.1; omega)).old ((Old.refl w3).alloc (.cells #[.slice t1 V.length z1, .slice t2 M.length z2] 24)))
            have HW2 := hid ((V2.out.rowG (by have := HSm.out.2; omega)).old ((Old.refl w3).alloc (.cells #[.slice t1 V.length z1, .slice t2 M.length z2] 24)))
            have HSh := hid (And.intro V1.out.sh V2.out.sh)
            have HFar := hid (show (∀ a, t1 = some a → a.block ≠ B) ∧ (∀ a, t2 = some a → a.block ≠ B) from by
              have hlt := HA.out.k0
              have hb : B < wr.heap.size := World.block_lt_of_cell? wr _ hlt
              refine ⟨fun a e => ?_, fun a e => ?_⟩
              · subst e
                have := (World.ownsRow.lt V1.out a.block rfl).1
                omega
              · subst e
                have := (World.ownsRow.lt V2.out a.block rfl).1
                omega)
            generalize w3.alloc (.cells #[.slice t1 V.length z1, .slice t2 M.length z2] 24) = w4 at *
            generalize w3.heap.size = db at *
            clear HX U3 V1 V2 HA HU x0 x1 ic0 ic1
            have HRi := hid (fun (W : World) (u : Old w4 W) => right_any (.slice t1 V.length z1) (.slice t2 M.length z2) V.length M.length (gI V) (gI M) W (HW1.out.old u) (HW2.out.old u))
            rw [HRt.out] at HRi
            have HMb := hid (fun (W : World) (u : Old w4 W) => member_any (.slice t1 V.length z1) (.slice t2 M.length z2) V.length M.length (gI V) (gI M) x W (HW1.out.old u) (HW2.out.old u))
            rw [HMe.out] at HMb
            have HVt := hid (fun (W : World) (u : Old w4 W) => voter_any (.slice t1 V.length z1) (.slice t2 M.length z2) V.length M.length (gI V) (gI M) x W (HW1.out.old u) (HW2.out.old u))
            rw [HVo.out] at HVt
            have hb3 : ((kd != 3) != (kd != 3)) = false := by simp
            have hb2 : ((kd == 2) != (kd == 2)) = false := by simp
            go_upto_region 14 with (first | (go_at_call 9; refine (HRi.out _ (Old.refl _)).mono ?_; rintro e w5 ⟨rfl, u5⟩; have U5 := hid u5; have D2 := u5.keep D0; have D3 := u5.keep D1; clear u5) | (go_at_call 11; refine (HMb.out _ U5.out).mono ?_; rintro e w6 ⟨rfl, u6⟩; have U6 := hid (U5.out.trans u6); have D4 := u6.keep D2; have D5 := u6.keep D3; clear u6) | (go_at_call 12; refine (HVt.out _ U6.out).mono ?_; rintro e w7 ⟨rfl, u7⟩; have U7 := hid (U6.out.trans u7); have D6 := u7.keep D4; have D7 := u7.keep D5; clear u7))
            have HA7 := hid (HA4.out.old U7.out)
            have HU7 := hid (HU4.out.trans U7.out)
            have HY1 := hid (HW1.out.old U7.out)
            have HY2 := hid (HW2.out.old U7.out)
            clear HRi HMb HVt U5 U6 U7 D0 D1 D2 D3 D4 D5 HA4 HU4 HW1 HW2 hb2 hb3
            go_upto_region 15 with (fail)
            go_loopw [12] (fun i wz => ∃ y : Nat, 1 ≤ y ∧ y ≤ 8 ∧ i = .int .i64 (y : Nat) ∧ Old w7 wz) (fun i _ => 8 - (intOf i).toNat)
            case atStart => exact ⟨1, by omega, by omega, rfl, Old.refl _⟩
            case round =>
              obtain ⟨y, hy1, hy8, rfl, hz⟩ := hrel
              have HZ := hid hz
              have HBx := hid (show BxD B db (.slice q1 n' e1) (.slice q2 m' e2) (.slice t1 V.length z1) (.slice t2 M.length z2) wr from ⟨hz.keep HA7.out.k0, hz.keep HA7.out.k1, hz.keep D6, hz.keep D7⟩)
              clear hz
              by_cases hy : y ≤ 7
              · have m1 : (y : Int) ≤ 7 := by omega
                by_cases hyx : (y : Int) = x
                · have hne : ((y : Int) == x) = true := by simpa using hyx
                  go_upto_region 17 with (fail)
                  refine wp_region_noPanic ?_
                  refine wp_region_held_drew (S := BxD B db (.slice q1 n' e1) (.slice q2 m' e2) (.slice t1 V.length z1) (.slice t2 M.length z2)) (by kernel_rfl) ?_ (fun hHeld => ?_)
                  · exact BxD.old ((Old.refl wr).drew) HBx.out
                  (try simp only [Act.put]); (try simp only [List.setIfInBounds_toArray]); (try simp only [List.set_cons_succ]); (try simp only [List.set_cons_zero])
                  clear hHeld
                  refine wpAnyH_take (i := 0) (oi := { dst := some 65, op := Op.move (Operand.tmp 12), type := 3, pos := "law.go:133", after := #[], guard := none }) (v := ?vk1) rfl (by kernel_rfl) (by kernel_rfl) (by kernel_rfl) (fun _ _ _ h => h) (Or.inl ⟨by rfl, ?hk1⟩) (BxD.old ((Old.refl wr).drew) HBx.out) ?rk1
                  case hk1 => (intro wz hSw; (try dsimp only at hSw); go_simp; try with_reducible rfl)
                  (try simp only [Act.put]); (try simp only [List.setIfInBounds_toArray]); (try simp only [List.set_cons_succ]); (try simp only [List.set_cons_zero])
                  refine wpAnyH_take (i := 1) (oi := { dst := some 66, op := Op.move (Operand.tmp 9), type := 3, pos := "law.go:133", after := #[], guard := none }) (v := ?vk2) rfl (by kernel_rfl) (by kernel_rfl) (by kernel_rfl) (fun _ _ _ h => h) (Or.inl ⟨by rfl, ?hk2⟩) (BxD.old ((Old.refl wr).drew) HBx.out) ?rk2
                  case hk2 => (intro wz hSw; (try dsimp only at hSw); go_simp; try with_reducible rfl)
                  (try simp only [Act.put]); (try simp only [List.setIfInBounds_toArray]); (try simp only [List.set_cons_succ]); (try simp only [List.set_cons_zero])
                  refine wpAnyH_take (i := 2) (oi := { dst := some 67, op := Op.binOp BinOp.neq 3 (Operand.tmp 65) (Operand.tmp 66) 3, type := 4, pos := "law.go:133", after := #[{ on := 0, ground := Ground.data }, { on := 1, ground := Ground.data }], guard := none }) (v := ?vk3) rfl (by kernel_rfl) (by kernel_rfl) (by kernel_rfl) (fun _ _ _ h => h) (Or.inl ⟨by rfl, ?hk3⟩) (BxD.old ((Old.refl wr).drew) HBx.out) ?rk3
                  case hk3 => (intro wz hSw; (try dsimp only at hSw); go_simp; try with_reducible rfl)
                  (try simp only [Act.put]); (try simp only [List.setIfInBounds_toArray]); (try simp only [List.set_cons_succ]); (try simp only [List.set_cons_zero])
                  refine wpAnyH_take (i := 3) (oi := { dst := some 68, op := Op.move (Operand.tmp 67), type := 4, pos := "law.go:133", after := #[{ on := 2, ground := Ground.data }], guard := none }) (v := ?vk4) rfl (by kernel_rfl) (by kernel_rfl) (by kernel_rfl) (fun _ _ _ h => h) (Or.inl ⟨by rfl, ?hk4⟩) (BxD.old ((Old.refl wr).drew) HBx.out) ?rk4
                  case hk4 => (intro wz hSw; (try dsimp only at hSw); go_simp; try with_reducible rfl)
                  (try simp only [Act.put]); (try simp only [List.setIfInBounds_toArray]); (try simp only [List.set_cons_succ]); (try simp only [List.set_cons_zero])
                  refine wpAnyH_take (i := 4) (oi := { dst := some 69, op := Op.load 24 (Operand.tmp 3), type := 24, pos := "law.go:133", after := #[{ on := 3, ground := Ground.guard }], guard := some (3, true) }) (v := undef) rfl (by kernel_rfl) (by kernel_rfl) (by kernel_rfl) (fun _ _ _ h => h) (Or.inr ⟨by rfl, rfl⟩) (BxD.old ((Old.refl wr).drew) HBx.out) ?_
                  (try simp only [Act.put]); (try simp only [List.setIfInBounds_toArray]); (try simp only [List.set_cons_succ]); (try simp only [List.set_cons_zero])
                  refine wpAnyH_take (i := 5) (oi := { dst := some 70, op := Op.move (Operand.tmp 12), type := 3, pos := "law.go:133", after := #[{ on := 3, ground := Ground.guard }], guard := some (3, true) }) (v := undef) rfl (by kernel_rfl) (by kernel_rfl) (by kernel_rfl) (fun _ _ _ h => h) (Or.inr ⟨by rfl, rfl⟩) (BxD.old ((Old.refl wr).drew) HBx.out) ?_
                  (try simp only [Act.put]); (try simp only [List.setIfInBounds_toArray]); (try simp only [List.set_cons_succ]); (try simp only [List.set_cons_zero])
                  refine wpAnyH_take (i := 6) (oi := { dst := some 71, op := Op.call { callee := Callee.value (Operand.func 12), args := #[Operand.tmp 69, Operand.tmp 70], argTypes := #[24, 3] }, type := 4, pos := "law.go:133", after := #[{ on := 4, ground := Ground.data }, { on := 5, ground := Ground.data }, { on := 3, ground := Ground.chain }, { on := 3, ground := Ground.guard }], guard := some (3, true) }) (v := undef) rfl (by kernel_rfl) (by kernel_rfl) (by kernel_rfl) (fun _ _ _ h => h) (Or.inr ⟨by rfl, rfl⟩) (BxD.old ((Old.refl wr).drew) HBx.out) ?_
                  (try simp only [Act.put]); (try simp only [List.setIfInBounds_toArray]); (try simp only [List.set_cons_succ]); (try simp only [List.set_cons_zero])
                  refine wpAnyH_take (i := 7) (oi := { dst := some 72, op := Op.load 24 (Operand.tmp 10), type := 24, pos := "law.go:133", after := #[{ on := 3, ground := Ground.guard }], guard := some (3, true) }) (v := undef) rfl (by kernel_rfl) (by kernel_rfl) (by kernel_rfl) (fun _ _ _ h => h) (Or.inr ⟨by rfl, rfl⟩) (BxD.old ((Old.refl wr).drew) HBx.out) ?_
                  (try simp only [Act.put]); (try simp only [List.setIfInBounds_toArray]); (try simp only [List.set_cons_succ]); (try simp only [List.set_cons_zero])
                  refine wpAnyH_take (i := 8) (oi := { dst := some 73, op := Op.move (Operand.tmp 12), type := 3, pos := "law.go:133", after := #[{ on := 3, ground := Ground.guard }], guard := some (3, true) }) (v := undef) rfl (by kernel_rfl) (by kernel_rfl) (by kernel_rfl) (fun _ _ _ h => h) (Or.inr ⟨by rfl, rfl⟩) (BxD.old ((Old.refl wr).drew) HBx.out) ?_
                  (try simp only [Act.put]); (try simp only [List.setIfInBounds_toArray]); (try simp only [List.set_cons_succ]); (try simp only [List.set_cons_zero])
                  refine wpAnyH_take (i := 9) (oi := { dst := some 74, op := Op.call { callee := Callee.value (Operand.func 12), args := #[Operand.tmp 72, Operand.tmp 73], argTypes := #[24, 3] }, type := 4, pos := "law.go:133", after := #[{ on := 7, ground := Ground.data }, { on := 8, ground := Ground.data }, { on := 6, ground := Ground.chain }, { on := 3, ground := Ground.guard }], guard := some (3, true) }) (v := undef) rfl (by kernel_rfl) (by kernel_rfl) (by kernel_rfl) (fun _ _ _ h => h) (Or.inr ⟨by rfl, rfl⟩) (BxD.old ((Old.refl wr).drew) HBx.out) ?_
                  (try simp only [Act.put]); (try simp only [List.setIfInBounds_toArray]); (try simp only [List.set_cons_succ]); (try simp only [List.set_cons_zero])
                  refine wpAnyH_take (i := 10) (oi := { dst := some 75, op := Op.binOp BinOp.neq 4 (Operand.tmp 71) (Operand.tmp 74) 4, type := 4, pos := "law.go:133", after := #[{ on := 6, ground := Ground.data }, { on := 9, ground := Ground.data }, { on := 3, ground := Ground.guard }], guard := some (3, true) }) (v := undef) rfl (by kernel_rfl) (by kernel_rfl) (by kernel_rfl) (fun _ _ _ h => h) (Or.inr ⟨by rfl, rfl⟩) (BxD.old ((Old.refl wr).drew) HBx.out) ?_
                  (try simp only [Act.put]); (try simp only [List.setIfInBounds_toArray]); (try simp only [List.set_cons_succ]); (try simp only [List.set_cons_zero])
                  refine wpAnyH_take (i := 11) (oi := { dst := some 76, op := Op.move (Operand.tmp 75), type := 4, pos := "law.go:133", after := #[{ on := 10, ground := Ground.data }, { on := 9, ground := Ground.chain }, { on := 3, ground := Ground.guard }], guard := some (3, true) }) (v := undef) rfl (by kernel_rfl) (by kernel_rfl) (by kernel_rfl) (fun _ _ _ h => h) (Or.inr ⟨by rfl, rfl⟩) (BxD.old ((Old.refl wr).drew) HBx.out) ?_
                  (try simp only [Act.put]); (try simp only [List.setIfInBounds_toArray]); (try simp only [List.set_cons_succ]); (try simp only [List.set_cons_zero])
                  refine wpAnyH_take (i := 12) (oi := { dst := some 77, op := Op.load 24 (Operand.tmp 3), type := 24, pos := "law.go:133", after := #[{ on := 11, ground := Ground.guard }], guard := some (11, false) }) (v := undef) rfl (by kernel_rfl) (by kernel_rfl) (by kernel_rfl) (fun _ _ _ h => h) (Or.inr ⟨by rfl, rfl⟩) (BxD.old ((Old.refl wr).drew) HBx.out) ?_
                  (try simp only [Act.put]); (try simp only [List.setIfInBounds_toArray]); (try simp only [List.set_cons_succ]); (try simp only [List.set_cons_zero])
                  refine wpAnyH_take (i := 13) (oi := { dst := some 78, op := Op.move (Operand.tmp 12), type := 3, pos := "law.go:133", after := #[{ on := 11, ground := Ground.guard }], guard := some (11, false) }) (v := undef) rfl (by kernel_rfl) (by kernel_rfl) (by kernel_rfl) (fun _ _ _ h => h) (Or.inr ⟨by rfl, rfl⟩) (BxD.old ((Old.refl wr).drew) HBx.out) ?_
                  (try simp only [Act.put]); (try simp only [List.setIfInBounds_toArray]); (try simp only [List.set_cons_succ]); (try simp only [List.set_cons_zero])
                  refine wpAnyH_take (i := 14) (oi := { dst := some 79, op := Op.call { callee := Callee.value (Operand.func 11), args := #[Operand.tmp 77, Operand.tmp 78], argTypes := #[24, 3] }, type := 4, pos := "law.go:133", after := #[{ on := 12, ground := Ground.data }, { on := 13, ground := Ground.data }, { on := 11, ground := Ground.chain }, { on := 11, ground := Ground.guard }], guard := some (11, false) }) (v := undef) rfl (by kernel_rfl) (by kernel_rfl) (by kernel_rfl) (fun _ _ _ h => h) (Or.inr ⟨by rfl, rfl⟩) (BxD.old ((Old.refl wr).drew) HBx.out) ?_
                  (try simp only [Act.put]); (try simp only [List.setIfInBounds_toArray]); (try simp only [List.set_cons_succ]); (try simp only [List.set_cons_zero])
                  refine wpAnyH_take (i := 15) (oi := { dst := some 80, op := Op.load 24 (Operand.tmp 10), type := 24, pos := "law.go:133", after := #[{ on := 11, ground := Ground.guard }], guard := some (11, false) }) (v := undef) rfl (by kernel_rfl) (by kernel_rfl) (by kernel_rfl) (fun _ _ _ h => h) (Or.inr ⟨by rfl, rfl⟩) (BxD.old ((Old.refl wr).drew) HBx.out) ?_
                  (try simp only [Act.put]); (try simp only [List.setIfInBounds_toArray]); (try simp only [List.set_cons_succ]); (try simp only [List.set_cons_zero])
                  refine wpAnyH_take (i := 16) (oi := { dst := some 81, op := Op.move (Operand.tmp 12), type := 3, pos := "law.go:133", after := #[{ on := 11, ground := Ground.guard }], guard := some (11, false) }) (v := undef) rfl (by kernel_rfl) (by kernel_rfl) (by kernel_rfl) (fun _ _ _ h => h) (Or.inr ⟨by rfl, rfl⟩) (BxD.old ((Old.refl wr).drew) HBx.out) ?_
                  (try simp only [Act.put]); (try simp only [List.setIfInBounds_toArray]); (try simp only [List.set_cons_succ]); (try simp only [List.set_cons_zero])
                  refine wpAnyH_take (i := 17) (oi := { dst := some 82, op := Op.call { callee := Callee.value (Operand.func 11), args := #[Operand.tmp 80, Operand.tmp 81], argTypes := #[24, 3] }, type := 4, pos := "law.go:133", after := #[{ on := 15, ground := Ground.data }, { on := 16, ground := Ground.data }, { on := 14, ground := Ground.chain }, { on := 11, ground := Ground.guard }], guard := some (11, false) }) (v := undef) rfl (by kernel_rfl) (by kernel_rfl) (by kernel_rfl) (fun _ _ _ h => h) (Or.inr ⟨by rfl, rfl⟩) (BxD.old ((Old.refl wr).drew) HBx.out) ?_
                  (try simp only [Act.put]); (try simp only [List.setIfInBounds_toArray]); (try simp only [List.set_cons_succ]); (try simp only [List.set_cons_zero])
                  refine wpAnyH_take (i := 18) (oi := { dst := some 83, op := Op.binOp BinOp.neq 4 (Operand.tmp 79) (Operand.tmp 82) 4, type := 4, pos := "law.go:133", after := #[{ on := 14, ground := Ground.data }, { on := 17, ground := Ground.data }, { on := 11, ground := Ground.guard }], guard := some (11, false) }) (v := undef) rfl (by kernel_rfl) (by kernel_rfl) (by kernel_rfl) (fun _ _ _ h => h) (Or.inr ⟨by rfl, rfl⟩) (BxD.old ((Old.refl wr).drew) HBx.out) ?_
                  (try simp only [Act.put]); (try simp only [List.setIfInBounds_toArray]); (try simp only [List.set_cons_succ]); (try simp only [List.set_cons_zero])
                  refine wpAnyH_take (i := 19) (oi := { dst := some 84, op := Op.pick (Operand.tmp 76) (Operand.const (Value.bool true)) (Operand.tmp 83), type := 4, pos := "law.go:133", after := #[{ on := 11, ground := Ground.data }, { on := 18, ground := Ground.data }, { on := 3, ground := Ground.guard }], guard := some (3, true) }) (v := undef) rfl (by kernel_rfl) (by kernel_rfl) (by kernel_rfl) (fun _ _ _ h => h) (Or.inr ⟨by rfl, rfl⟩) (BxD.old ((Old.refl wr).drew) HBx.out) ?_
                  (try simp only [Act.put]); (try simp only [List.setIfInBounds_toArray]); (try simp only [List.set_cons_succ]); (try simp only [List.set_cons_zero])
                  refine wpAnyH_take (i := 20) (oi := { dst := some 85, op := Op.pick (Operand.tmp 68) (Operand.tmp 84) (Operand.const (Value.bool false)), type := 4, pos := "law.go:133", after := #[{ on := 3, ground := Ground.data }, { on := 19, ground := Ground.data }], guard := none }) (v := ?vk5) rfl (by kernel_rfl) (by kernel_rfl) (by kernel_rfl) (fun _ _ _ h => h) (Or.inl ⟨by rfl, ?hk5⟩) (BxD.old ((Old.refl wr).drew) HBx.out) ?rk5
                  case hk5 => (intro wz hSw; (try dsimp only at hSw); go_simp; try with_reducible rfl)
                  (try simp only [Act.put]); (try simp only [List.setIfInBounds_toArray]); (try simp only [List.set_cons_succ]); (try simp only [List.set_cons_zero])
                  refine wpAnyH_done (by kernel_rfl) ?_ _
                  refine NoPanic.normal ?_
                  have UZ := hid ((Old.refl wr).drew)
                  go_wp2
                  go_roundw
                  case rel => exact ⟨y + 1, by omega, by omega, by go_num, HZ.out.trans UZ.out⟩
                  case measure => simp [intOf]; omega
                · have hne : ((y : Int) == x) = false := by simpa using hyx
                  have hne2 : ((y : Int) != x) = true := by rw [bne_iff_ne]; exact hyx
                  have hne3 : ¬ ((y : Int) = x) := hyx
                  have hne4 : decide ((y : Int) = x) = false := by simpa using hyx
                  have HQ1 := hid (HVo'.out (y : Int) hyx)
                  have HQ2 := hid (HMe'.out (y : Int) hyx)
                  have HV1 := hid (fun (W : World) (u : Old wr W) => voter_any (.slice q1 n' e1) (.slice q2 m' e2) n' m' f' g' (y : Int) W (HA7.out.r1.old (HZ.out.trans u)) (HA7.out.r2.old (HZ.out.trans u)))
                  have HV2 := hid (fun (W : World) (u : Old wr W) => voter_any (.slice t1 V.length z1) (.slice t2 M.length z2) V.length M.length (gI V) (gI M) (y : Int) W (HY1.out.old (HZ.out.trans u)) (HY2.out.old (HZ.out.trans u)))
                  have HM1 := hid (fun (W : World) (u : Old wr W) => member_any (.slice q1 n' e1) (.slice q2 m' e2) n' m' f' g' (y : Int) W (HA7.out.r1.old (HZ.out.trans u)) (HA7.out.r2.old (HZ.out.trans u)))
                  have HM2 := hid (fun (W : World) (u : Old wr W) => member_any (.slice t1 V.length z1) (.slice t2 M.length z2) V.length M.length (gI V) (gI M) (y : Int) W (HY1.out.old (HZ.out.trans u)) (HY2.out.old (HZ.out.trans u)))
                  rw [HQ1.out] at HV2
                  rw [HQ2.out] at HM2
                  generalize hasK f' (y : Int) n' = bv at *
                  generalize memB n' f' m' g' (y : Int) = bm at *
                  go_upto_region 17 with (fail)
                  cases bv <;> cases bm
                  · skip
                    refine wp_region_noPanic ?_
                    refine wp_region_held_drew (S := BxD B db (.slice q1 n' e1) (.slice q2 m' e2) (.slice t1 V.length z1) (.slice t2 M.length z2)) (by kernel_rfl) ?_ (fun hHeld => ?_)
                    · exact BxD.old ((Old.refl wr).drew) HBx.out
                    (try simp only [Act.put]); (try simp only [List.setIfInBounds_toArray]); (try simp only [List.set_cons_succ]); (try simp only [List.set_cons_zero])
                    clear hHeld
                    refine wpAnyH_take (i := 0) (oi := { dst := some 65, op := Op.move (Operand.tmp 12), type := 3, pos := "law.go:133", after := #[], guard := none }) (v := ?vk6) rfl (by kernel_rfl) (by kernel_rfl) (by kernel_rfl) (fun _ _ _ h => h) (Or.inl ⟨by rfl, ?hk6⟩) (BxD.old ((Old.refl wr).drew) HBx.out) ?rk6
                    case hk6 => (intro wz hSw; (try dsimp only at hSw); go_simp; try with_reducible rfl)
                    (try simp only [Act.put]); (try simp only [List.setIfInBounds_toArray]); (try simp only [List.set_cons_succ]); (try simp only [List.set_cons_zero])
                    refine wpAnyH_take (i := 1) (oi := { dst := some 66, op := Op.move (Operand.tmp 9), type := 3, pos := "law.go:133", after := #[], guard := none }) (v := ?vk7) rfl (by kernel_rfl) (by kernel_rfl) (by kernel_rfl) (fun _ _ _ h => h) (Or.inl ⟨by rfl, ?hk7⟩) (BxD.old ((Old.refl wr).drew) HBx.out) ?rk7
                    case hk7 => (intro wz hSw; (try dsimp only at hSw); go_simp; try with_reducible rfl)
                    (try simp only [Act.put]); (try simp only [List.setIfInBounds_toArray]); (try simp only [List.set_cons_succ]); (try simp only [List.set_cons_zero])
                    refine wpAnyH_take (i := 2) (oi := { dst := some 67, op := Op.binOp BinOp.neq 3 (Operand.tmp 65) (Operand.tmp 66) 3, type := 4, pos := "law.go:133", after := #[{ on := 0, ground := Ground.data }, { on := 1, ground := Ground.data }], guard := none }) (v := ?vk8) rfl (by kernel_rfl) (by kernel_rfl) (by kernel_rfl) (fun _ _ _ h => h) (Or.inl ⟨by rfl, ?hk8⟩) (BxD.old ((Old.refl wr).drew) HBx.out) ?rk8
                    case hk8 => (intro wz hSw; (try dsimp only at hSw); go_simp; try with_reducible rfl)
                    (try simp only [Act.put]); (try simp only [List.setIfInBounds_toArray]); (try simp only [List.set_cons_succ]); (try simp only [List.set_cons_zero])
                    refine wpAnyH_take (i := 3) (oi := { dst := some 68, op := Op.move (Operand.tmp 67), type := 4, pos := "law.go:133", after := #[{ on := 2, ground := Ground.data }], guard := none }) (v := ?vk9) rfl (by kernel_rfl) (by kernel_rfl) (by kernel_rfl) (fun _ _ _ h => h) (Or.inl ⟨by rfl, ?hk9⟩) (BxD.old ((Old.refl wr).drew) HBx.out) ?rk9
                    case hk9 => (intro wz hSw; (try dsimp only at hSw); go_simp; try with_reducible rfl)
                    (try simp only [Act.put]); (try simp only [List.setIfInBounds_toArray]); (try simp only [List.set_cons_succ]); (try simp only [List.set_cons_zero])
                    refine wpAnyH_take (i := 4) (oi := { dst := some 69, op := Op.load 24 (Operand.tmp 3), type := 24, pos := "law.go:133", after := #[{ on := 3, ground := Ground.guard }], guard := some (3, true) }) (v := ?vk10) rfl (by kernel_rfl) (by kernel_rfl) (by kernel_rfl) (fun _ _ _ h => h) (Or.inl ⟨by rfl, ?hk10⟩) (BxD.old ((Old.refl wr).drew) HBx.out) ?rk10
                    case hk10 => (intro wz hSw; (try dsimp only at hSw); go_simp; try with_reducible rfl)
                    (try simp only [Act.put]); (try simp only [List.setIfInBounds_toArray]); (try simp only [List.set_cons_succ]); (try simp only [List.set_cons_zero])
                    refine wpAnyH_take (i := 5) (oi := { dst := some 70, op := Op.move (Operand.tmp 12), type := 3, pos := "law.go:133", after := #[{ on := 3, ground := Ground.guard }], guard := some (3, true) }) (v := ?vk11) rfl (by kernel_rfl) (by kernel_rfl) (by kernel_rfl) (fun _ _ _ h => h) (Or.inl ⟨by rfl, ?hk11⟩) (BxD.old ((Old.refl wr).drew) HBx.out) ?rk11
                    case hk11 => (intro wz hSw; (try dsimp only at hSw); go_simp; try with_reducible rfl)
                    (try simp only [Act.put]); (try simp only [List.setIfInBounds_toArray]); (try simp only [List.set_cons_succ]); (try simp only [List.set_cons_zero])
                    refine wpAnyH_take (i := 7) (oi := { dst := some 72, op := Op.load 24 (Operand.tmp 10), type := 24, pos := "law.go:133", after := #[{ on := 3, ground := Ground.guard }], guard := some (3, true) }) (v := ?vk12) rfl (by kernel_rfl) (by kernel_rfl) (by kernel_rfl) (fun _ _ _ h => h) (Or.inl ⟨by rfl, ?hk12⟩) (BxD.old ((Old.refl wr).drew) HBx.out) ?rk12
                    case hk12 => (intro wz hSw; (try dsimp only at hSw); go_simp; try with_reducible rfl)
                    (try simp only [Act.put]); (try simp only [List.setIfInBounds_toArray]); (try simp only [List.set_cons_succ]); (try simp only [List.set_cons_zero])
                    refine wpAnyH_take (i := 8) (oi := { dst := some 73, op := Op.move (Operand.tmp 12), type := 3, pos := "law.go:133", after := #[{ on := 3, ground := Ground.guard }], guard := some (3, true) }) (v := ?vk13) rfl (by kernel_rfl) (by kernel_rfl) (by kernel_rfl) (fun _ _ _ h => h) (Or.inl ⟨by rfl, ?hk13⟩) (BxD.old ((Old.refl wr).drew) HBx.out) ?rk13
                    case hk13 => (intro wz hSw; (try dsimp only at hSw); go_simp; try with_reducible rfl)
                    (try simp only [Act.put]); (try simp only [List.setIfInBounds_toArray]); (try simp only [List.set_cons_succ]); (try simp only [List.set_cons_zero])
                    refine wpAnyH_ready (rs := [6]) (by kernel_rfl) (by simp) ?_
                    refine AllReadyH.cons (o := { dst := some 71, op := Op.call { callee := Callee.value (Operand.func 12), args := #[Operand.tmp 69, Operand.tmp 70], argTypes := #[24, 3] }, type := 4, pos := "law.go:133", after := #[{ on := 4, ground := Ground.data }, { on := 5, ground := Ground.data }, { on := 3, ground := Ground.chain }, { on := 3, ground := Ground.guard }], guard := some (3, true) }) rfl (fun K hK => ?_) AllReadyH.nil
                    refine wantCall2 ?_ 12 (.tmp 69) (.tmp 70) #[24, 3] ?_ (.agg #[.slice q1 n' e1, .slice q2 m' e2]) (.int .i64 (y : Nat)) ?_ ?_ ?_ ((enters_of Try.func12 (by kernel_rfl) rfl) _ _) ?_
                    · rfl
                    · rfl
                    · rfl
                    · rfl
                    · rfl
                    refine (HV1.out _ ((Old.refl wr).drew)).mono ?_
                    rintro o x14 ⟨rfl, b14⟩
                    refine ⟨_, rfl, ?_⟩
                    have U14 := ((Old.refl wr).drew).trans b14
                    refine hK.out _ _ (BxD.old U14 HBx.out) (fun _ => ?_)
                    clear hK K
                    (try simp only [Act.put]); (try simp only [List.setIfInBounds_toArray]); (try simp only [List.set_cons_succ]); (try simp only [List.set_cons_zero])
                    refine wpAnyH_ready (rs := [9]) (by kernel_rfl) (by simp) ?_
                    refine AllReadyH.cons (o := { dst := some 74, op := Op.call { callee := Callee.value (Operand.func 12), args := #[Operand.tmp 72, Operand.tmp 73], argTypes := #[24, 3] }, type := 4, pos := "law.go:133", after := #[{ on := 7, ground := Ground.data }, { on := 8, ground := Ground.data }, { on := 6, ground := Ground.chain }, { on := 3, ground := Ground.guard }], guard := some (3, true) }) rfl (fun K hK => ?_) AllReadyH.nil
                    refine wantCall2 ?_ 12 (.tmp 72) (.tmp 73) #[24, 3] ?_ (.agg #[.slice t1 V.length z1, .slice t2 M.length z2]) (.int .i64 (y : Nat)) ?_ ?_ ?_ ((enters_of Try.func12 (by kernel_rfl) rfl) _ _) ?_
                    · rfl
                    · rfl
                    · rfl
                    · rfl
                    · rfl
                    refine (HV2.out _ U14).mono ?_
                    rintro o x15 ⟨rfl, b15⟩
                    refine ⟨_, rfl, ?_⟩
                    have U15 := U14.trans b15
                    refine hK.out _ _ (BxD.old U15 HBx.out) (fun _ => ?_)
                    clear hK K
                    (try simp only [Act.put]); (try simp only [List.setIfInBounds_toArray]); (try simp only [List.set_cons_succ]); (try simp only [List.set_cons_zero])
                    refine wpAnyH_take (i := 10) (oi := { dst := some 75, op := Op.binOp BinOp.neq 4 (Operand.tmp 71) (Operand.tmp 74) 4, type := 4, pos := "law.go:133", after := #[{ on := 6, ground := Ground.data }, { on := 9, ground := Ground.data }, { on := 3, ground := Ground.guard }], guard := some (3, true) }) (v := ?vk16) rfl (by kernel_rfl) (by kernel_rfl) (by kernel_rfl) (fun _ _ _ h => h) (Or.inl ⟨by rfl, ?hk16⟩) (BxD.old U15 HBx.out) ?rk16
                    case hk16 => (intro wz hSw; (try dsimp only at hSw); go_simp; try with_reducible rfl)
                    (try simp only [Act.put]); (try simp only [List.setIfInBounds_toArray]); (try simp only [List.set_cons_succ]); (try simp only [List.set_cons_zero])
                    refine wpAnyH_take (i := 11) (oi := { dst := some 76, op := Op.move (Operand.tmp 75), type := 4, pos := "law.go:133", after := #[{ on := 10, ground := Ground.data }, { on := 9, ground := Ground.chain }, { on := 3, ground := Ground.guard }], guard := some (3, true) }) (v := ?vk17) rfl (by kernel_rfl) (by kernel_rfl) (by kernel_rfl) (fun _ _ _ h => h) (Or.inl ⟨by rfl, ?hk17⟩) (BxD.old U15 HBx.out) ?rk17
                    case hk17 => (intro wz hSw; (try dsimp only at hSw); go_simp; try with_reducible rfl)
                    (try simp only [Act.put]); (try simp only [List.setIfInBounds_toArray]); (try simp only [List.set_cons_succ]); (try simp only [List.set_cons_zero])
                    refine wpAnyH_take (i := 12) (oi := { dst := some 77, op := Op.load 24 (Operand.tmp 3), type := 24, pos := "law.go:133", after := #[{ on := 11, ground := Ground.guard }], guard := some (11, false) }) (v := ?vk18) rfl (by kernel_rfl) (by kernel_rfl) (by kernel_rfl) (fun _ _ _ h => h) (Or.inl ⟨by rfl, ?hk18⟩) (BxD.old U15 HBx.out) ?rk18
                    case hk18 => (intro wz hSw; (try dsimp only at hSw); go_simp; try with_reducible rfl)
                    (try simp only [Act.put]); (try simp only [List.setIfInBounds_toArray]); (try simp only [List.set_cons_succ]); (try simp only [List.set_cons_zero])
                    refine wpAnyH_take (i := 13) (oi := { dst := some 78, op := Op.move (Operand.tmp 12), type := 3, pos := "law.go:133", after := #[{ on := 11, ground := Ground.guard }], guard := some (11, false) }) (v := ?vk19) rfl (by kernel_rfl) (by kernel_rfl) (by kernel_rfl) (fun _ _ _ h => h) (Or.inl ⟨by rfl, ?hk19⟩) (BxD.old U15 HBx.out) ?rk19
                    case hk19 => (intro wz hSw; (try dsimp only at hSw); go_simp; try with_reducible rfl)
                    (try simp only [Act.put]); (try simp only [List.setIfInBounds_toArray]); (try simp only [List.set_cons_succ]); (try simp only [List.set_cons_zero])
                    refine wpAnyH_take (i := 15) (oi := { dst := some 80, op := Op.load 24 (Operand.tmp 10), type := 24, pos := "law.go:133", after := #[{ on := 11, ground := Ground.guard }], guard := some (11, false) }) (v := ?vk20) rfl (by kernel_rfl) (by kernel_rfl) (by kernel_rfl) (fun _ _ _ h => h) (Or.inl ⟨by rfl, ?hk20⟩) (BxD.old U15 HBx.out) ?rk20
                    case hk20 => (intro wz hSw; (try dsimp only at hSw); go_simp; try with_reducible rfl)
                    (try simp only [Act.put]); (try simp only [List.setIfInBounds_toArray]); (try simp only [List.set_cons_succ]); (try simp only [List.set_cons_zero])
                    refine wpAnyH_take (i := 16) (oi := { dst := some 81, op := Op.move (Operand.tmp 12), type := 3, pos := "law.go:133", after := #[{ on := 11, ground := Ground.guard }], guard := some (11, false) }) (v := ?vk21) rfl (by kernel_rfl) (by kernel_rfl) (by kernel_rfl) (fun _ _ _ h => h) (Or.inl ⟨by rfl, ?hk21⟩) (BxD.old U15 HBx.out) ?rk21
                    case hk21 => (intro wz hSw; (try dsimp only at hSw); go_simp; try with_reducible rfl)
                    (try simp only [Act.put]); (try simp only [List.setIfInBounds_toArray]); (try simp only [List.set_cons_succ]); (try simp only [List.set_cons_zero])
                    refine wpAnyH_ready (rs := [14]) (by kernel_rfl) (by simp) ?_
                    refine AllReadyH.cons (o := { dst := some 79, op := Op.call { callee := Callee.value (Operand.func 11), args := #[Operand.tmp 77, Operand.tmp 78], argTypes := #[24, 3] }, type := 4, pos := "law.go:133", after := #[{ on := 12, ground := Ground.data }, { on := 13, ground := Ground.data }, { on := 11, ground := Ground.chain }, { on := 11, ground := Ground.guard }], guard := some (11, false) }) rfl (fun K hK => ?_) AllReadyH.nil
                    refine wantCall2 ?_ 11 (.tmp 77) (.tmp 78) #[24, 3] ?_ (.agg #[.slice q1 n' e1, .slice q2 m' e2]) (.int .i64 (y : Nat)) ?_ ?_ ?_ ((enters_of Try.func11 (by kernel_rfl) rfl) _ _) ?_
                    · rfl
                    · rfl
                    · rfl
                    · rfl
                    · rfl
                    refine (HM1.out _ U15).mono ?_
                    rintro o x22 ⟨rfl, b22⟩
                    refine ⟨_, rfl, ?_⟩
                    have U22 := U15.trans b22
                    refine hK.out _ _ (BxD.old U22 HBx.out) (fun _ => ?_)
                    clear hK K
                    (try simp only [Act.put]); (try simp only [List.setIfInBounds_toArray]); (try simp only [List.set_cons_succ]); (try simp only [List.set_cons_zero])
                    refine wpAnyH_ready (rs := [17]) (by kernel_rfl) (by simp) ?_
                    refine AllReadyH.cons (o := { dst := some 82, op := Op.call { callee := Callee.value (Operand.func 11), args := #[Operand.tmp 80, Operand.tmp 81], argTypes := #[24, 3] }, type := 4, pos := "law.go:133", after := #[{ on := 15, ground := Ground.data }, { on := 16, ground := Ground.data }, { on := 14, ground := Ground.chain }, { on := 11, ground := Ground.guard }], guard := some (11, false) }) rfl (fun K hK => ?_) AllReadyH.nil
                    refine wantCall2 ?_ 11 (.tmp 80) (.tmp 81) #[24, 3] ?_ (.agg #[.slice t1 V.length z1, .slice t2 M.length z2]) (.int .i64 (y : Nat)) ?_ ?_ ?_ ((enters_of Try.func11 (by kernel_rfl) rfl) _ _) ?_
                    · rfl
                    · rfl
                    · rfl
                    · rfl
                    · rfl
                    refine (HM2.out _ U22).mono ?_
                    rintro o x23 ⟨rfl, b23⟩
                    refine ⟨_, rfl, ?_⟩
                    have U23 := U22.trans b23
                    refine hK.out _ _ (BxD.old U23 HBx.out) (fun _ => ?_)
                    clear hK K
                    (try simp only [Act.put]); (try simp only [List.setIfInBounds_toArray]); (try simp only [List.set_cons_succ]); (try simp only [List.set_cons_zero])
                    refine wpAnyH_take (i := 18) (oi := { dst := some 83, op := Op.binOp BinOp.neq 4 (Operand.tmp 79) (Operand.tmp 82) 4, type := 4, pos := "law.go:133", after := #[{ on := 14, ground := Ground.data }, { on := 17, ground := Ground.data }, { on := 11, ground := Ground.guard }], guard := some (11, false) }) (v := ?vk24) rfl (by kernel_rfl) (by kernel_rfl) (by kernel_rfl) (fun _ _ _ h => h) (Or.inl ⟨by rfl, ?hk24⟩) (BxD.old U23 HBx.out) ?rk24
                    case hk24 => (intro wz hSw; (try dsimp only at hSw); go_simp; try with_reducible rfl)
                    (try simp only [Act.put]); (try simp only [List.setIfInBounds_toArray]); (try simp only [List.set_cons_succ]); (try simp only [List.set_cons_zero])
                    refine wpAnyH_take (i := 19) (oi := { dst := some 84, op := Op.pick (Operand.tmp 76) (Operand.const (Value.bool true)) (Operand.tmp 83), type := 4, pos := "law.go:133", after := #[{ on := 11, ground := Ground.data }, { on := 18, ground := Ground.data }, { on := 3, ground := Ground.guard }], guard := some (3, true) }) (v := ?vk25) rfl (by kernel_rfl) (by kernel_rfl) (by kernel_rfl) (fun _ _ _ h => h) (Or.inl ⟨by rfl, ?hk25⟩) (BxD.old U23 HBx.out) ?rk25
                    case hk25 => (intro wz hSw; (try dsimp only at hSw); go_simp; try with_reducible rfl)
                    (try simp only [Act.put]); (try simp only [List.setIfInBounds_toArray]); (try simp only [List.set_cons_succ]); (try simp only [List.set_cons_zero])
                    refine wpAnyH_take (i := 20) (oi := { dst := some 85, op := Op.pick (Operand.tmp 68) (Operand.tmp 84) (Operand.const (Value.bool false)), type := 4, pos := "law.go:133", after := #[{ on := 3, ground := Ground.data }, { on := 19, ground := Ground.data }], guard := none }) (v := ?vk26) rfl (by kernel_rfl) (by kernel_rfl) (by kernel_rfl) (fun _ _ _ h => h) (Or.inl ⟨by rfl, ?hk26⟩) (BxD.old U23 HBx.out) ?rk26
                    case hk26 => (intro wz hSw; (try dsimp only at hSw); go_simp; try with_reducible rfl)
                    (try simp only [Act.put]); (try simp only [List.setIfInBounds_toArray]); (try simp only [List.set_cons_succ]); (try simp only [List.set_cons_zero])
                    refine wpAnyH_done (by kernel_rfl) ?_ _
                    refine NoPanic.normal ?_
                    have UZ := hid U23
                    go_wp2
                    go_roundw
                    case rel => exact ⟨y + 1, by omega, by omega, by go_num, HZ.out.trans UZ.out⟩
                    case measure => simp [intOf]; omega
                  · skip
                    refine wp_region_noPanic ?_
                    refine wp_region_held_drew (S := BxD B db (.slice q1 n' e1) (.slice q2 m' e2) (.slice t1 V.length z1) (.slice t2 M.length z2)) (by kernel_rfl) ?_ (fun hHeld => ?_)
                    · exact BxD.old ((Old.refl wr).drew) HBx.out
                    (try simp only [Act.put]); (try simp only [List.setIfInBounds_toArray]); (try simp only [List.set_cons_succ]); (try simp only [List.set_cons_zero])
                    clear hHeld
                    refine wpAnyH_take (i := 0) (oi := { dst := some 65, op := Op.move (Operand.tmp 12), type := 3, pos := "law.go:133", after := #[], guard := none }) (v := ?vk27) rfl (by kernel_rfl) (by kernel_rfl) (by kernel_rfl) (fun _ _ _ h => h) (Or.inl ⟨by rfl, ?hk27⟩) (BxD.old ((Old.refl wr).drew) HBx.out) ?rk27
                    case hk27 => (intro wz hSw; (try dsimp only at hSw); go_simp; try with_reducible rfl)
                    (try simp only [Act.put]); (try simp only [List.setIfInBounds_toArray]); (try simp only [List.set_cons_succ]); (try simp only [List.set_cons_zero])
                    refine wpAnyH_take (i := 1) (oi := { dst := some 66, op := Op.move (Operand.tmp 9), type := 3, pos := "law.go:133", after := #[], guard := none }) (v := ?vk28) rfl (by kernel_rfl) (by kernel_rfl) (by kernel_rfl) (fun _ _ _ h => h) (Or.inl ⟨by rfl, ?hk28⟩) (BxD.old ((Old.refl wr).drew) HBx.out) ?rk28
                    case hk28 => (intro wz hSw; (try dsimp only at hSw); go_simp; try with_reducible rfl)
                    (try simp only [Act.put]); (try simp only [List.setIfInBounds_toArray]); (try simp only [List.set_cons_succ]); (try simp only [List.set_cons_zero])
                    refine wpAnyH_take (i := 2) (oi := { dst := some 67, op := Op.binOp BinOp.neq 3 (Operand.tmp 65) (Operand.tmp 66) 3, type := 4, pos := "law.go:133", after := #[{ on := 0, ground := Ground.data }, { on := 1, ground := Ground.data }], guard := none }) (v := ?vk29) rfl (by kernel_rfl) (by kernel_rfl) (by kernel_rfl) (fun _ _ _ h => h) (Or.inl ⟨by rfl, ?hk29⟩) (BxD.old ((Old.refl wr).drew) HBx.out) ?rk29
                    case hk29 => (intro wz hSw; (try dsimp only at hSw); go_simp; try with_reducible rfl)
                    (try simp only [Act.put]); (try simp only [List.setIfInBounds_toArray]); (try simp only [List.set_cons_succ]); (try simp only [List.set_cons_zero])
                    refine wpAnyH_take (i := 3) (oi := { dst := some 68, op := Op.move (Operand.tmp 67), type := 4, pos := "law.go:133", after := #[{ on := 2, ground := Ground.data }], guard := none }) (v := ?vk30) rfl (by kernel_rfl) (by kernel_rfl) (by kernel_rfl) (fun _ _ _ h => h) (Or.inl ⟨by rfl, ?hk30⟩) (BxD.old ((Old.refl wr).drew) HBx.out) ?rk30
                    case hk30 => (intro wz hSw; (try dsimp only at hSw); go_simp; try with_reducible rfl)
                    (try simp only [Act.put]); (try simp only [List.setIfInBounds_toArray]); (try simp only [List.set_cons_succ]); (try simp only [List.set_cons_zero])
                    refine wpAnyH_take (i := 4) (oi := { dst := some 69, op := Op.load 24 (Operand.tmp 3), type := 24, pos := "law.go:133", after := #[{ on := 3, ground := Ground.guard }], guard := some (3, true) }) (v := ?vk31) rfl (by kernel_rfl) (by kernel_rfl) (by kernel_rfl) (fun _ _ _ h => h) (Or.inl ⟨by rfl, ?hk31⟩) (BxD.old ((Old.refl wr).drew) HBx.out) ?rk31
                    case hk31 => (intro wz hSw; (try dsimp only at hSw); go_simp; try with_reducible rfl)
                    (try simp only [Act.put]); (try simp only [List.setIfInBounds_toArray]); (try simp only [List.set_cons_succ]); (try simp only [List.set_cons_zero])
                    refine wpAnyH_take (i := 5) (oi := { dst := some 70, op := Op.move (Operand.tmp 12), type := 3, pos := "law.go:133", after := #[{ on := 3, ground := Ground.guard }], guard := some (3, true) }) (v := ?vk32) rfl (by kernel_rfl) (by kernel_rfl) (by kernel_rfl) (fun _ _ _ h => h) (Or.inl ⟨by rfl, ?hk32⟩) (BxD.old ((Old.refl wr).drew) HBx.out) ?rk32
                    case hk32 => (intro wz hSw; (try dsimp only at hSw); go_simp; try with_reducible rfl)
                    (try simp only [Act.put]); (try simp only [List.setIfInBounds_toArray]); (try simp only [List.set_cons_succ]); (try simp only [List.set_cons_zero])
                    refine wpAnyH_take (i := 7) (oi := { dst := some 72, op := Op.load 24 (Operand.tmp 10), type := 24, pos := "law.go:133", after := #[{ on := 3, ground := Ground.guard }], guard := some (3, true) }) (v := ?vk33) rfl (by kernel_rfl) (by kernel_rfl) (by kernel_rfl) (fun _ _ _ h => h) (Or.inl ⟨by rfl, ?hk33⟩) (BxD.old ((Old.refl wr).drew) HBx.out) ?rk33
                    case hk33 => (intro wz hSw; (try dsimp only at hSw); go_simp; try with_reducible rfl)
                    (try simp only [Act.put]); (try simp only [List.setIfInBounds_toArray]); (try simp only [List.set_cons_succ]); (try simp only [List.set_cons_zero])
                    refine wpAnyH_take (i := 8) (oi := { dst := some 73, op := Op.move (Operand.tmp 12), type := 3, pos := "law.go:133", after := #[{ on := 3, ground := Ground.guard }], guard := some (3, true) }) (v := ?vk34) rfl (by kernel_rfl) (by kernel_rfl) (by kernel_rfl) (fun _ _ _ h => h) (Or.inl ⟨by rfl, ?hk34⟩) (BxD.old ((Old.refl wr).drew) HBx.out) ?rk34
                    case hk34 => (intro wz hSw; (try dsimp only at hSw); go_simp; try with_reducible rfl)
                    (try simp only [Act.put]); (try simp only [List.setIfInBounds_toArray]); (try simp only [List.set_cons_succ]); (try simp only [List.set_cons_zero])
                    refine wpAnyH_ready (rs := [6]) (by kernel_rfl) (by simp) ?_
                    refine AllReadyH.cons (o := { dst := some 71, op := Op.call { callee := Callee.value (Operand.func 12), args := #[Operand.tmp 69, Operand.tmp 70], argTypes := #[24, 3] }, type := 4, pos := "law.go:133", after := #[{ on := 4, ground := Ground.data }, { on := 5, ground := Ground.data }, { on := 3, ground := Ground.chain }, { on := 3, ground := Ground.guard }], guard := some (3, true) }) rfl (fun K hK => ?_) AllReadyH.nil
                    refine wantCall2 ?_ 12 (.tmp 69) (.tmp 70) #[24, 3] ?_ (.agg #[.slice q1 n' e1, .slice q2 m' e2]) (.int .i64 (y : Nat)) ?_ ?_ ?_ ((enters_of Try.func12 (by kernel_rfl) rfl) _ _) ?_
                    · rfl
                    · rfl
                    · rfl
                    · rfl
                    · rfl
                    refine (HV1.out _ ((Old.refl wr).drew)).mono ?_
                    rintro o x35 ⟨rfl, b35⟩
                    refine ⟨_, rfl, ?_⟩
                    have U35 := ((Old.refl wr).drew).trans b35
                    refine hK.out _ _ (BxD.old U35 HBx.out) (fun _ => ?_)
                    clear hK K
                    (try simp only [Act.put]); (try simp only [List.setIfInBounds_toArray]); (try simp only [List.set_cons_succ]); (try simp only [List.set_cons_zero])
                    refine wpAnyH_ready (rs := [9]) (by kernel_rfl) (by simp) ?_
                    refine AllReadyH.cons (o := { dst := some 74, op := Op.call { callee := Callee.value (Operand.func 12), args := #[Operand.tmp 72, Operand.tmp 73], argTypes := #[24, 3] }, type := 4, pos := "law.go:133", after := #[{ on := 7, ground := Ground.data }, { on := 8, ground := Ground.data }, { on := 6, ground := Ground.chain }, { on := 3, ground := Ground.guard }], guard := some (3, true) }) rfl (fun K hK => ?_) AllReadyH.nil
                    refine wantCall2 ?_ 12 (.tmp 72) (.tmp 73) #[24, 3] ?_ (.agg #[.slice t1 V.length z1, .slice t2 M.length z2]) (.int .i64 (y : Nat)) ?_ ?_ ?_ ((enters_of Try.func12 (by kernel_rfl) rfl) _ _) ?_
                    · rfl
                    · rfl
                    · rfl
                    · rfl
                    · rfl
                    refine (HV2.out _ U35).mono ?_
                    rintro o x36 ⟨rfl, b36⟩
                    refine ⟨_, rfl, ?_⟩
                    have U36 := U35.trans b36
                    refine hK.out _ _ (BxD.old U36 HBx.out) (fun _ => ?_)
                    clear hK K
                    (try simp only [Act.put]); (try simp only [List.setIfInBounds_toArray]); (try simp only [List.set_cons_succ]); (try simp only [List.set_cons_zero])
                    refine wpAnyH_take (i := 10) (oi := { dst := some 75, op := Op.binOp BinOp.neq 4 (Operand.tmp 71) (Operand.tmp 74) 4, type := 4, pos := "law.go:133", after := #[{ on := 6, ground := Ground.data }, { on := 9, ground := Ground.data }, { on := 3, ground := Ground.guard }], guard := some (3, true) }) (v := ?vk37) rfl (by kernel_rfl) (by kernel_rfl) (by kernel_rfl) (fun _ _ _ h => h) (Or.inl ⟨by rfl, ?hk37⟩) (BxD.old U36 HBx.out) ?rk37
                    case hk37 => (intro wz hSw; (try dsimp only at hSw); go_simp; try with_reducible rfl)
                    (try simp only [Act.put]); (try simp only [List.setIfInBounds_toArray]); (try simp only [List.set_cons_succ]); (try simp only [List.set_cons_zero])
                    refine wpAnyH_take (i := 11) (oi := { dst := some 76, op := Op.move (Operand.tmp 75), type := 4, pos := "law.go:133", after := #[{ on := 10, ground := Ground.data }, { on := 9, ground := Ground.chain }, { on := 3, ground := Ground.guard }], guard := some (3, true) }) (v := ?vk38) rfl (by kernel_rfl) (by kernel_rfl) (by kernel_rfl) (fun _ _ _ h => h) (Or.inl ⟨by rfl, ?hk38⟩) (BxD.old U36 HBx.out) ?rk38
                    case hk38 => (intro wz hSw; (try dsimp only at hSw); go_simp; try with_reducible rfl)
                    (try simp only [Act.put]); (try simp only [List.setIfInBounds_toArray]); (try simp only [List.set_cons_succ]); (try simp only [List.set_cons_zero])
                    refine wpAnyH_take (i := 12) (oi := { dst := some 77, op := Op.load 24 (Operand.tmp 3), type := 24, pos := "law.go:133", after := #[{ on := 11, ground := Ground.guard }], guard := some (11, false) }) (v := ?vk39) rfl (by kernel_rfl) (by kernel_rfl) (by kernel_rfl) (fun _ _ _ h => h) (Or.inl ⟨by rfl, ?hk39⟩) (BxD.old U36 HBx.out) ?rk39
                    case hk39 => (intro wz hSw; (try dsimp only at hSw); go_simp; try with_reducible rfl)
                    (try simp only [Act.put]); (try simp only [List.setIfInBounds_toArray]); (try simp only [List.set_cons_succ]); (try simp only [List.set_cons_zero])
                    refine wpAnyH_take (i := 13) (oi := { dst := some 78, op := Op.move (Operand.tmp 12), type := 3, pos := "law.go:133", after := #[{ on := 11, ground := Ground.guard }], guard := some (11, false) }) (v := ?vk40) rfl (by kernel_rfl) (by kernel_rfl) (by kernel_rfl) (fun _ _ _ h => h) (Or.inl ⟨by rfl, ?hk40⟩) (BxD.old U36 HBx.out) ?rk40
                    case hk40 => (intro wz hSw; (try dsimp only at hSw); go_simp; try with_reducible rfl)
                    (try simp only [Act.put]); (try simp only [List.setIfInBounds_toArray]); (try simp only [List.set_cons_succ]); (try simp only [List.set_cons_zero])
                    refine wpAnyH_take (i := 15) (oi := { dst := some 80, op := Op.load 24 (Operand.tmp 10), type := 24, pos := "law.go:133", after := #[{ on := 11, ground := Ground.guard }], guard := some (11, false) }) (v := ?vk41) rfl (by kernel_rfl) (by kernel_rfl) (by kernel_rfl) (fun _ _ _ h => h) (Or.inl ⟨by rfl, ?hk41⟩) (BxD.old U36 HBx.out) ?rk41
                    case hk41 => (intro wz hSw; (try dsimp only at hSw); go_simp; try with_reducible rfl)
                    (try simp only [Act.put]); (try simp only [List.setIfInBounds_toArray]); (try simp only [List.set_cons_succ]); (try simp only [List.set_cons_zero])
                    refine wpAnyH_take (i := 16) (oi := { dst := some 81, op := Op.move (Operand.tmp 12), type := 3, pos := "law.go:133", after := #[{ on := 11, ground := Ground.guard }], guard := some (11, false) }) (v := ?vk42) rfl (by kernel_rfl) (by kernel_rfl) (by kernel_rfl) (fun _ _ _ h => h) (Or.inl ⟨by rfl, ?hk42⟩) (BxD.old U36 HBx.out) ?rk42
                    case hk42 => (intro wz hSw; (try dsimp only at hSw); go_simp; try with_reducible rfl)
                    (try simp only [Act.put]); (try simp only [List.setIfInBounds_toArray]); (try simp only [List.set_cons_succ]); (try simp only [List.set_cons_zero])
                    refine wpAnyH_ready (rs := [14]) (by kernel_rfl) (by simp) ?_
                    refine AllReadyH.cons (o := { dst := some 79, op := Op.call { callee := Callee.value (Operand.func 11), args := #[Operand.tmp 77, Operand.tmp 78], argTypes := #[24, 3] }, type := 4, pos := "law.go:133", after := #[{ on := 12, ground := Ground.data }, { on := 13, ground := Ground.data }, { on := 11, ground := Ground.chain }, { on := 11, ground := Ground.guard }], guard := some (11, false) }) rfl (fun K hK => ?_) AllReadyH.nil
                    refine wantCall2 ?_ 11 (.tmp 77) (.tmp 78) #[24, 3] ?_ (.agg #[.slice q1 n' e1, .slice q2 m' e2]) (.int .i64 (y : Nat)) ?_ ?_ ?_ ((enters_of Try.func11 (by kernel_rfl) rfl) _ _) ?_
                    · rfl
                    · rfl
                    · rfl
                    · rfl
                    · rfl
                    refine (HM1.out _ U36).mono ?_
                    rintro o x43 ⟨rfl, b43⟩
                    refine ⟨_, rfl, ?_⟩
                    have U43 := U36.trans b43
                    refine hK.out _ _ (BxD.old U43 HBx.out) (fun _ => ?_)
                    clear hK K
                    (try simp only [Act.put]); (try simp only [List.setIfInBounds_toArray]); (try simp only [List.set_cons_succ]); (try simp only [List.set_cons_zero])
                    refine wpAnyH_ready (rs := [17]) (by kernel_rfl) (by simp) ?_
                    refine AllReadyH.cons (o := { dst := some 82, op := Op.call { callee := Callee.value (Operand.func 11), args := #[Operand.tmp 80, Operand.tmp 81], argTypes := #[24, 3] }, type := 4, pos := "law.go:133", after := #[{ on := 15, ground := Ground.data }, { on := 16, ground := Ground.data }, { on := 14, ground := Ground.chain }, { on := 11, ground := Ground.guard }], guard := some (11, false) }) rfl (fun K hK => ?_) AllReadyH.nil
                    refine wantCall2 ?_ 11 (.tmp 80) (.tmp 81) #[24, 3] ?_ (.agg #[.slice t1 V.length z1, .slice t2 M.length z2]) (.int .i64 (y : Nat)) ?_ ?_ ?_ ((enters_of Try.func11 (by kernel_rfl) rfl) _ _) ?_
                    · rfl
                    · rfl
                    · rfl
                    · rfl
                    · rfl
                    refine (HM2.out _ U43).mono ?_
                    rintro o x44 ⟨rfl, b44⟩
                    refine ⟨_, rfl, ?_⟩
                    have U44 := U43.trans b44
                    refine hK.out _ _ (BxD.old U44 HBx.out) (fun _ => ?_)
                    clear hK K
                    (try simp only [Act.put]); (try simp only [List.setIfInBounds_toArray]); (try simp only [List.set_cons_succ]); (try simp only [List.set_cons_zero])
                    refine wpAnyH_take (i := 18) (oi := { dst := some 83, op := Op.binOp BinOp.neq 4 (Operand.tmp 79) (Operand.tmp 82) 4, type := 4, pos := "law.go:133", after := #[{ on := 14, ground := Ground.data }, { on := 17, ground := Ground.data }, { on := 11, ground := Ground.guard }], guard := some (11, false) }) (v := ?vk45) rfl (by kernel_rfl) (by kernel_rfl) (by kernel_rfl) (fun _ _ _ h => h) (Or.inl ⟨by rfl, ?hk45⟩) (BxD.old U44 HBx.out) ?rk45
                    case hk45 => (intro wz hSw; (try dsimp only at hSw); go_simp; try with_reducible rfl)
                    (try simp only [Act.put]); (try simp only [List.setIfInBounds_toArray]); (try simp only [List.set_cons_succ]); (try simp only [List.set_cons_zero])
                    refine wpAnyH_take (i := 19) (oi := { dst := some 84, op := Op.pick (Operand.tmp 76) (Operand.const (Value.bool true)) (Operand.tmp 83), type := 4, pos := "law.go:133", after := #[{ on := 11, ground := Ground.data }, { on := 18, ground := Ground.data }, { on := 3, ground := Ground.guard }], guard := some (3, true) }) (v := ?vk46) rfl (by kernel_rfl) (by kernel_rfl) (by kernel_rfl) (fun _ _ _ h => h) (Or.inl ⟨by rfl, ?hk46⟩) (BxD.old U44 HBx.out) ?rk46
                    case hk46 => (intro wz hSw; (try dsimp only at hSw); go_simp; try with_reducible rfl)
                    (try simp only [Act.put]); (try simp only [List.setIfInBounds_toArray]); (try simp only [List.set_cons_succ]); (try simp only [List.set_cons_zero])
                    refine wpAnyH_take (i := 20) (oi := { dst := some 85, op := Op.pick (Operand.tmp 68) (Operand.tmp 84) (Operand.const (Value.bool false)), type := 4, pos := "law.go:133", after := #[{ on := 3, ground := Ground.data }, { on := 19, ground := Ground.data }], guard := none }) (v := ?vk47) rfl (by kernel_rfl) (by kernel_rfl) (by kernel_rfl) (fun _ _ _ h => h) (Or.inl ⟨by rfl, ?hk47⟩) (BxD.old U44 HBx.out) ?rk47
                    case hk47 => (intro wz hSw; (try dsimp only at hSw); go_simp; try with_reducible rfl)
                    (try simp only [Act.put]); (try simp only [List.setIfInBounds_toArray]); (try simp only [List.set_cons_succ]); (try simp only [List.set_cons_zero])
                    refine wpAnyH_done (by kernel_rfl) ?_ _
                    refine NoPanic.normal ?_
                    have UZ := hid U44
                    go_wp2
                    go_roundw
                    case rel => exact ⟨y + 1, by omega, by omega, by go_num, HZ.out.trans UZ.out⟩
                    case measure => simp [intOf]; omega
                  · skip
                    refine wp_region_noPanic ?_
                    refine wp_region_held_drew (S := BxD B db (.slice q1 n' e1) (.slice q2 m' e2) (.slice t1 V.length z1) (.slice t2 M.length z2)) (by kernel_rfl) ?_ (fun hHeld => ?_)
                    · exact BxD.old ((Old.refl wr).drew) HBx.out
                    (try simp only [Act.put]); (try simp only [List.setIfInBounds_toArray]); (try simp only [List.set_cons_succ]); (try simp only [List.set_cons_zero])
                    clear hHeld
                    refine wpAnyH_take (i := 0) (oi := { dst := some 65, op := Op.move (Operand.tmp 12), type := 3, pos := "law.go:133", after := #[], guard := none }) (v := ?vk48) rfl (by kernel_rfl) (by kernel_rfl) (by kernel_rfl) (fun _ _ _ h => h) (Or.inl ⟨by rfl, ?hk48⟩) (BxD.old ((Old.refl wr).drew) HBx.out) ?rk48
                    case hk48 => (intro wz hSw; (try dsimp only at hSw); go_simp; try with_reducible rfl)
                    (try simp only [Act.put]); (try simp only [List.setIfInBounds_toArray]); (try simp only [List.set_cons_succ]); (try simp only [List.set_cons_zero])
                    refine wpAnyH_take (i := 1) (oi := { dst := some 66, op := Op.move (Operand.tmp 9), type := 3, pos := "law.go:133", after := #[], guard := none }) (v := ?vk49) rfl (by kernel_rfl) (by kernel_rfl) (by kernel_rfl) (fun _ _ _ h => h) (Or.inl ⟨by rfl, ?hk49⟩) (BxD.old ((Old.refl wr).drew) HBx.out) ?rk49
                    case hk49 => (intro wz hSw; (try dsimp only at hSw); go_simp; try with_reducible rfl)
                    (try simp only [Act.put]); (try simp only [List.setIfInBounds_toArray]); (try simp only [List.set_cons_succ]); (try simp only [List.set_cons_zero])
                    refine wpAnyH_take (i := 2) (oi := { dst := some 67, op := Op.binOp BinOp.neq 3 (Operand.tmp 65) (Operand.tmp 66) 3, type := 4, pos := "law.go:133", after := #[{ on := 0, ground := Ground.data }, { on := 1, ground := Ground.data }], guard := none }) (v := ?vk50) rfl (by kernel_rfl) (by kernel_rfl) (by kernel_rfl) (fun _ _ _ h => h) (Or.inl ⟨by rfl, ?hk50⟩) (BxD.old ((Old.refl wr).drew) HBx.out) ?rk50
                    case hk50 => (intro wz hSw; (try dsimp only at hSw); go_simp; try with_reducible rfl)
                    (try simp only [Act.put]); (try simp only [List.setIfInBounds_toArray]); (try simp only [List.set_cons_succ]); (try simp only [List.set_cons_zero])
                    refine wpAnyH_take (i := 3) (oi := { dst := some 68, op := Op.move (Operand.tmp 67), type := 4, pos := "law.go:133", after := #[{ on := 2, ground := Ground.data }], guard := none }) (v := ?vk51) rfl (by kernel_rfl) (by kernel_rfl) (by kernel_rfl) (fun _ _ _ h => h) (Or.inl ⟨by rfl, ?hk51⟩) (BxD.old ((Old.refl wr).drew) HBx.out) ?rk51
                    case hk51 => (intro wz hSw; (try dsimp only at hSw); go_simp; try with_reducible rfl)
                    (try simp only [Act.put]); (try simp only [List.setIfInBounds_toArray]); (try simp only [List.set_cons_succ]); (try simp only [List.set_cons_zero])
                    refine wpAnyH_take (i := 4) (oi := { dst := some 69, op := Op.load 24 (Operand.tmp 3), type := 24, pos := "law.go:133", after := #[{ on := 3, ground := Ground.guard }], guard := some (3, true) }) (v := ?vk52) rfl (by kernel_rfl) (by kernel_rfl) (by kernel_rfl) (fun _ _ _ h => h) (Or.inl ⟨by rfl, ?hk52⟩) (BxD.old ((Old.refl wr).drew) HBx.out) ?rk52
                    case hk52 => (intro wz hSw; (try dsimp only at hSw); go_simp; try with_reducible rfl)
                    (try simp only [Act.put]); (try simp only [List.setIfInBounds_toArray]); (try simp only [List.set_cons_succ]); (try simp only [List.set_cons_zero])
                    refine wpAnyH_take (i := 5) (oi := { dst := some 70, op := Op.move (Operand.tmp 12), type := 3, pos := "law.go:133", after := #[{ on := 3, ground := Ground.guard }], guard := some (3, true) }) (v := ?vk53) rfl (by kernel_rfl) (by kernel_rfl) (by kernel_rfl) (fun _ _ _ h => h) (Or.inl ⟨by rfl, ?hk53⟩) (BxD.old ((Old.refl wr).drew) HBx.out) ?rk53
                    case hk53 => (intro wz hSw; (try dsimp only at hSw); go_simp; try with_reducible rfl)
                    (try simp only [Act.put]); (try simp only [List.setIfInBounds_toArray]); (try simp only [List.set_cons_succ]); (try simp only [List.set_cons_zero])
                    refine wpAnyH_take (i := 7) (oi := { dst := some 72, op := Op.load 24 (Operand.tmp 10), type := 24, pos := "law.go:133", after := #[{ on := 3, ground := Ground.guard }], guard := some (3, true) }) (v := ?vk54) rfl (by kernel_rfl) (by kernel_rfl) (by kernel_rfl) (fun _ _ _ h => h) (Or.inl ⟨by rfl, ?hk54⟩) (BxD.old ((Old.refl wr).drew) HBx.out) ?rk54
                    case hk54 => (intro wz hSw; (try dsimp only at hSw); go_simp; try with_reducible rfl)
                    (try simp only [Act.put]); (try simp only [List.setIfInBounds_toArray]); (try simp only [List.set_cons_succ]); (try simp only [List.set_cons_zero])
                    refine wpAnyH_take (i := 8) (oi := { dst := some 73, op := Op.move (Operand.tmp 12), type := 3, pos := "law.go:133", after := #[{ on := 3, ground := Ground.guard }], guard := some (3, true) }) (v := ?vk55) rfl (by kernel_rfl) (by kernel_rfl) (by kernel_rfl) (fun _ _ _ h => h) (Or.inl ⟨by rfl, ?hk55⟩) (BxD.old ((Old.refl wr).drew) HBx.out) ?rk55
                    case hk55 => (intro wz hSw; (try dsimp only at hSw); go_simp; try with_reducible rfl)
                    (try simp only [Act.put]); (try simp only [List.setIfInBounds_toArray]); (try simp only [List.set_cons_succ]); (try simp only [List.set_cons_zero])
                    refine wpAnyH_ready (rs := [6]) (by kernel_rfl) (by simp) ?_
                    refine AllReadyH.cons (o := { dst := some 71, op := Op.call { callee := Callee.value (Operand.func 12), args := #[Operand.tmp 69, Operand.tmp 70], argTypes := #[24, 3] }, type := 4, pos := "law.go:133", after := #[{ on := 4, ground := Ground.data }, { on := 5, ground := Ground.data }, { on := 3, ground := Ground.chain }, { on := 3, ground := Ground.guard }], guard := some (3, true) }) rfl (fun K hK => ?_) AllReadyH.nil
                    refine wantCall2 ?_ 12 (.tmp 69) (.tmp 70) #[24, 3] ?_ (.agg #[.slice q1 n' e1, .slice q2 m' e2]) (.int .i64 (y : Nat)) ?_ ?_ ?_ ((enters_of Try.func12 (by kernel_rfl) rfl) _ _) ?_
                    · rfl
                    · rfl
                    · rfl
                    · rfl
                    · rfl
                    refine (HV1.out _ ((Old.refl wr).drew)).mono ?_
                    rintro o x56 ⟨rfl, b56⟩
                    refine ⟨_, rfl, ?_⟩
                    have U56 := ((Old.refl wr).drew).trans b56
                    refine hK.out _ _ (BxD.old U56 HBx.out) (fun _ => ?_)
                    clear hK K
                    (try simp only [Act.put]); (try simp only [List.setIfInBounds_toArray]); (try simp only [List.set_cons_succ]); (try simp only [List.set_cons_zero])
                    refine wpAnyH_ready (rs := [9]) (by kernel_rfl) (by simp) ?_
                    refine AllReadyH.cons (o := { dst := some 74, op := Op.call { callee := Callee.value (Operand.func 12), args := #[Operand.tmp 72, Operand.tmp 73], argTypes := #[24, 3] }, type := 4, pos := "law.go:133", after := #[{ on := 7, ground := Ground.data }, { on := 8, ground := Ground.data }, { on := 6, ground := Ground.chain }, { on := 3, ground := Ground.guard }], guard := some (3, true) }) rfl (fun K hK => ?_) AllReadyH.nil
                    refine wantCall2 ?_ 12 (.tmp 72) (.tmp 73) #[24, 3] ?_ (.agg #[.slice t1 V.length z1, .slice t2 M.length z2]) (.int .i64 (y : Nat)) ?_ ?_ ?_ ((enters_of Try.func12 (by kernel_rfl) rfl) _ _) ?_
                    · rfl
                    · rfl
                    · rfl
                    · rfl
                    · rfl
                    refine (HV2.out _ U56).mono ?_
                    rintro o x57 ⟨rfl, b57⟩
                    refine ⟨_, rfl, ?_⟩
                    have U57 := U56.trans b57
                    refine hK.out _ _ (BxD.old U57 HBx.out) (fun _ => ?_)
                    clear hK K
                    (try simp only [Act.put]); (try simp only [List.setIfInBounds_toArray]); (try simp only [List.set_cons_succ]); (try simp only [List.set_cons_zero])
                    refine wpAnyH_take (i := 10) (oi := { dst := some 75, op := Op.binOp BinOp.neq 4 (Operand.tmp 71) (Operand.tmp 74) 4, type := 4, pos := "law.go:133", after := #[{ on := 6, ground := Ground.data }, { on := 9, ground := Ground.data }, { on := 3, ground := Ground.guard }], guard := some (3, true) }) (v := ?vk58) rfl (by kernel_rfl) (by kernel_rfl) (by kernel_rfl) (fun _ _ _ h => h) (Or.inl ⟨by rfl, ?hk58⟩) (BxD.old U57 HBx.out) ?rk58
                    case hk58 => (intro wz hSw; (try dsimp only at hSw); go_simp; try with_reducible rfl)
                    (try simp only [Act.put]); (try simp only [List.setIfInBounds_toArray]); (try simp only [List.set_cons_succ]); (try simp only [List.set_cons_zero])
                    refine wpAnyH_take (i := 11) (oi := { dst := some 76, op := Op.move (Operand.tmp 75), type := 4, pos := "law.go:133", after := #[{ on := 10, ground := Ground.data }, { on := 9, ground := Ground.chain }, { on := 3, ground := Ground.guard }], guard := some (3, true) }) (v := ?vk59) rfl (by kernel_rfl) (by kernel_rfl) (by kernel_rfl) (fun _ _ _ h => h) (Or.inl ⟨by rfl, ?hk59⟩) (BxD.old U57 HBx.out) ?rk59
                    case hk59 => (intro wz hSw; (try dsimp only at hSw); go_simp; try with_reducible rfl)
                    (try simp only [Act.put]); (try simp only [List.setIfInBounds_toArray]); (try simp only [List.set_cons_succ]); (try simp only [List.set_cons_zero])
                    refine wpAnyH_take (i := 12) (oi := { dst := some 77, op := Op.load 24 (Operand.tmp 3), type := 24, pos := "law.go:133", after := #[{ on := 11, ground := Ground.guard }], guard := some (11, false) }) (v := ?vk60) rfl (by kernel_rfl) (by kernel_rfl) (by kernel_rfl) (fun _ _ _ h => h) (Or.inl ⟨by rfl, ?hk60⟩) (BxD.old U57 HBx.out) ?rk60
                    case hk60 => (intro wz hSw; (try dsimp only at hSw); go_simp; try with_reducible rfl)
                    (try simp only [Act.put]); (try simp only [List.setIfInBounds_toArray]); (try simp only [List.set_cons_succ]); (try simp only [List.set_cons_zero])
                    refine wpAnyH_take (i := 13) (oi := { dst := some 78, op := Op.move (Operand.tmp 12), type := 3, pos := "law.go:133", after := #[{ on := 11, ground := Ground.guard }], guard := some (11, false) }) (v := ?vk61) rfl (by kernel_rfl) (by kernel_rfl) (by kernel_rfl) (fun _ _ _ h => h) (Or.inl ⟨by rfl, ?hk61⟩) (BxD.old U57 HBx.out) ?rk61
                    case hk61 => (intro wz hSw; (try dsimp only at hSw); go_simp; try with_reducible rfl)
                    (try simp only [Act.put]); (try simp only [List.setIfInBounds_toArray]); (try simp only [List.set_cons_succ]); (try simp only [List.set_cons_zero])
                    refine wpAnyH_take (i := 15) (oi := { dst := some 80, op := Op.load 24 (Operand.tmp 10), type := 24, pos := "law.go:133", after := #[{ on := 11, ground := Ground.guard }], guard := some (11, false) }) (v := ?vk62) rfl (by kernel_rfl) (by kernel_rfl) (by kernel_rfl) (fun _ _ _ h => h) (Or.inl ⟨by rfl, ?hk62⟩) (BxD.old U57 HBx.out) ?rk62
                    case hk62 => (intro wz hSw; (try dsimp only at hSw); go_simp; try with_reducible rfl)
                    (try simp only [Act.put]); (try simp only [List.setIfInBounds_toArray]); (try simp only [List.set_cons_succ]); (try simp only [List.set_cons_zero])
                    refine wpAnyH_take (i := 16) (oi := { dst := some 81, op := Op.move (Operand.tmp 12), type := 3, pos := "law.go:133", after := #[{ on := 11, ground := Ground.guard }], guard := some (11, false) }) (v := ?vk63) rfl (by kernel_rfl) (by kernel_rfl) (by kernel_rfl) (fun _ _ _ h => h) (Or.inl ⟨by rfl, ?hk63⟩) (BxD.old U57 HBx.out) ?rk63
                    case hk63 => (intro wz hSw; (try dsimp only at hSw); go_simp; try with_reducible rfl)
                    (try simp only [Act.put]); (try simp only [List.setIfInBounds_toArray]); (try simp only [List.set_cons_succ]); (try simp only [List.set_cons_zero])
                    refine wpAnyH_ready (rs := [14]) (by kernel_rfl) (by simp) ?_
                    refine AllReadyH.cons (o := { dst := some 79, op := Op.call { callee := Callee.value (Operand.func 11), args := #[Operand.tmp 77, Operand.tmp 78], argTypes := #[24, 3] }, type := 4, pos := "law.go:133", after := #[{ on := 12, ground := Ground.data }, { on := 13, ground := Ground.data }, { on := 11, ground := Ground.chain }, { on := 11, ground := Ground.guard }], guard := some (11, false) }) rfl (fun K hK => ?_) AllReadyH.nil
                    refine wantCall2 ?_ 11 (.tmp 77) (.tmp 78) #[24, 3] ?_ (.agg #[.slice q1 n' e1, .slice q2 m' e2]) (.int .i64 (y : Nat)) ?_ ?_ ?_ ((enters_of Try.func11 (by kernel_rfl) rfl) _ _) ?_
                    · rfl
                    · rfl
                    · rfl
                    · rfl
                    · rfl
                    refine (HM1.out _ U57).mono ?_
                    rintro o x64 ⟨rfl, b64⟩
                    refine ⟨_, rfl, ?_⟩
                    have U64 := U57.trans b64
                    refine hK.out _ _ (BxD.old U64 HBx.out) (fun _ => ?_)
                    clear hK K
                    (try simp only [Act.put]); (try simp only [List.setIfInBounds_toArray]); (try simp only [List.set_cons_succ]); (try simp only [List.set_cons_zero])
                    refine wpAnyH_ready (rs := [17]) (by kernel_rfl) (by simp) ?_
                    refine AllReadyH.cons (o := { dst := some 82, op := Op.call { callee := Callee.value (Operand.func 11), args := #[Operand.tmp 80, Operand.tmp 81], argTypes := #[24, 3] }, type := 4, pos := "law.go:133", after := #[{ on := 15, ground := Ground.data }, { on := 16, ground := Ground.data }, { on := 14, ground := Ground.chain }, { on := 11, ground := Ground.guard }], guard := some (11, false) }) rfl (fun K hK => ?_) AllReadyH.nil
                    refine wantCall2 ?_ 11 (.tmp 80) (.tmp 81) #[24, 3] ?_ (.agg #[.slice t1 V.length z1, .slice t2 M.length z2]) (.int .i64 (y : Nat)) ?_ ?_ ?_ ((enters_of Try.func11 (by kernel_rfl) rfl) _ _) ?_
                    · rfl
                    · rfl
                    · rfl
                    · rfl
                    · rfl
                    refine (HM2.out _ U64).mono ?_
                    rintro o x65 ⟨rfl, b65⟩
                    refine ⟨_, rfl, ?_⟩
                    have U65 := U64.trans b65
                    refine hK.out _ _ (BxD.old U65 HBx.out) (fun _ => ?_)
                    clear hK K
                    (try simp only [Act.put]); (try simp only [List.setIfInBounds_toArray]); (try simp only [List.set_cons_succ]); (try simp only [List.set_cons_zero])
                    refine wpAnyH_take (i := 18) (oi := { dst := some 83, op := Op.binOp BinOp.neq 4 (Operand.tmp 79) (Operand.tmp 82) 4, type := 4, pos := "law.go:133", after := #[{ on := 14, ground := Ground.data }, { on := 17, ground := Ground.data }, { on := 11, ground := Ground.guard }], guard := some (11, false) }) (v := ?vk66) rfl (by kernel_rfl) (by kernel_rfl) (by kernel_rfl) (fun _ _ _ h => h) (Or.inl ⟨by rfl, ?hk66⟩) (BxD.old U65 HBx.out) ?rk66
                    case hk66 => (intro wz hSw; (try dsimp only at hSw); go_simp; try with_reducible rfl)
                    (try simp only [Act.put]); (try simp only [List.setIfInBounds_toArray]); (try simp only [List.set_cons_succ]); (try simp only [List.set_cons_zero])
                    refine wpAnyH_take (i := 19) (oi := { dst := some 84, op := Op.pick (Operand.tmp 76) (Operand.const (Value.bool true)) (Operand.tmp 83), type := 4, pos := "law.go:133", after := #[{ on := 11, ground := Ground.data }, { on := 18, ground := Ground.data }, { on := 3, ground := Ground.guard }], guard := some (3, true) }) (v := ?vk67) rfl (by kernel_rfl) (by kernel_rfl) (by kernel_rfl) (fun _ _ _ h => h) (Or.inl ⟨by rfl, ?hk67⟩) (BxD.old U65 HBx.out) ?rk67
                    case hk67 => (intro wz hSw; (try dsimp only at hSw); go_simp; try with_reducible rfl)
                    (try simp only [Act.put]); (try simp only [List.setIfInBounds_toArray]); (try simp only [List.set_cons_succ]); (try simp only [List.set_cons_zero])
                    refine wpAnyH_take (i := 20) (oi := { dst := some 85, op := Op.pick (Operand.tmp 68) (Operand.tmp 84) (Operand.const (Value.bool false)), type := 4, pos := "law.go:133", after := #[{ on := 3, ground := Ground.data }, { on := 19, ground := Ground.data }], guard := none }) (v := ?vk68) rfl (by kernel_rfl) (by kernel_rfl) (by kernel_rfl) (fun _ _ _ h => h) (Or.inl ⟨by rfl, ?hk68⟩) (BxD.old U65 HBx.out) ?rk68
                    case hk68 => (intro wz hSw; (try dsimp only at hSw); go_simp; try with_reducible rfl)
                    (try simp only [Act.put]); (try simp only [List.setIfInBounds_toArray]); (try simp only [List.set_cons_succ]); (try simp only [List.set_cons_zero])
                    refine wpAnyH_done (by kernel_rfl) ?_ _
                    refine NoPanic.normal ?_
                    have UZ := hid U65
                    go_wp2
                    go_roundw
                    case rel => exact ⟨y + 1, by omega, by omega, by go_num, HZ.out.trans UZ.out⟩
                    case measure => simp [intOf]; omega
                  · skip
                    refine wp_region_noPanic ?_
                    refine wp_region_held_drew (S := BxD B db (.slice q1 n' e1) (.slice q2 m' e2) (.slice t1 V.length z1) (.slice t2 M.length z2)) (by kernel_rfl) ?_ (fun hHeld => ?_)
                    · exact BxD.old ((Old.refl wr).drew) HBx.out
                    (try simp only [Act.put]); (try simp only [List.setIfInBounds_toArray]); (try simp only [List.set_cons_succ]); (try simp only [List.set_cons_zero])
                    clear hHeld
                    refine wpAnyH_take (i := 0) (oi := { dst := some 65, op := Op.move (Operand.tmp 12), type := 3, pos := "law.go:133", after := #[], guard := none }) (v := ?vk69) rfl (by kernel_rfl) (by kernel_rfl) (by kernel_rfl) (fun _ _ _ h => h) (Or.inl ⟨by rfl, ?hk69⟩) (BxD.old ((Old.refl wr).drew) HBx.out) ?rk69
                    case hk69 => (intro wz hSw; (try dsimp only at hSw); go_simp; try with_reducible rfl)
                    (try simp only [Act.put]); (try simp only [List.setIfInBounds_toArray]); (try simp only [List.set_cons_succ]); (try simp only [List.set_cons_zero])
                    refine wpAnyH_take (i := 1) (oi := { dst := some 66, op := Op.move (Operand.tmp 9), type := 3, pos := "law.go:133", after := #[], guard := none }) (v := ?vk70) rfl (by kernel_rfl) (by kernel_rfl) (by kernel_rfl) (fun _ _ _ h => h) (Or.inl ⟨by rfl, ?hk70⟩) (BxD.old ((Old.refl wr).drew) HBx.out) ?rk70
                    case hk70 => (intro wz hSw; (try dsimp only at hSw); go_simp; try with_reducible rfl)
                    (try simp only [Act.put]); (try simp only [List.setIfInBounds_toArray]); (try simp only [List.set_cons_succ]); (try simp only [List.set_cons_zero])
                    refine wpAnyH_take (i := 2) (oi := { dst := some 67, op := Op.binOp BinOp.neq 3 (Operand.tmp 65) (Operand.tmp 66) 3, type := 4, pos := "law.go:133", after := #[{ on := 0, ground := Ground.data }, { on := 1, ground := Ground.data }], guard := none }) (v := ?vk71) rfl (by kernel_rfl) (by kernel_rfl) (by kernel_rfl) (fun _ _ _ h => h) (Or.inl ⟨by rfl, ?hk71⟩) (BxD.old ((Old.refl wr).drew) HBx.out) ?rk71
                    case hk71 => (intro wz hSw; (try dsimp only at hSw); go_simp; try with_reducible rfl)
                    (try simp only [Act.put]); (try simp only [List.setIfInBounds_toArray]); (try simp only [List.set_cons_succ]); (try simp only [List.set_cons_zero])
                    refine wpAnyH_take (i := 3) (oi := { dst := some 68, op := Op.move (Operand.tmp 67), type := 4, pos := "law.go:133", after := #[{ on := 2, ground := Ground.data }], guard := none }) (v := ?vk72) rfl (by kernel_rfl) (by kernel_rfl) (by kernel_rfl) (fun _ _ _ h => h) (Or.inl ⟨by rfl, ?hk72⟩) (BxD.old ((Old.refl wr).drew) HBx.out) ?rk72
                    case hk72 => (intro wz hSw; (try dsimp only at hSw); go_simp; try with_reducible rfl)
                    (try simp only [Act.put]); (try simp only [List.setIfInBounds_toArray]); (try simp only [List.set_cons_succ]); (try simp only [List.set_cons_zero])
                    refine wpAnyH_take (i := 4) (oi := { dst := some 69, op := Op.load 24 (Operand.tmp 3), type := 24, pos := "law.go:133", after := #[{ on := 3, ground := Ground.guard }], guard := some (3, true) }) (v := ?vk73) rfl (by kernel_rfl) (by kernel_rfl) (by kernel_rfl) (fun _ _ _ h => h) (Or.inl ⟨by rfl, ?hk73⟩) (BxD.old ((Old.refl wr).drew) HBx.out) ?rk73
                    case hk73 => (intro wz hSw; (try dsimp only at hSw); go_simp; try with_reducible rfl)
                    (try simp only [Act.put]); (try simp only [List.setIfInBounds_toArray]); (try simp only [List.set_cons_succ]); (try simp only [List.set_cons_zero])
                    refine wpAnyH_take (i := 5) (oi := { dst := some 70, op := Op.move (Operand.tmp 12), type := 3, pos := "law.go:133", after := #[{ on := 3, ground := Ground.guard }], guard := some (3, true) }) (v := ?vk74) rfl (by kernel_rfl) (by kernel_rfl) (by kernel_rfl) (fun _ _ _ h => h) (Or.inl ⟨by rfl, ?hk74⟩) (BxD.old ((Old.refl wr).drew) HBx.out) ?rk74
                    case hk74 => (intro wz hSw; (try dsimp only at hSw); go_simp; try with_reducible rfl)
                    (try simp only [Act.put]); (try simp only [List.setIfInBounds_toArray]); (try simp only [List.set_cons_succ]); (try simp only [List.set_cons_zero])
                    refine wpAnyH_take (i := 7) (oi := { dst := some 72, op := Op.load 24 (Operand.tmp 10), type := 24, pos := "law.go:133", after := #[{ on := 3, ground := Ground.guard }], guard := some (3, true) }) (v := ?vk75) rfl (by kernel_rfl) (by kernel_rfl) (by kernel_rfl) (fun _ _ _ h => h) (Or.inl ⟨by rfl, ?hk75⟩) (BxD.old ((Old.refl wr).drew) HBx.out) ?rk75
                    case hk75 => (intro wz hSw; (try dsimp only at hSw); go_simp; try with_reducible rfl)
                    (try simp only [Act.put]); (try simp only [List.setIfInBounds_toArray]); (try simp only [List.set_cons_succ]); (try simp only [List.set_cons_zero])
                    refine wpAnyH_take (i := 8) (oi := { dst := some 73, op := Op.move (Operand.tmp 12), type := 3, pos := "law.go:133", after := #[{ on := 3, ground := Ground.guard }], guard := some (3, true) }) (v := ?vk76) rfl (by kernel_rfl) (by kernel_rfl) (by kernel_rfl) (fun _ _ _ h => h) (Or.inl ⟨by rfl, ?hk76⟩) (BxD.old ((Old.refl wr).drew) HBx.out) ?rk76
                    case hk76 => (intro wz hSw; (try dsimp only at hSw); go_simp; try with_reducible rfl)
                    (try simp only [Act.put]); (try simp only [List.setIfInBounds_toArray]); (try simp only [List.set_cons_succ]); (try simp only [List.set_cons_zero])
                    refine wpAnyH_ready (rs := [6]) (by kernel_rfl) (by simp) ?_
                    refine AllReadyH.cons (o := { dst := some 71, op := Op.call { callee := Callee.value (Operand.func 12), args := #[Operand.tmp 69, Operand.tmp 70], argTypes := #[24, 3] }, type := 4, pos := "law.go:133", after := #[{ on := 4, ground := Ground.data }, { on := 5, ground := Ground.data }, { on := 3, ground := Ground.chain }, { on := 3, ground := Ground.guard }], guard := some (3, true) }) rfl (fun K hK => ?_) AllReadyH.nil
                    refine wantCall2 ?_ 12 (.tmp 69) (.tmp 70) #[24, 3] ?_ (.agg #[.slice q1 n' e1, .slice q2 m' e2]) (.int .i64 (y : Nat)) ?_ ?_ ?_ ((enters_of Try.func12 (by kernel_rfl) rfl) _ _) ?_
                    · rfl
                    · rfl
                    · rfl
                    · rfl
                    · rfl
                    refine (HV1.out _ ((Old.refl wr).drew)).mono ?_
                    rintro o x77 ⟨rfl, b77⟩
                    refine ⟨_, rfl, ?_⟩
                    have U77 := ((Old.refl wr).drew).trans b77
                    refine hK.out _ _ (BxD.old U77 HBx.out) (fun _ => ?_)
                    clear hK K
                    (try simp only [Act.put]); (try simp only [List.setIfInBounds_toArray]); (try simp only [List.set_cons_succ]); (try simp only [List.set_cons_zero])
                    refine wpAnyH_ready (rs := [9]) (by kernel_rfl) (by simp) ?_
                    refine AllReadyH.cons (o := { dst := some 74, op := Op.call { callee := Callee.value (Operand.func 12), args := #[Operand.tmp 72, Operand.tmp 73], argTypes := #[24, 3] }, type := 4, pos := "law.go:133", after := #[{ on := 7, ground := Ground.data }, { on := 8, ground := Ground.data }, { on := 6, ground := Ground.chain }, { on := 3, ground := Ground.guard }], guard := some (3, true) }) rfl (fun K hK => ?_) AllReadyH.nil
                    refine wantCall2 ?_ 12 (.tmp 72) (.tmp 73) #[24, 3] ?_ (.agg #[.slice t1 V.length z1, .slice t2 M.length z2]) (.int .i64 (y : Nat)) ?_ ?_ ?_ ((enters_of Try.func12 (by kernel_rfl) rfl) _ _) ?_
                    · rfl
                    · rfl
                    · rfl
                    · rfl
                    · rfl
                    refine (HV2.out _ U77).mono ?_
                    rintro o x78 ⟨rfl, b78⟩
                    refine ⟨_, rfl, ?_⟩
                    have U78 := U77.trans b78
                    refine hK.out _ _ (BxD.old U78 HBx.out) (fun _ => ?_)
                    clear hK K
                    (try simp only [Act.put]); (try simp only [List.setIfInBounds_toArray]); (try simp only [List.set_cons_succ]); (try simp only [List.set_cons_zero])
                    refine wpAnyH_take (i := 10) (oi := { dst := some 75, op := Op.binOp BinOp.neq 4 (Operand.tmp 71) (Operand.tmp 74) 4, type := 4, pos := "law.go:133", after := #[{ on := 6, ground := Ground.data }, { on := 9, ground := Ground.data }, { on := 3, ground := Ground.guard }], guard := some (3, true) }) (v := ?vk79) rfl (by kernel_rfl) (by kernel_rfl) (by kernel_rfl) (fun _ _ _ h => h) (Or.inl ⟨by rfl, ?hk79⟩) (BxD.old U78 HBx.out) ?rk79
                    case hk79 => (intro wz hSw; (try dsimp only at hSw); go_simp; try with_reducible rfl)
                    (try simp only [Act.put]); (try simp only [List.setIfInBounds_toArray]); (try simp only [List.set_cons_succ]); (try simp only [List.set_cons_zero])
                    refine wpAnyH_take (i := 11) (oi := { dst := some 76, op := Op.move (Operand.tmp 75), type := 4, pos := "law.go:133", after := #[{ on := 10, ground := Ground.data }, { on := 9, ground := Ground.chain }, { on := 3, ground := Ground.guard }], guard := some (3, true) }) (v := ?vk80) rfl (by kernel_rfl) (by kernel_rfl) (by kernel_rfl) (fun _ _ _ h => h) (Or.inl ⟨by rfl, ?hk80⟩) (BxD.old U78 HBx.out) ?rk80
                    case hk80 => (intro wz hSw; (try dsimp only at hSw); go_simp; try with_reducible rfl)
                    (try simp only [Act.put]); (try simp only [List.setIfInBounds_toArray]); (try simp only [List.set_cons_succ]); (try simp only [List.set_cons_zero])
                    refine wpAnyH_take (i := 12) (oi := { dst := some 77, op := Op.load 24 (Operand.tmp 3), type := 24, pos := "law.go:133", after := #[{ on := 11, ground := Ground.guard }], guard := some (11, false) }) (v := ?vk81) rfl (by kernel_rfl) (by kernel_rfl) (by kernel_rfl) (fun _ _ _ h => h) (Or.inl ⟨by rfl, ?hk81⟩) (BxD.old U78 HBx.out) ?rk81
                    case hk81 => (intro wz hSw; (try dsimp only at hSw); go_simp; try with_reducible rfl)
                    (try simp only [Act.put]); (try simp only [List.setIfInBounds_toArray]); (try simp only [List.set_cons_succ]); (try simp only [List.set_cons_zero])
                    refine wpAnyH_take (i := 13) (oi := { dst := some 78, op := Op.move (Operand.tmp 12), type := 3, pos := "law.go:133", after := #[{ on := 11, ground := Ground.guard }], guard := some (11, false) }) (v := ?vk82) rfl (by kernel_rfl) (by kernel_rfl) (by kernel_rfl) (fun _ _ _ h => h) (Or.inl ⟨by rfl, ?hk82⟩) (BxD.old U78 HBx.out) ?rk82
                    case hk82 => (intro wz hSw; (try dsimp only at hSw); go_simp; try with_reducible rfl)
                    (try simp only [Act.put]); (try simp only [List.setIfInBounds_toArray]); (try simp only [List.set_cons_succ]); (try simp only [List.set_cons_zero])
                    refine wpAnyH_take (i := 15) (oi := { dst := some 80, op := Op.load 24 (Operand.tmp 10), type := 24, pos := "law.go:133", after := #[{ on := 11, ground := Ground.guard }], guard := some (11, false) }) (v := ?vk83) rfl (by kernel_rfl) (by kernel_rfl) (by kernel_rfl) (fun _ _ _ h => h) (Or.inl ⟨by rfl, ?hk83⟩) (BxD.old U78 HBx.out) ?rk83
                    case hk83 => (intro wz hSw; (try dsimp only at hSw); go_simp; try with_reducible rfl)
                    (try simp only [Act.put]); (try simp only [List.setIfInBounds_toArray]); (try simp only [List.set_cons_succ]); (try simp only [List.set_cons_zero])
                    refine wpAnyH_take (i := 16) (oi := { dst := some 81, op := Op.move (Operand.tmp 12), type := 3, pos := "law.go:133", after := #[{ on := 11, ground := Ground.guard }], guard := some (11, false) }) (v := ?vk84) rfl (by kernel_rfl) (by kernel_rfl) (by kernel_rfl) (fun _ _ _ h => h) (Or.inl ⟨by rfl, ?hk84⟩) (BxD.old U78 HBx.out) ?rk84
                    case hk84 => (intro wz hSw; (try dsimp only at hSw); go_simp; try with_reducible rfl)
                    (try simp only [Act.put]); (try simp only [List.setIfInBounds_toArray]); (try simp only [List.set_cons_succ]); (try simp only [List.set_cons_zero])
                    refine wpAnyH_ready (rs := [14]) (by kernel_rfl) (by simp) ?_
                    refine AllReadyH.cons (o := { dst := some 79, op := Op.call { callee := Callee.value (Operand.func 11), args := #[Operand.tmp 77, Operand.tmp 78], argTypes := #[24, 3] }, type := 4, pos := "law.go:133", after := #[{ on := 12, ground := Ground.data }, { on := 13, ground := Ground.data }, { on := 11, ground := Ground.chain }, { on := 11, ground := Ground.guard }], guard := some (11, false) }) rfl (fun K hK => ?_) AllReadyH.nil
                    refine wantCall2 ?_ 11 (.tmp 77) (.tmp 78) #[24, 3] ?_ (.agg #[.slice q1 n' e1, .slice q2 m' e2]) (.int .i64 (y : Nat)) ?_ ?_ ?_ ((enters_of Try.func11 (by kernel_rfl) rfl) _ _) ?_
                    · rfl
                    · rfl
                    · rfl
                    · rfl
                    · rfl
                    refine (HM1.out _ U78).mono ?_
                    rintro o x85 ⟨rfl, b85⟩
                    refine ⟨_, rfl, ?_⟩
                    have U85 := U78.trans b85
                    refine hK.out _ _ (BxD.old U85 HBx.out) (fun _ => ?_)
                    clear hK K
                    (try simp only [Act.put]); (try simp only [List.setIfInBounds_toArray]); (try simp only [List.set_cons_succ]); (try simp only [List.set_cons_zero])
                    refine wpAnyH_ready (rs := [17]) (by kernel_rfl) (by simp) ?_
                    refine AllReadyH.cons (o := { dst := some 82, op := Op.call { callee := Callee.value (Operand.func 11), args := #[Operand.tmp 80, Operand.tmp 81], argTypes := #[24, 3] }, type := 4, pos := "law.go:133", after := #[{ on := 15, ground := Ground.data }, { on := 16, ground := Ground.data }, { on := 14, ground := Ground.chain }, { on := 11, ground := Ground.guard }], guard := some (11, false) }) rfl (fun K hK => ?_) AllReadyH.nil
                    refine wantCall2 ?_ 11 (.tmp 80) (.tmp 81) #[24, 3] ?_ (.agg #[.slice t1 V.length z1, .slice t2 M.length z2]) (.int .i64 (y : Nat)) ?_ ?_ ?_ ((enters_of Try.func11 (by kernel_rfl) rfl) _ _) ?_
                    · rfl
                    · rfl
                    · rfl
                    · rfl
                    · rfl
                    refine (HM2.out _ U85).mono ?_
                    rintro o x86 ⟨rfl, b86⟩
                    refine ⟨_, rfl, ?_⟩
                    have U86 := U85.trans b86
                    refine hK.out _ _ (BxD.old U86 HBx.out) (fun _ => ?_)
                    clear hK K
                    (try simp only [Act.put]); (try simp only [List.setIfInBounds_toArray]); (try simp only [List.set_cons_succ]); (try simp only [List.set_cons_zero])
                    refine wpAnyH_take (i := 18) (oi := { dst := some 83, op := Op.binOp BinOp.neq 4 (Operand.tmp 79) (Operand.tmp 82) 4, type := 4, pos := "law.go:133", after := #[{ on := 14, ground := Ground.data }, { on := 17, ground := Ground.data }, { on := 11, ground := Ground.guard }], guard := some (11, false) }) (v := ?vk87) rfl (by kernel_rfl) (by kernel_rfl) (by kernel_rfl) (fun _ _ _ h => h) (Or.inl ⟨by rfl, ?hk87⟩) (BxD.old U86 HBx.out) ?rk87
                    case hk87 => (intro wz hSw; (try dsimp only at hSw); go_simp; try with_reducible rfl)
                    (try simp only [Act.put]); (try simp only [List.setIfInBounds_toArray]); (try simp only [List.set_cons_succ]); (try simp only [List.set_cons_zero])
                    refine wpAnyH_take (i := 19) (oi := { dst := some 84, op := Op.pick (Operand.tmp 76) (Operand.const (Value.bool true)) (Operand.tmp 83), type := 4, pos := "law.go:133", after := #[{ on := 11, ground := Ground.data }, { on := 18, ground := Ground.data }, { on := 3, ground := Ground.guard }], guard := some (3, true) }) (v := ?vk88) rfl (by kernel_rfl) (by kernel_rfl) (by kernel_rfl) (fun _ _ _ h => h) (Or.inl ⟨by rfl, ?hk88⟩) (BxD.old U86 HBx.out) ?rk88
                    case hk88 => (intro wz hSw; (try dsimp only at hSw); go_simp; try with_reducible rfl)
                    (try simp only [Act.put]); (try simp only [List.setIfInBounds_toArray]); (try simp only [List.set_cons_succ]); (try simp only [List.set_cons_zero])
                    refine wpAnyH_take (i := 20) (oi := { dst := some 85, op := Op.pick (Operand.tmp 68) (Operand.tmp 84) (Operand.const (Value.bool false)), type := 4, pos := "law.go:133", after := #[{ on := 3, ground := Ground.data }, { on := 19, ground := Ground.data }], guard := none }) (v := ?vk89) rfl (by kernel_rfl) (by kernel_rfl) (by kernel_rfl) (fun _ _ _ h => h) (Or.inl ⟨by rfl, ?hk89⟩) (BxD.old U86 HBx.out) ?rk89
                    case hk89 => (intro wz hSw; (try dsimp only at hSw); go_simp; try with_reducible rfl)
                    (try simp only [Act.put]); (try simp only [List.setIfInBounds_toArray]); (try simp only [List.set_cons_succ]); (try simp only [List.set_cons_zero])
                    refine wpAnyH_done (by kernel_rfl) ?_ _
                    refine NoPanic.normal ?_
                    have UZ := hid U86
                    go_wp2
                    go_roundw
                    case rel => exact ⟨y + 1, by omega, by omega, by go_num, HZ.out.trans UZ.out⟩
                    case measure => simp [intOf]; omega
              · obtain rfl : y = 8 := by omega
                have F0 : wr.frozen? ⟨B, 0, none⟩ = false := HZ.out.keepF HA7.out.k0 HA7.out.f0
                have F1 : wr.frozen? ⟨B, 1, none⟩ = false := HZ.out.keepF HA7.out.k1 HA7.out.f1
                obtain ⟨g0, g1, g2, g3⟩ := HBx.out
                go_wp2
                go_roundw
                case rel =>
                  exact ⟨j + 1, t1, t2, z1, z2, V.length, M.length, gI V, gI M, hlt, by go_num, AtB.put g0 g1 F0 F1 (HY1.out.old HZ.out) (HY2.out.old HZ.out) HSh.out.1 HSh.out.2 HFar.out.1 HFar.out.2 HRt.out, ((HU7.out.trans HZ.out).setCell (by show w.heap.size ≤ B; omega) _).setCell (by show w.heap.size ≤ B; omega) _⟩
                case measure => simp [intOf]; omega
          · have HX := hid (show Calls Try.prog 10 #[.agg #[.slice q1 n' e1, .slice q2 m' e2], .int .i64 kd, .int .i64 x] wr fun e w' => e = .returned (.tuple #[.agg #[.slice none 0 0, .slice none 0 0], .int .i64 (fltC n' f' m' g' kd x)]) ∧ Old wr w' from by
              refine (next_any _ _ n' m' f' g' kd x wr HA.out.r1 HA.out.r2 HA.out.s1 HA.out.s2).mono ?_
              rintro e w' ⟨u, q⟩
              rcases q with ⟨_, rfl⟩ | ⟨h, _⟩
              · exact ⟨rfl, u⟩
              · exact absurd h hF)
            generalize fltC n' f' m' g' kd x = F at *
            have hF2 : (F == 0) = false := by simpa using hF
            go_wp2_with (go_at_call 10; refine HX.out.mono ?_; rintro e w3 ⟨rfl, u3⟩; have U3 := hid u3; clear u3)
            go_roundw
            case rel => exact ⟨j + 1, q1, q2, e1, e2, n', m', f', g', hlt, by go_num, HA.out.old (U3.out.alloc _), (HU.out.trans U3.out).alloc _⟩
            case measure => simp [intOf]; omega
        · have l3 : (j : Int) ≥ (nn : Int) := by omega
          go_wp2
          go_ret
          exact ⟨rfl, HU.out⟩
      · obtain rfl : j = nk := by omega
        go_wp2
        go_ret
        exact ⟨rfl, HU.out⟩
end Go.Proofs.Ytcicefpcledmgaa
