/- The document's Decode at all bytes; conditions: the bytes lie in memory. -/
import Derived.Test.YtajoodkapiifcaaGreatSqa
import Derived.Test.YtajoodkapiifcaaGreatIh0
import Derived.Test.YtajoodkapiifcaaGreatScH
import Derived.Test.YtajoodkapiifcaaGreatScN
namespace Go.Proofs.YtajoodkapiifcaaGreat
abbrev oIh0 : Oper := { dst := some 94, op := .fieldAddr 28 (.tmp 4) 4, type := 0, pos := "ref.go:144", after := #[], guard := none }
abbrev oIh1 : Oper := { dst := some 96, op := .move (.tmp 12), type := 25, pos := "ref.go:144", after := #[], guard := none }
abbrev oIh2 : Oper := { dst := some 97, op := .move (.tmp 18), type := 3, pos := "ref.go:144", after := #[], guard := none }
abbrev oIh3 : Oper := { dst := some 98, op := .indexAddr 25 (.tmp 96) (.tmp 97), type := 0, pos := "ref.go:144", after := #[⟨2, .data⟩, ⟨3, .data⟩], guard := none }
abbrev oIh4 : Oper := { dst := some 99, op := .load 22 (.tmp 98), type := 22, pos := "ref.go:144", after := #[⟨4, .data⟩], guard := none }
abbrev oIh5 : Oper := { dst := some 100, op := .move (.tmp 12), type := 25, pos := "ref.go:144", after := #[], guard := none }
abbrev oIh6 : Oper := { dst := some 101, op := .move (.tmp 18), type := 3, pos := "ref.go:144", after := #[], guard := none }
abbrev oIh7 : Oper := { dst := some 102, op := .binOp .add 3 (.tmp 101) (.const (.int IntKind.i64 1)) 3, type := 3, pos := "ref.go:144", after := #[⟨7, .data⟩], guard := none }
abbrev oIh8 : Oper := { dst := some 103, op := .indexAddr 25 (.tmp 100) (.tmp 102), type := 0, pos := "ref.go:144", after := #[⟨6, .data⟩, ⟨8, .data⟩], guard := none }
abbrev oIh9 : Oper := { dst := some 104, op := .load 22 (.tmp 103), type := 22, pos := "ref.go:144", after := #[⟨9, .data⟩], guard := none }
abbrev oIh10 : Oper := { dst := some 105, op := .build 31 #[(0, .tmp 99), (1, .tmp 104)], type := 31, pos := "ref.go:144", after := #[⟨5, .data⟩, ⟨10, .data⟩], guard := none }
abbrev oIh11 : Oper := { dst := some 95, op := .load 26 (.tmp 94), type := 26, pos := "ref.go:144", after := #[⟨0, .data⟩], guard := none }
abbrev oIh12 : Oper := { dst := some 106, op := .buildSlice 26 1 #[(0, .tmp 105)], type := 26, pos := "ref.go:144", after := #[⟨11, .data⟩], guard := none }
abbrev oIh13 : Oper := { dst := some 107, op := .call { callee := Callee.builtin Builtin.append, args := #[.tmp 95, .tmp 106], argTypes := #[26, 26] }, type := 26, pos := "ref.go:144", after := #[⟨1, .data⟩, ⟨12, .data⟩], guard := none }
abbrev oIh14 : Oper := { dst := some 108, op := .fieldAddr 28 (.tmp 4) 4, type := 0, pos := "ref.go:144", after := #[⟨0, .phase⟩, ⟨1, .phase⟩, ⟨2, .phase⟩, ⟨3, .phase⟩, ⟨4, .phase⟩, ⟨5, .phase⟩, ⟨6, .phase⟩, ⟨7, .phase⟩, ⟨8, .phase⟩, ⟨9, .phase⟩, ⟨10, .phase⟩, ⟨11, .phase⟩, ⟨12, .phase⟩, ⟨13, .phase⟩], guard := none }
abbrev oIh15 : Oper := { dst := none, op := .store 26 (.tmp 108) (.tmp 107), type := 0, pos := "ref.go:144", after := #[⟨14, .data⟩, ⟨13, .data⟩, ⟨13, .chain⟩, ⟨0, .phase⟩, ⟨1, .phase⟩, ⟨2, .phase⟩, ⟨3, .phase⟩, ⟨4, .phase⟩, ⟨5, .phase⟩, ⟨6, .phase⟩, ⟨7, .phase⟩, ⟨8, .phase⟩, ⟨9, .phase⟩, ⟨10, .phase⟩, ⟨11, .phase⟩, ⟨12, .phase⟩, ⟨13, .phase⟩], guard := none }
open Go.RowKit Go.Lib
set_option linter.unusedVariables false
set_option linter.unusedSimpArgs false
set_option maxRecDepth 20000
def RDec (L : List Nat) (w : World) (e : Ending) (w' : World) : Prop := Old w w' ∧ (((∀ r : Raw, r.Ok → r.chk = 0 → L ≠ r.enc []) ∧ e = .returned (.tuple #[.agg #[.int .i64 0, .int .i64 0, .int .i64 0, .slice none 0 0, .slice none 0 0, .slice none 0 0], .bool false])) ∨ ∃ (r : Raw) (p1 p2 p3 : Option Addr) (q1 q2 q3 : Nat), (r.Ok ∧ r.chk = 0 ∧ L = r.enc []) ∧ e = .returned (.tuple #[.agg #[.int .i64 r.s1, .int .i64 r.s2, .int .i64 r.s3, .slice p1 r.xs.length q1, .slice p2 (prs r.ys).length q2, .slice p3 r.zs.length q3], .bool true]) ∧ FRow w' (.slice p1 r.xs.length q1) r.xs.length (atN r.xs) ∧ SRow w' (.slice p2 (prs r.ys).length q2) (prs r.ys).length (atS (prs r.ys)) ∧ FRow w' (.slice p3 r.zs.length q3) r.zs.length (atN r.zs))
theorem OwnF.frow {base : Nat} {w : World} {v : Value} {L : List Nat} (h : OwnF base w v L) (hW : ∀ x ∈ L, Fl.W x) (hn : L.length ≤ 1000000) : FRow w v L.length (atN L) := by
 have q := h.fown
 rw [← rl_atN L] at q
 exact q.row' (fun i hi => hW _ (atN_mem _ i hi)) hn
theorem prs_get : ∀ (n : Nat) (y : List Nat), y.length = n * 2 → ∀ j, j < n → (prs y)[j]? = some ⟨atN y (2 * j), atN y (2 * j + 1), false, false⟩
 | 0, _, _, j, hj => by omega
 | n + 1, [], h, _, _ => by simp at h
 | n + 1, [_], h, _, _ => by simp at h; omega
 | n + 1, a :: b :: t, h, j, hj => by
  show (⟨a, b, false, false⟩ :: prs t : List Sp)[j]? = _
  cases j with
  | zero => rfl
  | succ j =>
   rw [List.getElem?_cons_succ, prs_get n t (by simp at h; omega) j (by omega)]
   simp [atN, show 2 * (j + 1) = 2 * j + 1 + 1 from by omega]
theorem prs_step (n : Nat) (y : List Nat) (h : y.length = n * 2) (j t : Nat) (hj : j < n) (ht : t = 2 * j) : (prs y).take j ++ [⟨atN y t, atN y (t + 1), false, false⟩] = (prs y).take (j + 1) := by
 subst ht
 rw [List.take_add_one, prs_get n y h j hj]
 rfl
theorem own_cellN {base : Nat} {w : World} {a : Option Addr} {c : Nat} {L : List Nat} (h : OwnF base w (.slice a L.length c) L) (i : Nat) (hi : i < L.length) : ∃ g, a = some ⟨g, 0, none⟩ ∧ base ≤ g ∧ g < w.heap.size ∧ ∀ k, k < L.length → w.cell? ⟨g, k, none⟩ = some (.float .f64 (atN L k)) := by
 obtain ⟨g, cap, e, hb, hz, hc⟩ := h.shape (by omega)
 cases e
 exact ⟨g, rfl, hb, hz, fun k hk => by rw [hc k hk, atN_get _ k hk]⟩
attribute [local go_sem] run_bits run_frombits run_store_float eqF
set_option maxHeartbeats 8000000 in
theorem refDecode_any (v : Value) (L : List Nat) (hL : LB L) (w : World) (hB : Pk.ByRow w v L.length (Pk.gd L)) :
    Calls Tryz.prog 12 #[v] w fun e w' => RDec L w e w' := by
 have HPn : Hid (∀ W, Old w W → (∀ r : Raw, tkSub L = some (r, []) → r.chk ≠ 0) → RDec L w (.returned (.tuple #[.agg #[.int .i64 0, .int .i64 0, .int .i64 0, .slice none 0 0, .slice none 0 0, .slice none 0 0], .bool false])) W) := fun W u h => ⟨u, .inl ⟨no_raw h, rfl⟩⟩
 have HPy : Hid (∀ (W : World) (r : Raw) (p1 p2 p3 : Option Addr) (q1 q2 q3 : Nat), Old w W → tkSub L = some (r, []) → r.chk = 0 → FRow W (.slice p1 r.xs.length q1) r.xs.length (atN r.xs) → SRow W (.slice p2 (prs r.ys).length q2) (prs r.ys).length (atS (prs r.ys)) → FRow W (.slice p3 r.zs.length q3) r.zs.length (atN r.zs) → RDec L w (.returned (.tuple #[.agg #[.int .i64 r.s1, .int .i64 r.s2, .int .i64 r.s3, .slice p1 r.xs.length q1, .slice p2 (prs r.ys).length q2, .slice p3 r.zs.length q3], .bool true])) W) := fun W r p1 p2 p3 q1 q2 q3 u h hc h1 h2 h3 => ⟨u, .inr ⟨r, p1, p2, p3, q1, q2, q3, ⟨(tkSub_some hL h).2.1, hc, (tkSub_some hL h).1⟩, rfl, h1, h2, h3⟩⟩
 have HB := hid hB
 have HL := hid hL
 clear hB hL
 go_enter Tryz.func12, Tryz.ntmps12
 go_upto_region 1 with fail
 generalize hw1 : w.alloc (.cells #[.int .i64 0, .int .i64 0, .int .i64 0, .slice none 0 0, .slice none 0 0, .slice none 0 0] 28) = w1 at *
 generalize hrb : w.heap.size = rb at *
 have HB1 := hid (BX.new w w1 hw1 rb hrb)
 have HRB := hid hrb
 clear hw1 hrb
 go_upto_region 2 with fail
 generalize hw2 : w1.alloc (.cells #[.int .i64 0, .int .i64 0, .int .i64 0, .slice none 0 0, .slice none 0 0, .slice none 0 0] 28) = w2 at *
 generalize hsb : w1.heap.size = sb at *
 obtain ⟨hb2, hu2, hz2⟩ := BX.new w1 w2 hw2 sb hsb
 obtain ⟨hb1, hu1, hz1⟩ := HB1.out
 have HD := hid (show DBx w rb sb 0 0 0 (.slice none 0 0) (.slice none 0 0) (.slice none 0 0) w2 from ⟨hb1.chg (S := []) (Pk.Chg.old hu2) (by simp), hb2, hu1.trans hu2, by have := HRB.out; omega, by omega, by omega⟩)
 have HZ2 := hid (show w2.heap.size = sb + 1 by omega)
 clear hw2 hsb hb2 hu2 hz2 hb1 hu1 hz1 HB1 HRB
 go_wp2
 go_loopw [0, 5, 6] (fun vb vn i wr => ∃ (j : Nat) (D : List Nat) (zs : List Int) (ub un : Value), ub = vb ∧ un = vn ∧ j ≤ 3 ∧ i = .int .i64 (j : Nat) ∧ OwnN (sb + 1) wr un zs ∧ Pk.ByRow w ub D.length (Pk.gd D) ∧ LB D ∧ zs.length = j ∧ tkSub L = ((tkNs (3 - j) D).bind fun p => tkTail (zs ++ p.1) p.2) ∧ DBx w rb sb 0 0 0 (.slice none 0 0) (.slice none 0 0) (.slice none 0 0) wr) (fun _ _ i _ => 3 - (intOf i).toNat)
 case atStart => exact ⟨0, L, [], _, _, rfl, rfl, Nat.zero_le _, rfl, OwnN.empty (by have := HZ2.out; omega) rfl, HB.out, HL.out, rfl, tkSub_start L, HD.out.old ((Old.refl _).alloc _)⟩
 case round =>
  obtain ⟨j, D, zs, ub, un, rfl, rfl, hj, rfl, hO, hR, hLD, hl, hE, hT⟩ := hrel
  have HO := hid hO
  have HT := hid hT
  have HE := hid hE
  have HLD := hid hLD
  clear hO hE hLD HD HB HL
  by_cases hlt : j < 3
  ·have lj : (j : Int) < 3 := by omega
   have lj0 : (0 : Int) ≤ (j : Int) := by omega
   cases e : tkN D with
   | none =>
    have HK := hid (Pk.refGetNum_any ub _ _ wr (hR.up hT.u))
    have hz : Pk.lnK (Pk.gd D) D.length = 0 := by
     unfold tkN at e
     split at e
     ·assumption
     ·cases e
    rw [hz] at HK
    have HNo := hid (show tkSub L = none from by rw [HE.out, show 3 - j = (3 - j - 1) + 1 by omega, tkNs_succ, e]; rfl)
    clear hz e HE hR hT
    generalize Pk.lnV (Pk.gd D) D.length = V at *
    go_upto_region 8 with (first | (go_at_call 26; refine HK.out.mono ?_; rintro e w3 ⟨rfl, hw⟩; have hw2 := hw.symm; subst hw2))
    obtain ⟨⟨t0, t1, t2, t3, t4, t5⟩, tf⟩ := HT.out.hr
    have e0 := tf 0 (by omega)
    have e1 := tf 1 (by omega)
    have e2 := tf 2 (by omega)
    have e3 := tf 3 (by omega)
    have e4 := tf 4 (by omega)
    have e5 := tf 5 (by omega)
    clear tf
    go_wp2
    have cF := put_chg wr rb (.int .i64 0) (.int .i64 0) (.int .i64 0) (.slice none 0 0) (.slice none 0 0) (.slice none 0 0)
    refine bodyPost_ret (v := .tuple #[.agg #[.int .i64 0, .int .i64 0, .int .i64 0, .slice none 0 0, .slice none 0 0, .slice none 0 0], .bool false]) (by simp [results, Tryz.results12, go_sem, *]) rfl (HPn.out _ (Pk.Chg.toOld HT.out.u cF (by simp; exact HT.out.le)) (fun r h => by rw [HNo.out] at h; cases h))
   | some p =>
    obtain ⟨x, D'⟩ := p
    obtain ⟨hk0, hkl, hVx, hD'⟩ := tkN_cut e
    obtain ⟨b1, off1, cap1, rfl, hcc1, hnc1, hmx1⟩ := hR.cells (by omega)
    unfold maxLen at hmx1
    have HK := hid (Pk.refGetNum_any _ _ _ wr (hR.up hT.u))
    rw [hVx] at HK
    obtain ⟨o1, hif1, hro1⟩ : ∃ o1, (if cap1 = Pk.lnK (Pk.gd D) D.length then (some ⟨b1, off1, none⟩ : Option Addr) else some ⟨b1, off1 + Pk.lnK (Pk.gd D) D.length, none⟩) = some ⟨b1, o1, none⟩ ∧ Pk.ByRow w (.slice (some ⟨b1, o1, none⟩) (D.length - Pk.lnK (Pk.gd D) D.length) (cap1 - Pk.lnK (Pk.gd D) D.length)) D'.length (Pk.gd D') := by
     refine ⟨if cap1 = Pk.lnK (Pk.gd D) D.length then off1 else off1 + Pk.lnK (Pk.gd D) D.length, by split <;> rfl, ?_⟩
     rw [hD']
     exact cut_row hR hkl _ rfl
    have HR2 := hid hro1
    have HNx := hid (show tkSub L = ((tkNs (3 - (j + 1)) D').bind fun p => tkTail ((zs ++ [x]) ++ p.1) p.2) from by
     rw [HE.out, show 3 - j = (3 - (j + 1)) + 1 by omega, tkNs_succ, e]
     simp only
     cases tkNs (3 - (j + 1)) D' with
     | none => rfl
     | some q => simp)
    have HLD2 := hid (tkN_some HLD.out e).2.2
    have HLx := hid hl
    have HL3 := hid (show zs.length + 1 ≤ 1000 by omega)
    clear hro1 e HE hR hT hD' hVx hcc1 hl HLD
    generalize Pk.lnK (Pk.gd D) D.length = K at *
    generalize D.length = ND at *
    have tk : ((K : Int) == 0) = false := by rw [beq_eq_false_iff_ne]; omega
    have m0 : (0 : Int) ≤ (K : Int) := by omega
    have m1 : (K : Int) ≤ (ND : Int) := by omega
    have m2 : (K : Int) ≤ (cap1 : Int) := by omega
    have HSZ := hid (show sb + 1 ≤ wr.heap.size from HT.out.z)
    go_wp2_with (first | (go_at_call 26; refine HK.out.mono ?_; rintro e w3 ⟨rfl, hw⟩; have hw2 := hw.symm; subst hw2) | (at_builtin; refine wp_appN rfl (.tmp 33) (.tmp 35) rfl (sb + 1) _ zs _ 1 x rfl rfl (OwnN.up HO.out ((Old.refl _).alloc _)) (cell_oneN _ _ _ (by simp)) (by have := HL3.out; omega) (by have := HSZ.out; simp; omega) ?_; intro v8 w8 o8 g8; have O8 := hid o8; have T8 := hid ((HT.out.old ((Old.refl _).alloc _)).grown g8 (fun k e => by have := (World.ownsRow.lt HO.out k e).1; omega)); clear o8 g8))
    go_roundw
    case rel => exact ⟨j + 1, D', zs ++ [x], _, _, rfl, rfl, hlt, by go_num, O8.out, HR2.out, HLD2.out, by rw [List.length_append, HLx.out]; rfl, HNx.out, T8.out⟩
    case measure => simp [intOf]; omega
  ·have hj3 : j = 3 := by omega
   subst hj3
   match zs, hl with
   | [s1, s2, s3], _ =>
   have HC := hid (show tkSub L = tkTail [s1, s2, s3] D from HE.out)
   obtain ⟨g, gc, eg, hgb, hgz, hgc⟩ := OwnN.shape HO.out (by simp)
   subst eg
   have g0 : wr.cell? ⟨g, 0, none⟩ = some (.int .i64 s1) := hgc 0 (by simp)
   have g1 : wr.cell? ⟨g, 1, none⟩ = some (.int .i64 s2) := hgc 1 (by simp)
   have g2 : wr.cell? ⟨g, 2, none⟩ = some (.int .i64 s3) := hgc 2 (by simp)
   have gn : g ≠ sb := by omega
   have HR := hid hR
   clear hgc hgb hgz HO HE hR hlt hT
   obtain ⟨⟨k0, k1, k2, k3, k4, k5⟩, kf⟩ := HT.out.hs
   have f0 := kf 0 (by omega)
   have f1 := kf 1 (by omega)
   have f2 := kf 2 (by omega)
   clear kf
   go_upto_region 14 with fail
   have HT4 := hid (HT.out.set012 s1 s2 s3)
   generalize hw4 : ((wr.setCell ⟨sb, 0, none⟩ (.int .i64 s1)).setCell ⟨sb, 1, none⟩ (.int .i64 s2)).setCell ⟨sb, 2, none⟩ (.int .i64 s3) = w4 at *
   clear hw4 HT g0 g1 g2 gn k0 k1 k2 k3 k4 k5 f0 f1 f2
   have K4 := hid (take1_any ub D HLD.out 16 (by omega) w4 (HR.out.up HT4.out.u))
   have HS4 := hid (fun (xs B : List Nat) (q : tkR 16 1 D = some (xs, B)) => tkR_some HLD.out q)
   unfold tkTail at HC
   cases e4 : tkR 16 1 D with
   | none =>
    rw [e4] at K4 HC
    go_upto_region 15 with (first | (go_at_call 27; refine K4.out.mono ?_; rintro e w5 ⟨u5, ⟨_, rfl⟩ | ⟨_, _, _, _, q, _⟩⟩; rotate_left; cases q; have HT5 := hid (HT4.out.old u5); clear u5))
    obtain ⟨⟨t0, t1, t2, t3, t4, t5⟩, tf⟩ := HT5.out.hr
    have e0 := tf 0 (by omega)
    have e1 := tf 1 (by omega)
    have e2 := tf 2 (by omega)
    have e3 := tf 3 (by omega)
    have e4 := tf 4 (by omega)
    have e5 := tf 5 (by omega)
    clear tf
    go_wp2
    have cF := put_chg w5 rb (.int .i64 0) (.int .i64 0) (.int .i64 0) (.slice none 0 0) (.slice none 0 0) (.slice none 0 0)
    refine bodyPost_ret (v := .tuple #[.agg #[.int .i64 0, .int .i64 0, .int .i64 0, .slice none 0 0, .slice none 0 0, .slice none 0 0], .bool false]) (by simp [results, Tryz.results12, go_sem, *]) rfl (HPn.out _ (Pk.Chg.toOld HT5.out.u cF (by simp; exact HT5.out.le)) (fun r h => by rw [HC.out] at h; cases h))
   | some p4 =>
   obtain ⟨xs, D4⟩ := p4
   rw [e4] at K4 HC
   simp only at HC
   obtain ⟨m1, b4, l4, _, x4, c4⟩ := HS4.out _ _ e4
   have HX4 := hid (And.intro b4 (And.intro l4 x4))
   have HL4 := hid c4
   clear b4 l4 x4 c4 HS4 e4 HLD HR
   go_upto_region 17 with (first | (go_at_call 27; refine K4.out.mono ?_; rintro e w5 ⟨u5, ⟨q, _⟩ | ⟨xs', D', V1, vb5, q, rfl, o5, r5⟩⟩; cases q; cases q; have HT5 := hid (HT4.out.old u5); have O1 := hid (show OwnF (sb + 1) w5 V1 xs from o5.mono (by have := HT4.out.z; omega)); have R5 := hid r5; clear u5 o5 r5))
   clear K4 HT4
   have K5 := hid (take2_any vb5 D4 HL4.out 8 (by omega) w5 R5.out)
   have HS5 := hid (fun (xs B : List Nat) (q : tkR 8 2 D4 = some (xs, B)) => tkR_some HL4.out q)
   cases e5 : tkR 8 2 D4 with
   | none =>
    rw [e5] at K5 HC
    go_upto_region 18 with (first | (go_at_call 27; refine K5.out.mono ?_; rintro e w6 ⟨u6, ⟨_, rfl⟩ | ⟨_, _, _, _, q, _⟩⟩; rotate_left; cases q; have HT6 := hid (HT5.out.old u6); clear u6))
    obtain ⟨⟨t0, t1, t2, t3, t4, t5⟩, tf⟩ := HT6.out.hr
    have e0 := tf 0 (by omega)
    have e1 := tf 1 (by omega)
    have e2 := tf 2 (by omega)
    have e3 := tf 3 (by omega)
    have e4 := tf 4 (by omega)
    have e5 := tf 5 (by omega)
    clear tf
    go_wp2
    have cF := put_chg w6 rb (.int .i64 0) (.int .i64 0) (.int .i64 0) (.slice none 0 0) (.slice none 0 0) (.slice none 0 0)
    refine bodyPost_ret (v := .tuple #[.agg #[.int .i64 0, .int .i64 0, .int .i64 0, .slice none 0 0, .slice none 0 0, .slice none 0 0], .bool false]) (by simp [results, Tryz.results12, go_sem, *]) rfl (HPn.out _ (Pk.Chg.toOld HT6.out.u cF (by simp; exact HT6.out.le)) (fun r h => by rw [HC.out] at h; cases h))
   | some p5 =>
   obtain ⟨ys, D5⟩ := p5
   rw [e5] at K5 HC
   simp only at HC
   obtain ⟨m2, b5, l5, _, x5, c5⟩ := HS5.out _ _ e5
   have HX5 := hid (And.intro b5 (And.intro l5 x5))
   have HL5 := hid c5
   clear b5 l5 x5 c5 HS5 e5 R5
   go_upto_region 20 with (first | (go_at_call 27; refine K5.out.mono ?_; rintro e w6 ⟨u6, ⟨q, _⟩ | ⟨ys', D'', V2, vb6, q, rfl, o6, r6⟩⟩; cases q; cases q; have HT6 := hid (HT5.out.old u6); have O2 := hid (show OwnF (sb + 1) w6 V2 ys from o6.mono (by have := HT5.out.z; omega)); have O1b := hid (O1.out.up u6); have R6 := hid r6; clear u6 o6 r6))
   clear K5 HT5 O1
   have K6 := hid (take1_any vb6 D5 HL5.out 16 (by omega) w6 R6.out)
   have HS6 := hid (fun (xs B : List Nat) (q : tkR 16 1 D5 = some (xs, B)) => tkR_some HL5.out q)
   cases e6 : tkR 16 1 D5 with
   | none =>
    rw [e6] at K6 HC
    go_upto_region 21 with (first | (go_at_call 27; refine K6.out.mono ?_; rintro e w7 ⟨u7, ⟨_, rfl⟩ | ⟨_, _, _, _, q, _⟩⟩; rotate_left; cases q; have HT7 := hid (HT6.out.old u7); clear u7))
    obtain ⟨⟨t0, t1, t2, t3, t4, t5⟩, tf⟩ := HT7.out.hr
    have e0 := tf 0 (by omega)
    have e1 := tf 1 (by omega)
    have e2 := tf 2 (by omega)
    have e3 := tf 3 (by omega)
    have e4 := tf 4 (by omega)
    have e5 := tf 5 (by omega)
    clear tf
    go_wp2
    have cF := put_chg w7 rb (.int .i64 0) (.int .i64 0) (.int .i64 0) (.slice none 0 0) (.slice none 0 0) (.slice none 0 0)
    refine bodyPost_ret (v := .tuple #[.agg #[.int .i64 0, .int .i64 0, .int .i64 0, .slice none 0 0, .slice none 0 0, .slice none 0 0], .bool false]) (by simp [results, Tryz.results12, go_sem, *]) rfl (HPn.out _ (Pk.Chg.toOld HT7.out.u cF (by simp; exact HT7.out.le)) (fun r h => by rw [HC.out] at h; cases h))
   | some p6 =>
   obtain ⟨qs, D6⟩ := p6
   rw [e6] at K6 HC
   simp only at HC
   obtain ⟨m3, b6, l6, _, x6, c6⟩ := HS6.out _ _ e6
   have HX6 := hid (And.intro b6 (And.intro l6 x6))
   clear b6 l6 x6 c6 HS6 e6 R6
   go_upto_region 21 with (first | (go_at_call 27; refine K6.out.mono ?_; rintro e w7 ⟨u7, ⟨q, _⟩ | ⟨qs', D''', V3, vb7, q, rfl, o7, r7⟩⟩; cases q; cases q; have HT7 := hid (HT6.out.old u7); have O3 := hid (show OwnF (sb + 1) w7 V3 qs from o7.mono (by have := HT6.out.z; omega)); have O1c := hid (O1b.out.up u7); have O2b := hid (O2.out.up u7); have R7 := hid r7; clear u7 o7 r7))
   clear K6 HT6 O1b O2
   obtain ⟨ra, rc, er⟩ := Pk.ByRow.slice R7.out
   subst er
   clear R7
   by_cases hr0 : D6 = []
   ·subst hr0
    obtain ⟨a1, c1, ev1⟩ := O1c.out.len
    subst ev1
    obtain ⟨a2, c2, ev2⟩ := O2b.out.len
    subst ev2
    obtain ⟨a3, c3, ev3⟩ := O3.out.len
    subst ev3
    have tl0 : decide ((([] : List Nat).length : Int) > 0) = false := by decide
    obtain ⟨⟨k0, k1, k2, k3, k4, k5⟩, kf⟩ := HT7.out.hs
    have f3 := kf 3 (by omega)
    have f5 := kf 5 (by omega)
    clear kf
    go_upto_region 25 with fail
    have HT8 := hid (((HT7.out.set (.slice a1 xs.length c1)).1.set (.slice a3 qs.length c3)).2.2)
    have O1d := hid (show OwnF (sb + 1) _ _ _ from own_far (u := .slice a3 qs.length c3) (a := ⟨sb, 5, none⟩) (own_far (u := .slice a1 xs.length c1) (a := ⟨sb, 3, none⟩) O1c.out (by show sb < sb + 1; omega)) (by show sb < sb + 1; omega))
    have O2c := hid (show OwnF (sb + 1) _ _ _ from own_far (u := .slice a3 qs.length c3) (a := ⟨sb, 5, none⟩) (own_far (u := .slice a1 xs.length c1) (a := ⟨sb, 3, none⟩) O2b.out (by show sb < sb + 1; omega)) (by show sb < sb + 1; omega))
    have O3b := hid (show OwnF (sb + 1) _ _ _ from own_far (u := .slice a3 qs.length c3) (a := ⟨sb, 5, none⟩) (own_far (u := .slice a1 xs.length c1) (a := ⟨sb, 3, none⟩) O3.out (by show sb < sb + 1; omega)) (by show sb < sb + 1; omega))
    generalize hw8 : (w7.setCell ⟨sb, 3, none⟩ (.slice a1 xs.length c1)).setCell ⟨sb, 5, none⟩ (.slice a3 qs.length c3) = w8 at *
    clear hw8 HT7 O1c O2b O3 k0 k1 k2 k3 k4 k5 f3 f5 tl0
    obtain ⟨B2, hB2⟩ : ∃ B2, B2 = w8.heap.size := ⟨_, rfl⟩
    have HLA := hid (show ∀ i, (Value.slice a1 xs.length c1).ownBlock = some i → i < B2 from fun i e => by rw [hB2]; exact (World.ownsRow.lt O1d.out i e).2)
    have HLC := hid (show ∀ i, (Value.slice a2 ys.length c2).ownBlock = some i → i < B2 from fun i e => by rw [hB2]; exact (World.ownsRow.lt O2c.out i e).2)
    have HLE := hid (show ∀ i, (Value.slice a3 qs.length c3).ownBlock = some i → i < B2 from fun i e => by rw [hB2]; exact (World.ownsRow.lt O3b.out i e).2)
    have HSB := hid (show sb < B2 by have := HT8.out.z; omega)
    have HY8 := hid (show B2 ≤ w8.heap.size by omega)
    have l5 := HX5.out.2.1
    have b5 := HX5.out.1
    have q2 := prs_len m2 ys l5
    have HPl := hid (show (prs ys).length ≤ 8 by omega)
    have HYl := hid (show ys.length = m2 * 2 from l5)
    have HStep := hid (fun (j t : Nat) (hj : j < m2) (ht : t = 2 * j) => prs_step m2 ys l5 j t hj ht)
    have HFull := hid (show (prs ys).take m2 = prs ys from by rw [← q2]; exact List.take_length)
    clear hB2 q2
    go_wp2
    go_loopw [18] (fun i wr => ∃ (j t : Nat) (v : Value), t = 2 * j ∧ j ≤ m2 ∧ i = .int .i64 (t : Nat) ∧ DBx w rb sb s1 s2 s3 (.slice a1 xs.length c1) v (.slice a3 qs.length c3) wr ∧ OwnS B2 wr v ((prs ys).take j) ∧ OwnF (sb + 1) wr (.slice a1 xs.length c1) xs ∧ OwnF (sb + 1) wr (.slice a2 ys.length c2) ys ∧ OwnF (sb + 1) wr (.slice a3 qs.length c3) qs ∧ B2 ≤ wr.heap.size) (fun i _ => 2 * m2 - (intOf i).toNat)
    case atStart => exact ⟨0, 0, (.slice none 0 0), rfl, Nat.zero_le _, rfl, HT8.out, OwnS.nil _ _, O1d.out, O2c.out, O3b.out, HY8.out⟩
    case round =>
     obtain ⟨j, t, v, htj, hj, rfl, hT, hO, hA, hC, hEE, hY⟩ := hrel
     have HT := hid hT
     have HO := hid hO
     have HA := hid hA
     have HC2 := hid hC
     have HE := hid hEE
     have HYr := hid hY
     have HTj := hid htj
     clear hT hO hA hC hEE hY HT8 O1d O2c O3b HY8
     obtain ⟨pv, cv, ev⟩ := HO.out.len
     subst ev
     by_cases hlt : j < m2
     ·have HTl := hid (show t + 1 < ys.length by have := HYl.out; omega)
      have HSt := hid (HStep.out j t hlt htj)
      obtain ⟨ge, ea, _, _, _⟩ := own_cellN HC2.out t (by have := HTl.out; omega)
      subst ea
      have HCx := HC2
      have n1 : (0 : Int) ≤ (t : Int) := by omega
      have n2 : (t : Int) < (ys.length : Int) := by have := HTl.out; omega
      have n3 : (t : Int) + 1 < (ys.length : Int) := by have := HTl.out; omega
      have n4 : (ys.length : Int) ≤ 16 := by omega
      have n5 : (0 : Int) ≤ (t : Int) + 1 := by omega
      have wt : IntKind.i64.wrap ((t : Int) + 1) = (t : Int) + 1 := by simp [IntKind.wrap, IntKind.bits, IntKind.signed]; omega
      clear htj HStep HC l5
      have HC := HCx
      clear HCx HC2
      go_upto_region 28 with fail
      focus
       refine wp_region_noPanic ?_
       refine wp_region_held_drew (S := fun wz => wz.cell? ⟨ge, t, none⟩ = some (.float .f64 (atN ys t)) ∧ wz.cell? ⟨ge, t + 1, none⟩ = some (.float .f64 (atN ys (t + 1)))) (by kernel_rfl) ?_ (fun hHeld => ?_)
       ·exact (let q := own_cellN (HC.out.up ((Old.refl wr).drew)) t (by have := HTl.out; omega); by obtain ⟨g', eg, _, _, qc⟩ := q; cases eg; exact ⟨qc t (by have := HTl.out; omega), qc (t + 1) (by have := HTl.out; omega)⟩)
       try simp only [Act.put, puA, puB, puC]
       clear hHeld
       all_goals
        refine atA [false, false, false, false, false, false, false, false, false, false, false, false, false, false, false, false] ?_
        refine tkA (i := 0) (oi := oIh0) (let q := own_cellN (HC.out.up ((Old.refl wr).drew)) t (by have := HTl.out; omega); by obtain ⟨g', eg, _, _, qc⟩ := q; cases eg; exact ⟨qc t (by have := HTl.out; omega), qc (t + 1) (by have := HTl.out; omega)⟩) ?_
        try simp only [Act.put, puA, puB, puC]
        refine tkA (i := 2) (oi := oIh1) (let q := own_cellN (HC.out.up ((Old.refl wr).drew)) t (by have := HTl.out; omega); by obtain ⟨g', eg, _, _, qc⟩ := q; cases eg; exact ⟨qc t (by have := HTl.out; omega), qc (t + 1) (by have := HTl.out; omega)⟩) ?_
        try simp only [Act.put, puA, puB, puC]
        refine tkA (i := 3) (oi := oIh2) (let q := own_cellN (HC.out.up ((Old.refl wr).drew)) t (by have := HTl.out; omega); by obtain ⟨g', eg, _, _, qc⟩ := q; cases eg; exact ⟨qc t (by have := HTl.out; omega), qc (t + 1) (by have := HTl.out; omega)⟩) ?_
        try simp only [Act.put, puA, puB, puC]
        refine tkA (i := 4) (oi := oIh3) (let q := own_cellN (HC.out.up ((Old.refl wr).drew)) t (by have := HTl.out; omega); by obtain ⟨g', eg, _, _, qc⟩ := q; cases eg; exact ⟨qc t (by have := HTl.out; omega), qc (t + 1) (by have := HTl.out; omega)⟩) ?_
        try simp only [Act.put, puA, puB, puC]
        refine tkA (i := 5) (oi := oIh4) (let q := own_cellN (HC.out.up ((Old.refl wr).drew)) t (by have := HTl.out; omega); by obtain ⟨g', eg, _, _, qc⟩ := q; cases eg; exact ⟨qc t (by have := HTl.out; omega), qc (t + 1) (by have := HTl.out; omega)⟩) ?_
        try simp only [Act.put, puA, puB, puC]
        refine tkA (i := 6) (oi := oIh5) (let q := own_cellN (HC.out.up ((Old.refl wr).drew)) t (by have := HTl.out; omega); by obtain ⟨g', eg, _, _, qc⟩ := q; cases eg; exact ⟨qc t (by have := HTl.out; omega), qc (t + 1) (by have := HTl.out; omega)⟩) ?_
        try simp only [Act.put, puA, puB, puC]
        refine tkA (i := 7) (oi := oIh6) (let q := own_cellN (HC.out.up ((Old.refl wr).drew)) t (by have := HTl.out; omega); by obtain ⟨g', eg, _, _, qc⟩ := q; cases eg; exact ⟨qc t (by have := HTl.out; omega), qc (t + 1) (by have := HTl.out; omega)⟩) ?_
        try simp only [Act.put, puA, puB, puC]
        refine tkA (i := 8) (oi := oIh7) (let q := own_cellN (HC.out.up ((Old.refl wr).drew)) t (by have := HTl.out; omega); by obtain ⟨g', eg, _, _, qc⟩ := q; cases eg; exact ⟨qc t (by have := HTl.out; omega), qc (t + 1) (by have := HTl.out; omega)⟩) ?_
        try simp only [Act.put, puA, puB, puC]
        refine tkA (i := 9) (oi := oIh8) (let q := own_cellN (HC.out.up ((Old.refl wr).drew)) t (by have := HTl.out; omega); by obtain ⟨g', eg, _, _, qc⟩ := q; cases eg; exact ⟨qc t (by have := HTl.out; omega), qc (t + 1) (by have := HTl.out; omega)⟩) ?_
        try simp only [Act.put, puA, puB, puC]
        refine tkA (i := 10) (oi := oIh9) (let q := own_cellN (HC.out.up ((Old.refl wr).drew)) t (by have := HTl.out; omega); by obtain ⟨g', eg, _, _, qc⟩ := q; cases eg; exact ⟨qc t (by have := HTl.out; omega), qc (t + 1) (by have := HTl.out; omega)⟩) ?_
        try simp only [Act.put, puA, puB, puC]
        refine tkA (i := 11) (oi := oIh10) (let q := own_cellN (HC.out.up ((Old.refl wr).drew)) t (by have := HTl.out; omega); by obtain ⟨g', eg, _, _, qc⟩ := q; cases eg; exact ⟨qc t (by have := HTl.out; omega), qc (t + 1) (by have := HTl.out; omega)⟩) ?_
        try simp only [Act.put, puA, puB, puC]
        refine rdA [1, 12] ?_
        refine AllReadyH.cons (o := oIh11) rfl (fun K hK => ?_) (AllReadyH.cons (o := oIh12) rfl (fun K hK => ?_) AllReadyH.nil)
        refine stepLoadSL ?_ (.tmp 94) ?_ sb 4 pv ((prs ys).take j).length cv ?_ (HT.out.old ((Old.refl wr).drew)).hs.1.2.2.2.2.1 ?_
        iterate 3 rfl
        refine hK.out _ _ (let q := own_cellN (HC.out.up ((Old.refl wr).drew)) t (by have := HTl.out; omega); by obtain ⟨g', eg, _, _, qc⟩ := q; cases eg; exact ⟨qc t (by have := HTl.out; omega), qc (t + 1) (by have := HTl.out; omega)⟩) (fun _ => ?_)
        clear hK K
        try simp only [Act.put, puA, puB, puC]
        rotate_left
        refine stepBuild1S ?_ (.tmp 105) ?_ ⟨atN ys t, atN ys (t + 1), false, false⟩ ?_ ?_
        iterate 3 rfl
        intro m100n y100n hm100n hy100n
        have R100n : SpIn y100n m100n 0 ⟨atN ys t, atN ys (t + 1), false, false⟩ := one_S (p := ⟨atN ys t, atN ys (t + 1), false, false⟩) hm100n hy100n
        have V100n := alloc_old hy100n
        have T100n := (HT.out.old ((Old.refl wr).drew)).old V100n
        have O100n := (HO.out.old ((Old.refl wr).drew)).old V100n
        have Y100n : B2 ≤ y100n.heap.size := Nat.le_trans (Nat.le_trans HYr.out ((Old.refl wr).drew).size) V100n.size
        have A100n := (HA.out.up ((Old.refl wr).drew)).up V100n
        have C100n := (HC.out.up ((Old.refl wr).drew)).up V100n
        have E100n := (HE.out.up ((Old.refl wr).drew)).up V100n
        clear hm100n hy100n V100n
        refine hK.out _ _ (let q := own_cellN C100n t (by have := HTl.out; omega); by obtain ⟨g', eg, _, _, qc⟩ := q; cases eg; exact ⟨qc t (by have := HTl.out; omega), qc (t + 1) (by have := HTl.out; omega)⟩) (fun _ => ?_)
        clear hK K
        try simp only [Act.put, puA, puB, puC]
        have OO_100 := O100n
        have RR_100 := R100n
        have TT_100 := T100n
        have YY_100 := Y100n
        have Akeep01_100 := A100n
        have Ckeep11_100 := C100n
        have Ekeep21_100 := E100n
        obtain ⟨mm_100, rfl⟩ : ∃ z, z = m100n := ⟨_, rfl⟩
        rotate_left
       all_goals first
        |refine atA [true, true, true, true, true, true, true, true, true, true, true, true, false, false, false, false] ?_
         refine rdA [12] ?_
         refine AllReadyH.cons (o := oIh12) rfl (fun K hK => ?_) AllReadyH.nil
         refine stepBuild1S ?_ (.tmp 105) ?_ ⟨atN ys t, atN ys (t + 1), false, false⟩ ?_ ?_
         iterate 3 rfl
         intro m100n y100n hm100n hy100n
         have R100n : SpIn y100n m100n 0 ⟨atN ys t, atN ys (t + 1), false, false⟩ := one_S (p := ⟨atN ys t, atN ys (t + 1), false, false⟩) hm100n hy100n
         have V100n := alloc_old hy100n
         have T100n := (HT.out.old ((Old.refl wr).drew)).old V100n
         have O100n := (HO.out.old ((Old.refl wr).drew)).old V100n
         have Y100n : B2 ≤ y100n.heap.size := Nat.le_trans (Nat.le_trans HYr.out ((Old.refl wr).drew).size) V100n.size
         have A100n := (HA.out.up ((Old.refl wr).drew)).up V100n
         have C100n := (HC.out.up ((Old.refl wr).drew)).up V100n
         have E100n := (HE.out.up ((Old.refl wr).drew)).up V100n
         clear hm100n hy100n V100n
         refine hK.out _ _ (let q := own_cellN C100n t (by have := HTl.out; omega); by obtain ⟨g', eg, _, _, qc⟩ := q; cases eg; exact ⟨qc t (by have := HTl.out; omega), qc (t + 1) (by have := HTl.out; omega)⟩) (fun _ => ?_)
         clear hK K
         try simp only [Act.put, puA, puB, puC]
         have OO_100 := O100n
         have RR_100 := R100n
         have TT_100 := T100n
         have YY_100 := Y100n
         have Akeep01_100 := A100n
         have Ckeep11_100 := C100n
         have Ekeep21_100 := E100n
         obtain ⟨mm_100, rfl⟩ : ∃ z, z = m100n := ⟨_, rfl⟩
        |refine atA [true, false, true, true, true, true, true, true, true, true, true, true, true, false, false, false] ?_
         refine rdA [1] ?_
         refine AllReadyH.cons (o := oIh11) rfl (fun K hK => ?_) AllReadyH.nil
         refine stepLoadSL ?_ (.tmp 94) ?_ sb 4 pv ((prs ys).take j).length cv ?_ TT_100.hs.1.2.2.2.2.1 ?_
         iterate 3 rfl
         refine hK.out _ _ (let q := own_cellN Ckeep11_100 t (by have := HTl.out; omega); by obtain ⟨g', eg, _, _, qc⟩ := q; cases eg; exact ⟨qc t (by have := HTl.out; omega), qc (t + 1) (by have := HTl.out; omega)⟩) (fun _ => ?_)
         clear hK K
         try simp only [Act.put, puA, puB, puC]
       all_goals
        refine atA [true, true, true, true, true, true, true, true, true, true, true, true, true, false, false, false] ?_
        refine rdA [13] ?_
        refine AllReadyH.cons (o := oIh13) rfl (fun K hK => ?_) AllReadyH.nil
        refine step_appS1 ?_ (.tmp 95) (.tmp 106) ?_ B2 _ ((prs ys).take j) mm_100 ⟨atN ys t, atN ys (t + 1), false, false⟩ ?_ ?_ OO_100 RR_100 (by have := HPl.out; rw [List.length_take]; omega) YY_100 ?_
        iterate 4 rfl
        intro v100n y100n o100n g100n
        have T100n := TT_100.grown g100n (fun i e => by have := (World.ownsRow.lt OO_100 i e).1; have := HSB.out; omega)
        have Y100n : B2 ≤ y100n.heap.size := Nat.le_trans YY_100 g100n.size
        have A100n : OwnF (sb + 1) y100n _ _ := World.ownsRow.kept Akeep01_100 g100n (Classical.byCases (fun e => .inl e) fun e => .inr fun e2 => by obtain ⟨i, hi⟩ := Option.ne_none_iff_exists'.1 e; have := HLA.out i hi; have := (World.ownsRow.lt OO_100 i (by rw [← e2]; exact hi)).1; omega)
        have C100n : OwnF (sb + 1) y100n _ _ := World.ownsRow.kept Ckeep11_100 g100n (Classical.byCases (fun e => .inl e) fun e => .inr fun e2 => by obtain ⟨i, hi⟩ := Option.ne_none_iff_exists'.1 e; have := HLC.out i hi; have := (World.ownsRow.lt OO_100 i (by rw [← e2]; exact hi)).1; omega)
        have E100n : OwnF (sb + 1) y100n _ _ := World.ownsRow.kept Ekeep21_100 g100n (Classical.byCases (fun e => .inl e) fun e => .inr fun e2 => by obtain ⟨i, hi⟩ := Option.ne_none_iff_exists'.1 e; have := HLE.out i hi; have := (World.ownsRow.lt OO_100 i (by rw [← e2]; exact hi)).1; omega)
        rw [HSt.out] at o100n
        obtain ⟨pn, cn, en⟩ := OwnS.len o100n
        subst en
        refine hK.out _ _ (let q := own_cellN C100n t (by have := HTl.out; omega); by obtain ⟨g', eg, _, _, qc⟩ := q; cases eg; exact ⟨qc t (by have := HTl.out; omega), qc (t + 1) (by have := HTl.out; omega)⟩) (fun _ => ?_)
        clear hK K
        try simp only [Act.put, puA, puB, puC]
        have oO_100 := o100n
        have TT_100 := T100n
        have YY_100 := Y100n
        have Akeep01_100 := A100n
        have Ckeep11_100 := C100n
        have Ekeep21_100 := E100n
       all_goals
        refine atA [true, true, true, true, true, true, true, true, true, true, true, true, true, true, false, false] ?_
        refine tkA (i := 14) (oi := oIh14) (let q := own_cellN Ckeep11_100 t (by have := HTl.out; omega); by obtain ⟨g', eg, _, _, qc⟩ := q; cases eg; exact ⟨qc t (by have := HTl.out; omega), qc (t + 1) (by have := HTl.out; omega)⟩) ?_
        try simp only [Act.put, puA, puB, puC]
        refine rdA [15] ?_
        refine AllReadyH.cons (o := oIh15) rfl (fun K hK => ?_) AllReadyH.nil
        refine stepStoreSL ?_ (.tmp 108) (.tmp 107) ?_ sb 4 pn ((prs ys).take (j + 1)).length cn ?_ ?_ TT_100.th ?_
        iterate 4 rfl
        have T100n := (TT_100.set (.slice pn ((prs ys).take (j + 1)).length cn)).2.1
        have O100n : OwnS B2 _ _ _ := own_far (u := .slice pn ((prs ys).take (j + 1)).length cn) oO_100 (a := ⟨sb, 4, none⟩) (by show sb < B2; have := HSB.out; omega)
        have A100n : OwnF (sb + 1) _ _ _ := own_far (u := .slice pn ((prs ys).take (j + 1)).length cn) Akeep01_100 (a := ⟨sb, 4, none⟩) (by show sb < sb + 1; omega)
        have C100n : OwnF (sb + 1) _ _ _ := own_far (u := .slice pn ((prs ys).take (j + 1)).length cn) Ckeep11_100 (a := ⟨sb, 4, none⟩) (by show sb < sb + 1; omega)
        have E100n : OwnF (sb + 1) _ _ _ := own_far (u := .slice pn ((prs ys).take (j + 1)).length cn) Ekeep21_100 (a := ⟨sb, 4, none⟩) (by show sb < sb + 1; omega)
        refine hK.out _ _ (let q := own_cellN C100n t (by have := HTl.out; omega); by obtain ⟨g', eg, _, _, qc⟩ := q; cases eg; exact ⟨qc t (by have := HTl.out; omega), qc (t + 1) (by have := HTl.out; omega)⟩) (fun _ => ?_)
        clear hK K
        try simp only [Act.put, puA, puB, puC]
        have OO_100 := O100n
        have TT_100 := T100n
        have Akeep01_100 := A100n
        have Ckeep11_100 := C100n
        have Ekeep21_100 := E100n
       all_goals
        refine atA [true, true, true, true, true, true, true, true, true, true, true, true, true, true, true, true] ?_
        refine wpAnyH_done (by kernel_rfl) ?_ _
        refine NoPanic.normal ?_
        have TE := hid TT_100
        have OE := hid (show OwnS B2 _ _ _ from OO_100)
        have AE := hid Akeep01_100
        have CE := hid Ckeep11_100
        have EE := hid Ekeep21_100
        have YE := hid YY_100
        generalize ((prs ys).take (j + 1)).length = LL at *
        go_wp2
        go_roundw
        case rel => exact ⟨j + 1, t + 2, _, by have := HTj.out; omega, hlt, by go_num, TE.out, OE.out, AE.out, CE.out, EE.out, by first | exact YE.out | (have := YE.out; simp; omega)⟩
        case measure => (have := HTj.out; simp [intOf]; omega)
     ·have hjm : j = m2 := by omega
      subst hjm
      have n2 : ¬ ((t : Int) < (ys.length : Int)) := by omega
      have hO2 := HO.out
      rw [HFull.out] at hO2
      have HO2 := hid hO2
      rw [HFull.out] at HT HO
      have x4 := HX4.out.2.2
      have x5 := HX5.out.2.2
      have x6 := HX6.out.2.2
      have hF1 := fun W (q : OwnF (sb + 1) W (.slice a1 xs.length c1) xs) => q.frow (fun x hx => (x4 x hx).1) (by have := HX4.out; omega)
      have hF3 := fun W (q : OwnF (sb + 1) W (.slice a3 qs.length c3) qs) => q.frow (fun x hx => (x6 x hx).1) (by have := HX6.out; omega)
      have hF2 := fun W (q : OwnS B2 W (.slice pv (prs ys).length cv) (prs ys)) => q.row (fun s hs => ⟨((prs_all j ys HYl.out x5 s hs).1.1).1, ((prs_all j ys HYl.out x5 s hs).1.2).1⟩) (by have := HPl.out; omega)
      have HF1 := hid hF1
      have HF2 := hid hF2
      have HF3 := hid hF3
      clear hF1 hF2 hF3 hO2 x4 x5 x6 htj HStep HFull
      have HCk := hid (refChk_any s1 s2 s3 a1 pv a3 xs.length (prs ys).length qs.length c1 cv c3 (atN xs) (atN qs) (atS (prs ys)) wr (HF1.out _ HA.out) (HF2.out _ HO2.out) (HF3.out _ HE.out))
      have hck : (⟨s1, s2, s3, xs, ys, qs⟩ : Raw).chk = chkV s1 s2 s3 xs.length (prs ys).length qs.length (atN xs) (atN qs) (atS (prs ys)) := rfl
      have HRw := hid (show tkSub L = some ((⟨s1, s2, s3, xs, ys, qs⟩ : Raw), []) from HC.out)
      rw [← hck] at HCk
      clear hck HC
      obtain ⟨⟨k0, k1, k2, k3, k4, k5⟩, kf⟩ := HT.out.hs
      clear kf
      by_cases hc : (⟨s1, s2, s3, xs, ys, qs⟩ : Raw).chk = 0
      ·rw [hc] at HCk
       have HCc := hid hc
       clear hc
       go_upto_region 31 with (first | (go_at_call 28; refine HCk.out.mono ?_; rintro e w9 ⟨rfl, u9⟩; have T9 := hid (HT.out.old u9); have A9 := hid (HA.out.up u9); have E9 := hid (HE.out.up u9); have O9 := hid (HO2.out.old u9); clear u9))
       clear k0 k1 k2 k3 k4 k5
       obtain ⟨⟨k0, k1, k2, k3, k4, k5⟩, kf⟩ := T9.out.hs
       clear kf
       obtain ⟨⟨t0, t1, t2, t3, t4, t5⟩, tf⟩ := T9.out.hr
       have e0 := tf 0 (by omega)
       have e1 := tf 1 (by omega)
       have e2 := tf 2 (by omega)
       have e3 := tf 3 (by omega)
       have e4 := tf 4 (by omega)
       have e5 := tf 5 (by omega)
       clear tf
       go_wp2
       have cF := put_chg w9 rb (.int .i64 s1) (.int .i64 s2) (.int .i64 s3) (.slice a1 xs.length c1) (.slice pv (prs ys).length cv) (.slice a3 qs.length c3)
       have hlt9 := T9.out.lt
       refine bodyPost_ret (v := .tuple #[.agg #[.int .i64 s1, .int .i64 s2, .int .i64 s3, .slice a1 xs.length c1, .slice pv (prs ys).length cv, .slice a3 qs.length c3], .bool true]) (by simp [results, Tryz.results12, go_sem, *]) rfl (HPy.out _ ⟨s1, s2, s3, xs, ys, qs⟩ a1 pv a3 c1 cv c3 (Pk.Chg.toOld T9.out.u cF (by simp; exact T9.out.le)) HRw.out HCc.out ?_ ?_ ?_)
       ·exact HF1.out _ (own_far (a := ⟨rb, 5, none⟩) (own_far (a := ⟨rb, 4, none⟩) (own_far (a := ⟨rb, 3, none⟩) (own_far (a := ⟨rb, 2, none⟩) (own_far (a := ⟨rb, 1, none⟩) (own_far (a := ⟨rb, 0, none⟩) A9.out (by show rb < _; have := HSB.out; omega)) (by show rb < _; have := HSB.out; omega)) (by show rb < _; have := HSB.out; omega)) (by show rb < _; have := HSB.out; omega)) (by show rb < _; have := HSB.out; omega)) (by show rb < _; have := HSB.out; omega))
       ·exact HF2.out _ (own_far (a := ⟨rb, 5, none⟩) (own_far (a := ⟨rb, 4, none⟩) (own_far (a := ⟨rb, 3, none⟩) (own_far (a := ⟨rb, 2, none⟩) (own_far (a := ⟨rb, 1, none⟩) (own_far (a := ⟨rb, 0, none⟩) O9.out (by show rb < _; have := HSB.out; omega)) (by show rb < _; have := HSB.out; omega)) (by show rb < _; have := HSB.out; omega)) (by show rb < _; have := HSB.out; omega)) (by show rb < _; have := HSB.out; omega)) (by show rb < _; have := HSB.out; omega))
       ·exact HF3.out _ (own_far (a := ⟨rb, 5, none⟩) (own_far (a := ⟨rb, 4, none⟩) (own_far (a := ⟨rb, 3, none⟩) (own_far (a := ⟨rb, 2, none⟩) (own_far (a := ⟨rb, 1, none⟩) (own_far (a := ⟨rb, 0, none⟩) E9.out (by show rb < _; have := HSB.out; omega)) (by show rb < _; have := HSB.out; omega)) (by show rb < _; have := HSB.out; omega)) (by show rb < _; have := HSB.out; omega)) (by show rb < _; have := HSB.out; omega)) (by show rb < _; have := HSB.out; omega))
      ·have HCc := hid hc
       have tz : ((⟨s1, s2, s3, xs, ys, qs⟩ : Raw).chk != 0) = true := by rw [bne_iff_ne]; exact hc
       have tz2 : ((⟨s1, s2, s3, xs, ys, qs⟩ : Raw).chk == 0) = false := by rw [beq_eq_false_iff_ne]; exact hc
       generalize (⟨s1, s2, s3, xs, ys, qs⟩ : Raw).chk = ck at tz tz2 HCk
       clear hc
       go_upto_region 30 with (first | (go_at_call 28; refine HCk.out.mono ?_; rintro e w9 ⟨rfl, u9⟩; have T9 := hid (HT.out.old u9); clear u9))
       clear k0 k1 k2 k3 k4 k5
       obtain ⟨⟨t0, t1, t2, t3, t4, t5⟩, tf⟩ := T9.out.hr
       have e0 := tf 0 (by omega)
       have e1 := tf 1 (by omega)
       have e2 := tf 2 (by omega)
       have e3 := tf 3 (by omega)
       have e4 := tf 4 (by omega)
       have e5 := tf 5 (by omega)
       clear tf
       go_wp2
       have cF := put_chg w9 rb (.int .i64 0) (.int .i64 0) (.int .i64 0) (.slice none 0 0) (.slice none 0 0) (.slice none 0 0)
       refine bodyPost_ret (v := .tuple #[.agg #[.int .i64 0, .int .i64 0, .int .i64 0, .slice none 0 0, .slice none 0 0, .slice none 0 0], .bool false]) (by simp [results, Tryz.results12, go_sem, *]) rfl (HPn.out _ (Pk.Chg.toOld T9.out.u cF (by simp; exact T9.out.le)) (fun r h => by rw [HRw.out] at h; cases h; exact HCc.out))
   ·have tl0 : decide ((D6.length : Int) > 0) = true := by
      rw [decide_eq_true_eq]; cases D6 with
      | nil => exact absurd rfl hr0
      | cons a b => simp
    have tl1 : (0 : Int) < (D6.length : Int) := by simpa using tl0
    go_upto_region 22 with fail
    obtain ⟨⟨t0, t1, t2, t3, t4, t5⟩, tf⟩ := HT7.out.hr
    have e0 := tf 0 (by omega)
    have e1 := tf 1 (by omega)
    have e2 := tf 2 (by omega)
    have e3 := tf 3 (by omega)
    have e4 := tf 4 (by omega)
    have e5 := tf 5 (by omega)
    clear tf
    go_wp2
    have cF := put_chg w7 rb (.int .i64 0) (.int .i64 0) (.int .i64 0) (.slice none 0 0) (.slice none 0 0) (.slice none 0 0)
    refine bodyPost_ret (v := .tuple #[.agg #[.int .i64 0, .int .i64 0, .int .i64 0, .slice none 0 0, .slice none 0 0, .slice none 0 0], .bool false]) (by simp [results, Tryz.results12, go_sem, *]) rfl (HPn.out _ (Pk.Chg.toOld HT7.out.u cF (by simp; exact HT7.out.le)) (fun r h => by rw [HC.out] at h; cases h; exact absurd rfl hr0))
end Go.Proofs.YtajoodkapiifcaaGreat
