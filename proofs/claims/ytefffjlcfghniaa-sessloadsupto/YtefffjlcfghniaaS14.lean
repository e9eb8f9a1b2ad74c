/- The law's alike and item, of layer 13: a table beside the document's. -/
import Derived.Test.YtefffjlcfghniaaS13
namespace Go.Proofs.Ytefffjlcfghniaa
open Go.RowKit Go.Lib
set_option linter.unusedVariables false
set_option linter.unusedSimpArgs false
set_option maxRecDepth 20000
/-- A row of items, from j on as it was; all of it may be written. -/
structure KRow (g : Nat) (R : List It) (j : Nat) (W : World) : Prop where
  cells : ∀ i, j ≤ i → i < R.length → W.cell? ⟨g, i * 3, none⟩ = some (.int .i64 (atI R i).n) ∧ W.cell? ⟨g, i * 3 + 1, none⟩ = some (.int .i64 (atI R i).c) ∧ W.cell? ⟨g, i * 3 + 2, none⟩ = some (.int .i64 (atI R i).m)
  free : ∀ i, i < R.length → W.frozen? ⟨g, i * 3, none⟩ = false
theorem KRow.set {g : Nat} {R : List It} {j : Nat} {W : World} (h : KRow g R j W) (v : Value) : KRow g R (j + 1) (W.setCell ⟨g, j * 3, none⟩ v) := by
  have hne : ∀ o, o ≠ j * 3 → ∀ u, W.cell? ⟨g, o, none⟩ = some u → (W.setCell ⟨g, j * 3, none⟩ v).cell? ⟨g, o, none⟩ = some u := fun o ho u e => by
    rw [World.cell?_setCell_other _ _ _ _ (by intro q; cases q; exact ho rfl)]; exact e
  refine ⟨fun i hi hl => ?_, fun i hl => by rw [World.frozen?_setCell]; exact h.free i hl⟩
  obtain ⟨a, b, c⟩ := h.cells i (by omega) hl
  exact ⟨hne _ (by omega) _ a, hne _ (by omega) _ b, hne _ (by omega) _ c⟩
theorem KRow.drew {g : Nat} {R : List It} {j : Nat} {W : World} (h : KRow g R j W) : KRow g R j W.drew := ⟨h.cells, h.free⟩
theorem keptK {base : Nat} {w : World} {v : Value} {R : List It} (h : Own base w v R) (h0 : R ≠ []) : ∃ g c, v = .slice (some ⟨g, 0, none⟩) R.length c ∧ base ≤ g ∧ g < w.heap.size ∧ KRow g R 0 w := by
  have h2 := h
  unfold Own at h2
  rcases h2.2 with ⟨e, e0⟩ | ⟨g, cap, cur, e, hb, hg, hnc, hcm, hcs, htk⟩
  · exact absurd (List.length_eq_zero_iff.1 e0) h0
  · subst e
    refine ⟨g, cap, rfl, hb, (World.ownsRow.lt h g rfl).2, fun i _ hi => ?_, fun i hi => by simp [World.frozen?, hg]⟩
    obtain ⟨g', off, e, a, b, c⟩ := own_cells h i hi
    cases e
    rw [Nat.zero_add] at a b c
    exact ⟨a, b, c⟩
theorem KRow.up {g : Nat} {R : List It} {w w' : World} (h : KRow g R 0 w) (hg : g < w.heap.size) (u : Old w w') : KRow g R 0 w' :=
  ⟨fun i hi hl => by obtain ⟨a, b, c⟩ := h.cells i hi hl; exact ⟨u.keep a, u.keep b, u.keep c⟩, fun i hl => by have := Below.block u g hg; simp only [World.frozen?] at *; rw [this]; exact h.free i hl⟩
/-- The six cells that a round reads. -/
abbrev K6 (g q o : Nat) (x : It) : World → Prop := fun wz => wz.cell? ⟨g, o * 3, none⟩ = some (.int .i64 x.n) ∧ wz.cell? ⟨g, o * 3 + 1, none⟩ = some (.int .i64 x.c) ∧ wz.cell? ⟨g, o * 3 + 2, none⟩ = some (.int .i64 x.m) ∧ wz.cell? ⟨q, o * 4 + 1, none⟩ = some (.int .i64 x.n) ∧ wz.cell? ⟨q, o * 4 + 2, none⟩ = some (.int .i64 x.c) ∧ wz.cell? ⟨q, o * 4 + 3, none⟩ = some (.int .i64 x.m)
theorem K6.old {g q o : Nat} {x : It} {w w' : World} (u : Old w w') (h : K6 g q o x w) : K6 g q o x w' := ⟨u.keep h.1, u.keep h.2.1, u.keep h.2.2.1, u.keep h.2.2.2.1, u.keep h.2.2.2.2.1, u.keep h.2.2.2.2.2⟩
theorem KC.set {g q o : Nat} {x : It} {w : World} (h : KC q o x w) (hn : g ≠ q) (p : Nat) (v : Value) : KC q o x (w.setCell ⟨g, p, none⟩ v) := by
  have hne : ∀ a u, w.cell? ⟨q, a, none⟩ = some u → (w.setCell ⟨g, p, none⟩ v).cell? ⟨q, a, none⟩ = some u := fun a u e => by
    rw [World.cell?_setCell_other _ _ _ _ (by intro q; cases q; exact hn rfl)]; exact e
  exact ⟨hne _ _ h.1, hne _ _ h.2.1, hne _ _ h.2.2⟩
set_option maxHeartbeats 4000000 in
set_option maxRecDepth 20000 in
theorem alike_any (tb : Nat) (Bs : List Nat) (ks : List Int) (L : Int → List It) (v : Value) (T : List Opv) (w : World) (ht : TabIs w tb Bs ks L) (hk : TOk ks L) (hv : RRow w v T) (hRel : Rel T ks L) (hnd : ks.Nodup) :
    Calls Try.prog 16 #[.pointer (some ⟨tb, 0, none⟩), .agg #[v]] w fun e w' => e = .returned (.bool true) ∧ Old w w' := by
  have h1 : ∀ i, i < T.length → 1 ≤ (opA T i).s := fun i hi => (hk.rng _ (hRel.of _ (opA_mem T i hi)).2).1
  have h2 : ∀ i, i < T.length → 1 ≤ (opA T i).x.n := fun i hi => (hk.seq _ _ (hRel.of _ (opA_mem T i hi)).1).1
  have HSess := hid (fun (W : World) (u : Old w W) => (rSessions_any v T W (hv.old u) h1).mono (R' := fun e w' => ∃ v' S, e = .returned v' ∧ S.Perm ks ∧ S.Pairwise (· ≤ ·) ∧ OwnN W.heap.size w' v' S ∧ Old W w') (by
    rintro e w' ⟨v', O, rfl, hO, _, o, u⟩
    exact ⟨v', O, rfl, sess_perm hRel hk hnd hO, hO.rise.imp (fun h => by omega), o, u⟩))
  have HKept := hid (fun (id : Int) (W : World) (u : Old w W) => (rKept_any v T id W (hv.old u) h2).mono (R' := fun e w' => ∃ v' O, e = .returned v' ∧ O.map (·.x) = L id ∧ OwnO W.heap.size w' v' O ∧ Old W w') (by
    rintro e w' ⟨v', O, rfl, hO, _, o, u⟩
    exact ⟨v', O, rfl, (hRel.kept hk hO).1, o, u⟩))
  have HHigh := hid (fun (id : Int) (W : World) (u : Old w W) => (rHighest_any v T id W (hv.old u)).mono (R' := fun e w' => e = .returned (.int .i64 (hiL (L id))) ∧ Old W w') (by
    rintro e w' ⟨rfl, u⟩
    exact ⟨by rw [hRel.hi hk id], u⟩))
  have HTS := hid (fun (W : World) (u : Old w W) => sessions_any tb Bs ks L W (ht.old u) hk)
  have HTK := hid (fun (id : Int) (hi : N64 id) (W : World) (u : Old w W) => kept_any tb Bs ks L id W (ht.old u) hk hi)
  have HTH := hid (fun (id : Int) (hi : N64 id) (W : World) (u : Old w W) => high_any tb Bs ks L id W (ht.old u) hk hi)
  have HOk := hid hk
  obtain ⟨hm, p, c, rfl, hc⟩ := hv
  clear hc h1 h2 hRel hk hnd ht
  go_enter Try.func16, Try.ntmps16
  go_upto_region 1 with fail
  generalize hw1 : w.alloc (.cells #[.slice p T.length c] 42) = w1 at *
  obtain ⟨xb, hxb⟩ : ∃ xb, w.heap.size = xb := ⟨_, rfl⟩
  obtain ⟨hb1, hu1⟩ := rtab_new w (.slice p T.length c) w1 hw1 xb hxb
  simp only [hxb]
  have B1 := hid hb1
  have U1 := hid hu1
  clear hw1 hb1 hu1 hxb
  obtain ⟨tn, htn⟩ : ∃ tn, T.length = tn := ⟨_, rfl⟩
  simp only [htn] at HSess HKept HHigh B1 hm ⊢
  clear htn
  have b1 := B1.out
  go_upto_region 2 with (go_at_call 37; refine (HSess.out _ U1.out).mono ?_; rintro e w2 ⟨v2, S, rfl, hp, hs, o2, u2⟩; have HP := hid hp; have HPw := hid hs; have O2 := hid o2; have U2 := hid u2; clear hp hs o2 u2)
  obtain ⟨p3, c3, e3⟩ := O2.out.len
  subst e3
  have hsl : S.length ≤ 16 := by have := HP.out.length_eq; have := HOk.out.many; omega
  have HC3 := hid (show ∀ i, i < S.length → ∃ g off, p3 = some ⟨g, off, none⟩ ∧ w2.cell? ⟨g, off + i, none⟩ = some (.int .i64 (S.getD i 0)) from by
    obtain ⟨_, pr, cr, er, hcr⟩ := O2.out.nrow (by omega)
    cases er
    exact hcr)
  have HMem := hid (fun k (hk : k < S.length) => (HP.out.mem_iff.1 (show S.getD k 0 ∈ S from by rw [List.getD_eq_getElem?_getD, List.getElem?_eq_getElem hk]; exact List.getElem_mem hk)))
  have hsl2 : (S.length : Int) ≤ 16 := by omega
  have HW := hid (U1.out.trans U2.out)
  have B2 := hid (U2.out.keep B1.out)
  have NR := hid (O2.out.nrow (by omega))
  clear HSess O2 U1 U2 B1 b1
  go_upto_region 4 with (first | (go_at_call 23; refine (HTS.out _ HW.out).mono ?_; rintro e w3 ⟨v3, S3, rfl, hp, hs, o3, u3⟩; have HE3 := hid (sort_one hp HP.out (List.Perm.refl _) hs HPw.out); have O3 := hid (o3.nrow (by have := hp.length_eq; have := HOk.out.many; omega)); have U3 := hid u3; clear hp hs o3 u3) | (go_at_call 22; refine (sameNums_eq _ _ S _ (by rw [← HE3.out]; exact O3.out) (NR.out.old U3.out)).mono ?_; rintro e w4 ⟨rfl, u4⟩; have U4 := hid (U3.out.trans u4); clear u4))
  clear HTS O3 HE3 NR U3
  obtain ⟨sn, hsn⟩ : ∃ sn, S.length = sn := ⟨_, rfl⟩
  rw [hsn] at HC3 HMem hsl hsl2 ⊢
  clear hsn HP HPw
  go_wp2
  go_loopw [20] (fun i wr => ∃ k : Nat, k ≤ sn ∧ i = .int .i64 (k : Nat) ∧ Old w2 wr) (fun i _ => sn - (intOf i).toNat)
  case atStart => exact ⟨0, Nat.zero_le _, rfl, U4.out⟩
  case round =>
    obtain ⟨k, hk, rfl, hu⟩ := hrel
    have UU := hid hu
    clear U4 hu
    by_cases hlt : k < sn
    · obtain ⟨b, off, ha, c0⟩ := HC3.out k hlt
      subst ha
      have HKB := hid (show KB xb b (off + k) (.slice p tn c) (S.getD k 0) w2 from ⟨B2.out, c0⟩)
      have x0 := UU.out.keep c0
      have l1 : (0 : Int) ≤ (k : Int) := by omega
      have l2 : (k : Int) < (sn : Int) := by omega
      have hid0 := HMem.out k hlt
      clear c0 HMem HC3
      generalize S.getD k 0 = id at *
      have hrg := HOk.out.rng id hid0
      have HNid := hid (show N64 id from ⟨by omega, by omega⟩)
      have hll := HOk.out.len id
      have HSm := hid (HOk.out.some id hid0)
      have HK1 := hid (fun (W : World) (u : Old wr W) => HTK.out id HNid.out W ((HW.out.trans UU.out).trans u))
      have HK2 := hid (fun (W : World) (u : Old wr W) => HKept.out id W ((HW.out.trans UU.out).trans u))
      have HH1 := hid (fun (W : World) (u : Old w2 W) => HTH.out id HNid.out W (HW.out.trans u))
      have HH2 := hid (fun (W : World) (u : Old w2 W) => HHigh.out id W (HW.out.trans u))
      generalize hiL (L id) = hi at *
      generalize L id = R at *
      clear HKept HHigh HTK HTH hrg hid0
      go_upto_region 7 with (fail)
      clear x0
      refine wp_region_noPanic ?_
      refine wp_region_held_drew (S := KB xb b (off + k) (.slice p tn c) id) (by kernel_rfl) ?_ (fun hHeld => ?_)
      · exact KB.old (UU.out.trans ((Old.refl wr).drew)) HKB.out
      (try simp only [Act.put]); (try simp only [List.setIfInBounds_toArray]); (try simp only [List.set_cons_succ]); (try simp only [List.set_cons_zero])
      clear hHeld
      refine wpAnyH_take (i := 0) (oi := { dst := some 24, op := Op.move (Operand.tmp 0), type := 23, pos := "law.go:46", after := #[], guard := none }) (v := ?vk1) rfl (by kernel_rfl) (by kernel_rfl) (by kernel_rfl) (fun _ _ _ h => h) (Or.inl ⟨by rfl, ?hk1⟩) (KB.old (UU.out.trans ((Old.refl wr).drew)) HKB.out) ?rk1
      case hk1 => (intro wz hSw; (try dsimp only at hSw); go_simp; try with_reducible rfl)
      (try simp only [Act.put]); (try simp only [List.setIfInBounds_toArray]); (try simp only [List.set_cons_succ]); (try simp only [List.set_cons_zero])
      refine wpAnyH_take (i := 1) (oi := { dst := some 25, op := Op.move (Operand.tmp 7), type := 2, pos := "law.go:46", after := #[], guard := none }) (v := ?vk2) rfl (by kernel_rfl) (by kernel_rfl) (by kernel_rfl) (fun _ _ _ h => h) (Or.inl ⟨by rfl, ?hk2⟩) (KB.old (UU.out.trans ((Old.refl wr).drew)) HKB.out) ?rk2
      case hk2 => (intro wz hSw; (try dsimp only at hSw); go_simp; try with_reducible rfl)
      (try simp only [Act.put]); (try simp only [List.setIfInBounds_toArray]); (try simp only [List.set_cons_succ]); (try simp only [List.set_cons_zero])
      refine wpAnyH_take (i := 3) (oi := { dst := some 27, op := Op.load 42 (Operand.tmp 3), type := 42, pos := "law.go:46", after := #[], guard := none }) (v := ?vk3) rfl (by kernel_rfl) (by kernel_rfl) (by kernel_rfl) (fun _ _ _ h => h) (Or.inl ⟨by rfl, ?hk3⟩) (KB.old (UU.out.trans ((Old.refl wr).drew)) HKB.out) ?rk3
      case hk3 => (intro wz hSw; (try dsimp only at hSw); go_simp; try with_reducible rfl)
      (try simp only [Act.put]); (try simp only [List.setIfInBounds_toArray]); (try simp only [List.set_cons_succ]); (try simp only [List.set_cons_zero])
      refine wpAnyH_take (i := 4) (oi := { dst := some 28, op := Op.move (Operand.tmp 7), type := 2, pos := "law.go:46", after := #[], guard := none }) (v := ?vk4) rfl (by kernel_rfl) (by kernel_rfl) (by kernel_rfl) (fun _ _ _ h => h) (Or.inl ⟨by rfl, ?hk4⟩) (KB.old (UU.out.trans ((Old.refl wr).drew)) HKB.out) ?rk4
      case hk4 => (intro wz hSw; (try dsimp only at hSw); go_simp; try with_reducible rfl)
      (try simp only [Act.put]); (try simp only [List.setIfInBounds_toArray]); (try simp only [List.set_cons_succ]); (try simp only [List.set_cons_zero])
      refine wpAnyH_ready (rs := [2]) (by kernel_rfl) (by simp) ?_
      refine AllReadyH.cons (o := { dst := some 26, op := Op.call { callee := Callee.value (Operand.func 21), args := #[Operand.tmp 24, Operand.tmp 25], argTypes := #[23, 2] }, type := 61, pos := "law.go:46", after := #[{ on := 0, ground := Ground.data }, { on := 1, ground := Ground.data }], guard := none }) rfl (fun K hK => ?_) AllReadyH.nil
      refine wantCall2 ?_ 21 (.tmp 24) (.tmp 25) #[23, 2] ?_ (.pointer (some ⟨tb, 0, none⟩)) (.int .i64 id) ?_ ?_ ?_ ((enters_of Try.func21 (by kernel_rfl) rfl) _ _) ?_
      · rfl
      · rfl
      · rfl
      · rfl
      · rfl
      refine (HK1.out _ ((Old.refl wr).drew)).mono ?_
      rintro o xc ⟨vc, rfl, oc, uc'⟩
      have uc := ((Old.refl wr).drew).trans uc'
      clear uc'
      obtain ⟨pc, cc, ec⟩ := Own.len oc
      subst ec
      have OC := hid oc
      clear oc
      refine ⟨_, rfl, ?_⟩
      refine hK.out _ _ (KB.old (UU.out.trans uc) HKB.out) (fun _ => ?_)
      clear hK K
      (try simp only [Act.put]); (try simp only [List.setIfInBounds_toArray]); (try simp only [List.set_cons_succ]); (try simp only [List.set_cons_zero])
      refine wpAnyH_ready (rs := [5]) (by kernel_rfl) (by simp) ?_
      refine AllReadyH.cons (o := { dst := some 29, op := Op.call { callee := Callee.value (Operand.func 38), args := #[Operand.tmp 27, Operand.tmp 28], argTypes := #[42, 2] }, type := 40, pos := "law.go:46", after := #[{ on := 3, ground := Ground.data }, { on := 4, ground := Ground.data }, { on := 2, ground := Ground.chain }], guard := none }) rfl (fun K hK => ?_) AllReadyH.nil
      refine wantCall2 ?_ 38 (.tmp 27) (.tmp 28) #[42, 2] ?_ (.agg #[.slice p tn c]) (.int .i64 id) ?_ ?_ ?_ ((enters_of Try.func38 (by kernel_rfl) rfl) _ _) ?_
      · rfl
      · rfl
      · rfl
      · rfl
      · rfl
      refine (HK2.out _ uc).mono ?_
      rintro o xd ⟨vd, O, rfl, hdm, od, ude⟩
      have ud := uc.trans ude
      obtain ⟨pd, cd, ed⟩ := OwnO.len od
      obtain ⟨dm, hdm'⟩ : ∃ dm, O.length = dm := ⟨_, rfl⟩
      rw [hdm'] at ed
      subst ed
      have OD := hid od
      have HDm := hid hdm
      clear od hdm hdm'
      refine ⟨_, rfl, ?_⟩
      refine hK.out _ _ (KB.old (UU.out.trans ud) HKB.out) (fun _ => ?_)
      clear hK K
      (try simp only [Act.put]); (try simp only [List.setIfInBounds_toArray]); (try simp only [List.set_cons_succ]); (try simp only [List.set_cons_zero])
      refine wpAnyH_ready (rs := [6]) (by kernel_rfl) (by simp) ?_
      refine AllReadyH.cons (o := { dst := some 8, op := Op.assign (Operand.tmp 26), type := 61, pos := "law.go:46", after := #[{ on := 2, ground := Ground.data }, { on := 5, ground := Ground.chain }, { on := 0, ground := Ground.phase }, { on := 1, ground := Ground.phase }, { on := 2, ground := Ground.phase }, { on := 3, ground := Ground.textOnly Departure.lateStores }, { on := 4, ground := Ground.textOnly Departure.lateStores }, { on := 5, ground := Ground.textOnly Departure.lateStoresUnsure }], guard := none }) rfl (fun K hK => ?_) AllReadyH.nil
      go_simp
      refine hK.out _ _ (KB.old (UU.out.trans ud) HKB.out) (fun _ => ?_)
      clear hK K
      (try simp only [Act.put]); (try simp only [List.setIfInBounds_toArray]); (try simp only [List.set_cons_succ]); (try simp only [List.set_cons_zero])
      refine wpAnyH_ready (rs := [7]) (by kernel_rfl) (by simp) ?_
      refine AllReadyH.cons (o := { dst := some 9, op := Op.assign (Operand.tmp 29), type := 40, pos := "law.go:46", after := #[{ on := 5, ground := Ground.data }, { on := 6, ground := Ground.chain }, { on := 0, ground := Ground.phase }, { on := 1, ground := Ground.phase }, { on := 2, ground := Ground.phase }, { on := 3, ground := Ground.phase }, { on := 4, ground := Ground.phase }, { on := 5, ground := Ground.phase }, { on := 6, ground := Ground.phase }], guard := none }) rfl (fun K hK => ?_) AllReadyH.nil
      go_simp
      refine hK.out _ _ (KB.old (UU.out.trans ud) HKB.out) (fun _ => ?_)
      clear hK K
      (try simp only [Act.put]); (try simp only [List.setIfInBounds_toArray]); (try simp only [List.set_cons_succ]); (try simp only [List.set_cons_zero])
      refine wpAnyH_done (by kernel_rfl) ?_ _
      refine NoPanic.normal ?_
      have HU2 := hid (UU.out.trans ud)
      obtain ⟨gk, ck, ek, hgk, hgx, hkz⟩ := keptK OC.out HSm.out
      cases ek
      obtain ⟨hwm, hwc⟩ := keptC OD.out HDm.out hll
      have h0 : 0 < R.length := List.length_pos_iff.2 HSm.out
      subst hwm
      obtain ⟨gw, hgw, ew, _⟩ := hwc 0 h0
      subst ew
      have HGk := hid (show w2.heap.size ≤ gk from by have := UU.out.size; have : wr.heap.size ≤ gk := hgk; omega)
      have HGn := hid (show gk ≠ gw from by have : xc.heap.size ≤ gw := hgw; omega)
      have HGx := hid (show gk < xd.heap.size from by have := ude.size; omega)
      have HKz := hid (KRow.up hkz hgx ude)
      have HCz := hid (fun i (hi : i < R.length) => show KC gw (i * 4) (atI R i) xd from by
        obtain ⟨b', _, e', q⟩ := hwc i hi
        cases e'
        exact q)
      have hll2 : (R.length : Int) ≤ 8 := by omega
      clear hgk hgx hkz hwc hgw ude ud uc OC OD HDm HK1 HK2 HSm
      go_upto_region 8 with (fail)
      refine wp_region_noPanic ?_
      refine wp_region_held_drew (S := KB xb b (off + k) (.slice p tn c) id) (by kernel_rfl) ?_ (fun hHeld => ?_)
      · exact KB.old (HU2.out.trans ((Old.refl xd).drew)) HKB.out
      (try simp only [Act.put]); (try simp only [List.setIfInBounds_toArray]); (try simp only [List.set_cons_succ]); (try simp only [List.set_cons_zero])
      clear hHeld
      refine wpAnyH_take (i := 0) (oi := { dst := some 30, op := Op.move (Operand.tmp 0), type := 23, pos := "law.go:47", after := #[], guard := none }) (v := ?vk7) rfl (by kernel_rfl) (by kernel_rfl) (by kernel_rfl) (fun _ _ _ h => h) (Or.inl ⟨by rfl, ?hk7⟩) (KB.old (HU2.out.trans ((Old.refl xd).drew)) HKB.out) ?rk7
      case hk7 => (intro wz hSw; (try dsimp only at hSw); go_simp; try with_reducible rfl)
      (try simp only [Act.put]); (try simp only [List.setIfInBounds_toArray]); (try simp only [List.set_cons_succ]); (try simp only [List.set_cons_zero])
      refine wpAnyH_take (i := 1) (oi := { dst := some 31, op := Op.move (Operand.tmp 7), type := 2, pos := "law.go:47", after := #[], guard := none }) (v := ?vk8) rfl (by kernel_rfl) (by kernel_rfl) (by kernel_rfl) (fun _ _ _ h => h) (Or.inl ⟨by rfl, ?hk8⟩) (KB.old (HU2.out.trans ((Old.refl xd).drew)) HKB.out) ?rk8
      case hk8 => (intro wz hSw; (try dsimp only at hSw); go_simp; try with_reducible rfl)
      (try simp only [Act.put]); (try simp only [List.setIfInBounds_toArray]); (try simp only [List.set_cons_succ]); (try simp only [List.set_cons_zero])
      refine wpAnyH_take (i := 3) (oi := { dst := some 33, op := Op.load 42 (Operand.tmp 3), type := 42, pos := "law.go:47", after := #[], guard := none }) (v := ?vk9) rfl (by kernel_rfl) (by kernel_rfl) (by kernel_rfl) (fun _ _ _ h => h) (Or.inl ⟨by rfl, ?hk9⟩) (KB.old (HU2.out.trans ((Old.refl xd).drew)) HKB.out) ?rk9
      case hk9 => (intro wz hSw; (try dsimp only at hSw); go_simp; try with_reducible rfl)
      (try simp only [Act.put]); (try simp only [List.setIfInBounds_toArray]); (try simp only [List.set_cons_succ]); (try simp only [List.set_cons_zero])
      refine wpAnyH_take (i := 4) (oi := { dst := some 34, op := Op.move (Operand.tmp 7), type := 2, pos := "law.go:47", after := #[], guard := none }) (v := ?vk10) rfl (by kernel_rfl) (by kernel_rfl) (by kernel_rfl) (fun _ _ _ h => h) (Or.inl ⟨by rfl, ?hk10⟩) (KB.old (HU2.out.trans ((Old.refl xd).drew)) HKB.out) ?rk10
      case hk10 => (intro wz hSw; (try dsimp only at hSw); go_simp; try with_reducible rfl)
      (try simp only [Act.put]); (try simp only [List.setIfInBounds_toArray]); (try simp only [List.set_cons_succ]); (try simp only [List.set_cons_zero])
      refine wpAnyH_ready (rs := [2]) (by kernel_rfl) (by simp) ?_
      refine AllReadyH.cons (o := { dst := some 32, op := Op.call { callee := Callee.value (Operand.func 17), args := #[Operand.tmp 30, Operand.tmp 31], argTypes := #[23, 2] }, type := 2, pos := "law.go:47", after := #[{ on := 0, ground := Ground.data }, { on := 1, ground := Ground.data }], guard := none }) rfl (fun K hK => ?_) AllReadyH.nil
      refine wantCall2 ?_ 17 (.tmp 30) (.tmp 31) #[23, 2] ?_ (.pointer (some ⟨tb, 0, none⟩)) (.int .i64 id) ?_ ?_ ?_ ((enters_of Try.func17 (by kernel_rfl) rfl) _ _) ?_
      · rfl
      · rfl
      · rfl
      · rfl
      · rfl
      refine (HH1.out _ (HU2.out.trans (((Old.refl xd).drew)))).mono ?_
      rintro o xe ⟨rfl, ue'⟩
      have ue := (((Old.refl xd).drew)).trans ue'
      clear ue'
      refine ⟨_, rfl, ?_⟩
      refine hK.out _ _ (KB.old (HU2.out.trans ue) HKB.out) (fun _ => ?_)
      clear hK K
      (try simp only [Act.put]); (try simp only [List.setIfInBounds_toArray]); (try simp only [List.set_cons_succ]); (try simp only [List.set_cons_zero])
      refine wpAnyH_ready (rs := [5]) (by kernel_rfl) (by simp) ?_
      refine AllReadyH.cons (o := { dst := some 35, op := Op.call { callee := Callee.value (Operand.func 18), args := #[Operand.tmp 33, Operand.tmp 34], argTypes := #[42, 2] }, type := 2, pos := "law.go:47", after := #[{ on := 3, ground := Ground.data }, { on := 4, ground := Ground.data }, { on := 2, ground := Ground.chain }], guard := none }) rfl (fun K hK => ?_) AllReadyH.nil
      refine wantCall2 ?_ 18 (.tmp 33) (.tmp 34) #[42, 2] ?_ (.agg #[.slice p tn c]) (.int .i64 id) ?_ ?_ ?_ ((enters_of Try.func18 (by kernel_rfl) rfl) _ _) ?_
      · rfl
      · rfl
      · rfl
      · rfl
      · rfl
      refine (HH2.out _ (HU2.out.trans (ue))).mono ?_
      rintro o xf ⟨rfl, uf'⟩
      have uf := (ue).trans uf'
      clear uf'
      refine ⟨_, rfl, ?_⟩
      refine hK.out _ _ (KB.old (HU2.out.trans uf) HKB.out) (fun _ => ?_)
      clear hK K
      (try simp only [Act.put]); (try simp only [List.setIfInBounds_toArray]); (try simp only [List.set_cons_succ]); (try simp only [List.set_cons_zero])
      refine wpAnyH_take (i := 6) (oi := { dst := some 36, op := Op.binOp BinOp.neq 2 (Operand.tmp 32) (Operand.tmp 35) 2, type := 4, pos := "law.go:47", after := #[{ on := 2, ground := Ground.data }, { on := 5, ground := Ground.data }], guard := none }) (v := ?vk13) rfl (by kernel_rfl) (by kernel_rfl) (by kernel_rfl) (fun _ _ _ h => h) (Or.inl ⟨by rfl, ?hk13⟩) (KB.old (HU2.out.trans uf) HKB.out) ?rk13
      case hk13 => (intro wz hSw; (try dsimp only at hSw); go_simp; try with_reducible rfl)
      (try simp only [Act.put]); (try simp only [List.setIfInBounds_toArray]); (try simp only [List.set_cons_succ]); (try simp only [List.set_cons_zero])
      refine wpAnyH_take (i := 7) (oi := { dst := some 37, op := Op.move (Operand.tmp 36), type := 4, pos := "law.go:47", after := #[{ on := 6, ground := Ground.data }, { on := 5, ground := Ground.chain }], guard := none }) (v := ?vk14) rfl (by kernel_rfl) (by kernel_rfl) (by kernel_rfl) (fun _ _ _ h => h) (Or.inl ⟨by rfl, ?hk14⟩) (KB.old (HU2.out.trans uf) HKB.out) ?rk14
      case hk14 => (intro wz hSw; (try dsimp only at hSw); go_simp; try with_reducible rfl)
      (try simp only [Act.put]); (try simp only [List.setIfInBounds_toArray]); (try simp only [List.set_cons_succ]); (try simp only [List.set_cons_zero])
      refine wpAnyH_take (i := 8) (oi := { dst := some 38, op := Op.move (Operand.tmp 8), type := 61, pos := "law.go:47", after := #[{ on := 7, ground := Ground.guard }], guard := some (7, false) }) (v := ?vk15) rfl (by kernel_rfl) (by kernel_rfl) (by kernel_rfl) (fun _ _ _ h => h) (Or.inl ⟨by rfl, ?hk15⟩) (KB.old (HU2.out.trans uf) HKB.out) ?rk15
      case hk15 => (intro wz hSw; (try dsimp only at hSw); go_simp; try with_reducible rfl)
      (try simp only [Act.put]); (try simp only [List.setIfInBounds_toArray]); (try simp only [List.set_cons_succ]); (try simp only [List.set_cons_zero])
      refine wpAnyH_take (i := 9) (oi := { dst := some 39, op := Op.call { callee := Callee.builtin Builtin.len, args := #[Operand.tmp 38], argTypes := #[61] }, type := 3, pos := "law.go:47", after := #[{ on := 8, ground := Ground.data }, { on := 7, ground := Ground.guard }], guard := some (7, false) }) (v := ?vk16) rfl (by kernel_rfl) (by kernel_rfl) (by kernel_rfl) (fun _ _ _ h => h) (Or.inl ⟨by rfl, ?hk16⟩) (KB.old (HU2.out.trans uf) HKB.out) ?rk16
      case hk16 => (intro wz hSw; (try dsimp only at hSw); go_simp; try with_reducible rfl)
      (try simp only [Act.put]); (try simp only [List.setIfInBounds_toArray]); (try simp only [List.set_cons_succ]); (try simp only [List.set_cons_zero])
      refine wpAnyH_take (i := 10) (oi := { dst := some 40, op := Op.move (Operand.tmp 9), type := 40, pos := "law.go:47", after := #[{ on := 7, ground := Ground.guard }], guard := some (7, false) }) (v := ?vk17) rfl (by kernel_rfl) (by kernel_rfl) (by kernel_rfl) (fun _ _ _ h => h) (Or.inl ⟨by rfl, ?hk17⟩) (KB.old (HU2.out.trans uf) HKB.out) ?rk17
      case hk17 => (intro wz hSw; (try dsimp only at hSw); go_simp; try with_reducible rfl)
      (try simp only [Act.put]); (try simp only [List.setIfInBounds_toArray]); (try simp only [List.set_cons_succ]); (try simp only [List.set_cons_zero])
      refine wpAnyH_take (i := 11) (oi := { dst := some 41, op := Op.call { callee := Callee.builtin Builtin.len, args := #[Operand.tmp 40], argTypes := #[40] }, type := 3, pos := "law.go:47", after := #[{ on := 10, ground := Ground.data }, { on := 7, ground := Ground.guard }], guard := some (7, false) }) (v := ?vk18) rfl (by kernel_rfl) (by kernel_rfl) (by kernel_rfl) (fun _ _ _ h => h) (Or.inl ⟨by rfl, ?hk18⟩) (KB.old (HU2.out.trans uf) HKB.out) ?rk18
      case hk18 => (intro wz hSw; (try dsimp only at hSw); go_simp; try with_reducible rfl)
      (try simp only [Act.put]); (try simp only [List.setIfInBounds_toArray]); (try simp only [List.set_cons_succ]); (try simp only [List.set_cons_zero])
      refine wpAnyH_take (i := 12) (oi := { dst := some 42, op := Op.binOp BinOp.neq 3 (Operand.tmp 39) (Operand.tmp 41) 3, type := 4, pos := "law.go:47", after := #[{ on := 9, ground := Ground.data }, { on := 11, ground := Ground.data }, { on := 7, ground := Ground.guard }], guard := some (7, false) }) (v := ?vk19) rfl (by kernel_rfl) (by kernel_rfl) (by kernel_rfl) (fun _ _ _ h => h) (Or.inl ⟨by rfl, ?hk19⟩) (KB.old (HU2.out.trans uf) HKB.out) ?rk19
      case hk19 => (intro wz hSw; (try dsimp only at hSw); go_simp; try with_reducible rfl)
      (try simp only [Act.put]); (try simp only [List.setIfInBounds_toArray]); (try simp only [List.set_cons_succ]); (try simp only [List.set_cons_zero])
      refine wpAnyH_take (i := 13) (oi := { dst := some 43, op := Op.pick (Operand.tmp 37) (Operand.const (Value.bool true)) (Operand.tmp 42), type := 4, pos := "law.go:47", after := #[{ on := 7, ground := Ground.data }, { on := 12, ground := Ground.data }], guard := none }) (v := ?vk20) rfl (by kernel_rfl) (by kernel_rfl) (by kernel_rfl) (fun _ _ _ h => h) (Or.inl ⟨by rfl, ?hk20⟩) (KB.old (HU2.out.trans uf) HKB.out) ?rk20
      case hk20 => (intro wz hSw; (try dsimp only at hSw); go_simp; try with_reducible rfl)
      (try simp only [Act.put]); (try simp only [List.setIfInBounds_toArray]); (try simp only [List.set_cons_succ]); (try simp only [List.set_cons_zero])
      refine wpAnyH_done (by kernel_rfl) ?_ _
      refine NoPanic.normal ?_
      have VZ := hid uf
      have UZ := hid (HU2.out.trans VZ.out)
      have KZ := hid (HKz.out.up HGx.out VZ.out)
      have CZ := hid (fun i (hi : i < R.length) => show KC gw (i * 4) (atI R i) xf from ⟨VZ.out.keep (HCz.out i hi).1, VZ.out.keep (HCz.out i hi).2.1, VZ.out.keep (HCz.out i hi).2.2⟩)
      clear VZ HKz HCz HH1 HH2 HU2
      go_wp2
      go_loopw [46] (fun i wz => ∃ j : Nat, j ≤ R.length ∧ i = .int .i64 (j : Nat) ∧ KRow gk R j wz ∧ (∀ i, i < R.length → KC gw (i * 4) (atI R i) wz) ∧ Old w2 wz) (fun i _ => R.length - (intOf i).toNat)
      case atStart => exact ⟨0, Nat.zero_le _, rfl, KZ.out, CZ.out, UZ.out⟩
      case round =>
        obtain ⟨j, hj, rfl, hkr, hkw, hu3⟩ := hrel
        have HKr := hid hkr
        have HKw := hid hkw
        have HU3 := hid hu3
        clear hkr hkw hu3 KZ CZ UZ
        by_cases hjt : j < R.length
        · have HK6 := hid (show K6 gk gw j (atI R j) wr from ⟨(HKr.out.cells j (Nat.le_refl _) hjt).1, (HKr.out.cells j (Nat.le_refl _) hjt).2.1, (HKr.out.cells j (Nat.le_refl _) hjt).2.2, (HKw.out j hjt).1, (HKw.out j hjt).2.1, (HKw.out j hjt).2.2⟩)
          have k1 : (0 : Int) ≤ (j : Int) := by omega
          have k2 : (j : Int) < (R.length : Int) := by omega
          go_upto_region 13 with (fail)
          refine wp_region_noPanic ?_
          refine wp_region_held_drew (S := K6 gk gw j (atI R j)) (by kernel_rfl) ?_ (fun hHeld => ?_)
          · exact K6.old ((Old.refl wr).drew) HK6.out
          (try simp only [Act.put]); (try simp only [List.setIfInBounds_toArray]); (try simp only [List.set_cons_succ]); (try simp only [List.set_cons_zero])
          clear hHeld
          refine wpAnyH_take (i := 0) (oi := { dst := some 49, op := Op.move (Operand.tmp 8), type := 61, pos := "law.go:51", after := #[], guard := none }) (v := ?vk21) rfl (by kernel_rfl) (by kernel_rfl) (by kernel_rfl) (fun _ _ _ h => h) (Or.inl ⟨by rfl, ?hk21⟩) (K6.old ((Old.refl wr).drew) HK6.out) ?rk21
          case hk21 => (intro wz hSw; (try dsimp only at hSw); go_simp; try with_reducible rfl)
          (try simp only [Act.put]); (try simp only [List.setIfInBounds_toArray]); (try simp only [List.set_cons_succ]); (try simp only [List.set_cons_zero])
          refine wpAnyH_take (i := 1) (oi := { dst := some 50, op := Op.move (Operand.tmp 10), type := 3, pos := "law.go:51", after := #[], guard := none }) (v := ?vk22) rfl (by kernel_rfl) (by kernel_rfl) (by kernel_rfl) (fun _ _ _ h => h) (Or.inl ⟨by rfl, ?hk22⟩) (K6.old ((Old.refl wr).drew) HK6.out) ?rk22
          case hk22 => (intro wz hSw; (try dsimp only at hSw); go_simp; try with_reducible rfl)
          (try simp only [Act.put]); (try simp only [List.setIfInBounds_toArray]); (try simp only [List.set_cons_succ]); (try simp only [List.set_cons_zero])
          refine wpAnyH_take (i := 2) (oi := { dst := some 51, op := Op.indexAddr 61 (Operand.tmp 49) (Operand.tmp 50), type := 0, pos := "law.go:51", after := #[{ on := 0, ground := Ground.data }, { on := 1, ground := Ground.data }], guard := none }) (v := ?vk23) rfl (by kernel_rfl) (by kernel_rfl) (by kernel_rfl) (fun _ _ _ h => h) (Or.inl ⟨by rfl, ?hk23⟩) (K6.old ((Old.refl wr).drew) HK6.out) ?rk23
          case hk23 => (intro wz hSw; (try dsimp only at hSw); go_simp; try with_reducible rfl)
          (try simp only [Act.put]); (try simp only [List.setIfInBounds_toArray]); (try simp only [List.set_cons_succ]); (try simp only [List.set_cons_zero])
          refine wpAnyH_take (i := 3) (oi := { dst := some 52, op := Op.fieldAddr 71 (Operand.tmp 51) 0, type := 0, pos := "law.go:51", after := #[{ on := 2, ground := Ground.data }], guard := none }) (v := ?vk24) rfl (by kernel_rfl) (by kernel_rfl) (by kernel_rfl) (fun _ _ _ h => h) (Or.inl ⟨by rfl, ?hk24⟩) (K6.old ((Old.refl wr).drew) HK6.out) ?rk24
          case hk24 => (intro wz hSw; (try dsimp only at hSw); go_simp; try with_reducible rfl)
          (try simp only [Act.put]); (try simp only [List.setIfInBounds_toArray]); (try simp only [List.set_cons_succ]); (try simp only [List.set_cons_zero])
          refine wpAnyH_take (i := 4) (oi := { dst := some 53, op := Op.load 2 (Operand.tmp 52), type := 2, pos := "law.go:51", after := #[{ on := 3, ground := Ground.data }], guard := none }) (v := ?vk25) rfl (by kernel_rfl) (by kernel_rfl) (by kernel_rfl) (fun _ _ _ h => h) (Or.inl ⟨by rfl, ?hk25⟩) (K6.old ((Old.refl wr).drew) HK6.out) ?rk25
          case hk25 => (intro wz hSw; (try dsimp only at hSw); go_simp; try with_reducible rfl)
          (try simp only [Act.put]); (try simp only [List.setIfInBounds_toArray]); (try simp only [List.set_cons_succ]); (try simp only [List.set_cons_zero])
          refine wpAnyH_take (i := 5) (oi := { dst := some 54, op := Op.move (Operand.tmp 9), type := 40, pos := "law.go:51", after := #[], guard := none }) (v := ?vk26) rfl (by kernel_rfl) (by kernel_rfl) (by kernel_rfl) (fun _ _ _ h => h) (Or.inl ⟨by rfl, ?hk26⟩) (K6.old ((Old.refl wr).drew) HK6.out) ?rk26
          case hk26 => (intro wz hSw; (try dsimp only at hSw); go_simp; try with_reducible rfl)
          (try simp only [Act.put]); (try simp only [List.setIfInBounds_toArray]); (try simp only [List.set_cons_succ]); (try simp only [List.set_cons_zero])
          refine wpAnyH_take (i := 6) (oi := { dst := some 55, op := Op.move (Operand.tmp 10), type := 3, pos := "law.go:51", after := #[], guard := none }) (v := ?vk27) rfl (by kernel_rfl) (by kernel_rfl) (by kernel_rfl) (fun _ _ _ h => h) (Or.inl ⟨by rfl, ?hk27⟩) (K6.old ((Old.refl wr).drew) HK6.out) ?rk27
          case hk27 => (intro wz hSw; (try dsimp only at hSw); go_simp; try with_reducible rfl)
          (try simp only [Act.put]); (try simp only [List.setIfInBounds_toArray]); (try simp only [List.set_cons_succ]); (try simp only [List.set_cons_zero])
          refine wpAnyH_take (i := 7) (oi := { dst := some 56, op := Op.indexAddr 40 (Operand.tmp 54) (Operand.tmp 55), type := 0, pos := "law.go:51", after := #[{ on := 5, ground := Ground.data }, { on := 6, ground := Ground.data }], guard := none }) (v := ?vk28) rfl (by kernel_rfl) (by kernel_rfl) (by kernel_rfl) (fun _ _ _ h => h) (Or.inl ⟨by rfl, ?hk28⟩) (K6.old ((Old.refl wr).drew) HK6.out) ?rk28
          case hk28 => (intro wz hSw; (try dsimp only at hSw); go_simp; try with_reducible rfl)
          (try simp only [Act.put]); (try simp only [List.setIfInBounds_toArray]); (try simp only [List.set_cons_succ]); (try simp only [List.set_cons_zero])
          refine wpAnyH_take (i := 8) (oi := { dst := some 57, op := Op.fieldAddr 44 (Operand.tmp 56) 1, type := 0, pos := "law.go:51", after := #[{ on := 7, ground := Ground.data }], guard := none }) (v := ?vk29) rfl (by kernel_rfl) (by kernel_rfl) (by kernel_rfl) (fun _ _ _ h => h) (Or.inl ⟨by rfl, ?hk29⟩) (K6.old ((Old.refl wr).drew) HK6.out) ?rk29
          case hk29 => (intro wz hSw; (try dsimp only at hSw); go_simp; try with_reducible rfl)
          (try simp only [Act.put]); (try simp only [List.setIfInBounds_toArray]); (try simp only [List.set_cons_succ]); (try simp only [List.set_cons_zero])
          refine wpAnyH_take (i := 9) (oi := { dst := some 58, op := Op.load 2 (Operand.tmp 57), type := 2, pos := "law.go:51", after := #[{ on := 8, ground := Ground.data }], guard := none }) (v := ?vk30) rfl (by kernel_rfl) (by kernel_rfl) (by kernel_rfl) (fun _ _ _ h => h) (Or.inl ⟨by rfl, ?hk30⟩) (K6.old ((Old.refl wr).drew) HK6.out) ?rk30
          case hk30 => (intro wz hSw; (try dsimp only at hSw); go_simp; try with_reducible rfl)
          (try simp only [Act.put]); (try simp only [List.setIfInBounds_toArray]); (try simp only [List.set_cons_succ]); (try simp only [List.set_cons_zero])
          refine wpAnyH_take (i := 10) (oi := { dst := some 59, op := Op.binOp BinOp.neq 2 (Operand.tmp 53) (Operand.tmp 58) 2, type := 4, pos := "law.go:51", after := #[{ on := 4, ground := Ground.data }, { on := 9, ground := Ground.data }], guard := none }) (v := ?vk31) rfl (by kernel_rfl) (by kernel_rfl) (by kernel_rfl) (fun _ _ _ h => h) (Or.inl ⟨by rfl, ?hk31⟩) (K6.old ((Old.refl wr).drew) HK6.out) ?rk31
          case hk31 => (intro wz hSw; (try dsimp only at hSw); go_simp; try with_reducible rfl)
          (try simp only [Act.put]); (try simp only [List.setIfInBounds_toArray]); (try simp only [List.set_cons_succ]); (try simp only [List.set_cons_zero])
          refine wpAnyH_take (i := 11) (oi := { dst := some 60, op := Op.move (Operand.tmp 59), type := 4, pos := "law.go:51", after := #[{ on := 10, ground := Ground.data }], guard := none }) (v := ?vk32) rfl (by kernel_rfl) (by kernel_rfl) (by kernel_rfl) (fun _ _ _ h => h) (Or.inl ⟨by rfl, ?hk32⟩) (K6.old ((Old.refl wr).drew) HK6.out) ?rk32
          case hk32 => (intro wz hSw; (try dsimp only at hSw); go_simp; try with_reducible rfl)
          (try simp only [Act.put]); (try simp only [List.setIfInBounds_toArray]); (try simp only [List.set_cons_succ]); (try simp only [List.set_cons_zero])
          refine wpAnyH_take (i := 12) (oi := { dst := some 61, op := Op.move (Operand.tmp 8), type := 61, pos := "law.go:51", after := #[{ on := 11, ground := Ground.guard }], guard := some (11, false) }) (v := ?vk33) rfl (by kernel_rfl) (by kernel_rfl) (by kernel_rfl) (fun _ _ _ h => h) (Or.inl ⟨by rfl, ?hk33⟩) (K6.old ((Old.refl wr).drew) HK6.out) ?rk33
          case hk33 => (intro wz hSw; (try dsimp only at hSw); go_simp; try with_reducible rfl)
          (try simp only [Act.put]); (try simp only [List.setIfInBounds_toArray]); (try simp only [List.set_cons_succ]); (try simp only [List.set_cons_zero])
          refine wpAnyH_take (i := 13) (oi := { dst := some 62, op := Op.move (Operand.tmp 10), type := 3, pos := "law.go:51", after := #[{ on := 11, ground := Ground.guard }], guard := some (11, false) }) (v := ?vk34) rfl (by kernel_rfl) (by kernel_rfl) (by kernel_rfl) (fun _ _ _ h => h) (Or.inl ⟨by rfl, ?hk34⟩) (K6.old ((Old.refl wr).drew) HK6.out) ?rk34
          case hk34 => (intro wz hSw; (try dsimp only at hSw); go_simp; try with_reducible rfl)
          (try simp only [Act.put]); (try simp only [List.setIfInBounds_toArray]); (try simp only [List.set_cons_succ]); (try simp only [List.set_cons_zero])
          refine wpAnyH_take (i := 14) (oi := { dst := some 63, op := Op.indexAddr 61 (Operand.tmp 61) (Operand.tmp 62), type := 0, pos := "law.go:51", after := #[{ on := 12, ground := Ground.data }, { on := 13, ground := Ground.data }, { on := 11, ground := Ground.guard }], guard := some (11, false) }) (v := ?vk35) rfl (by kernel_rfl) (by kernel_rfl) (by kernel_rfl) (fun _ _ _ h => h) (Or.inl ⟨by rfl, ?hk35⟩) (K6.old ((Old.refl wr).drew) HK6.out) ?rk35
          case hk35 => (intro wz hSw; (try dsimp only at hSw); go_simp; try with_reducible rfl)
          (try simp only [Act.put]); (try simp only [List.setIfInBounds_toArray]); (try simp only [List.set_cons_succ]); (try simp only [List.set_cons_zero])
          refine wpAnyH_take (i := 15) (oi := { dst := some 64, op := Op.fieldAddr 71 (Operand.tmp 63) 1, type := 0, pos := "law.go:51", after := #[{ on := 14, ground := Ground.data }, { on := 11, ground := Ground.guard }], guard := some (11, false) }) (v := ?vk36) rfl (by kernel_rfl) (by kernel_rfl) (by kernel_rfl) (fun _ _ _ h => h) (Or.inl ⟨by rfl, ?hk36⟩) (K6.old ((Old.refl wr).drew) HK6.out) ?rk36
          case hk36 => (intro wz hSw; (try dsimp only at hSw); go_simp; try with_reducible rfl)
          (try simp only [Act.put]); (try simp only [List.setIfInBounds_toArray]); (try simp only [List.set_cons_succ]); (try simp only [List.set_cons_zero])
          refine wpAnyH_take (i := 16) (oi := { dst := some 65, op := Op.fieldAddr 28 (Operand.tmp 64) 0, type := 0, pos := "law.go:51", after := #[{ on := 15, ground := Ground.data }, { on := 11, ground := Ground.guard }], guard := some (11, false) }) (v := ?vk37) rfl (by kernel_rfl) (by kernel_rfl) (by kernel_rfl) (fun _ _ _ h => h) (Or.inl ⟨by rfl, ?hk37⟩) (K6.old ((Old.refl wr).drew) HK6.out) ?rk37
          case hk37 => (intro wz hSw; (try dsimp only at hSw); go_simp; try with_reducible rfl)
          (try simp only [Act.put]); (try simp only [List.setIfInBounds_toArray]); (try simp only [List.set_cons_succ]); (try simp only [List.set_cons_zero])
          refine wpAnyH_take (i := 17) (oi := { dst := some 66, op := Op.load 26 (Operand.tmp 65), type := 26, pos := "law.go:51", after := #[{ on := 16, ground := Ground.data }, { on := 11, ground := Ground.guard }], guard := some (11, false) }) (v := ?vk38) rfl (by kernel_rfl) (by kernel_rfl) (by kernel_rfl) (fun _ _ _ h => h) (Or.inl ⟨by rfl, ?hk38⟩) (K6.old ((Old.refl wr).drew) HK6.out) ?rk38
          case hk38 => (intro wz hSw; (try dsimp only at hSw); go_simp; try with_reducible rfl)
          (try simp only [Act.put]); (try simp only [List.setIfInBounds_toArray]); (try simp only [List.set_cons_succ]); (try simp only [List.set_cons_zero])
          refine wpAnyH_take (i := 18) (oi := { dst := some 67, op := Op.move (Operand.tmp 9), type := 40, pos := "law.go:51", after := #[{ on := 11, ground := Ground.guard }], guard := some (11, false) }) (v := ?vk39) rfl (by kernel_rfl) (by kernel_rfl) (by kernel_rfl) (fun _ _ _ h => h) (Or.inl ⟨by rfl, ?hk39⟩) (K6.old ((Old.refl wr).drew) HK6.out) ?rk39
          case hk39 => (intro wz hSw; (try dsimp only at hSw); go_simp; try with_reducible rfl)
          (try simp only [Act.put]); (try simp only [List.setIfInBounds_toArray]); (try simp only [List.set_cons_succ]); (try simp only [List.set_cons_zero])
          refine wpAnyH_take (i := 19) (oi := { dst := some 68, op := Op.move (Operand.tmp 10), type := 3, pos := "law.go:51", after := #[{ on := 11, ground := Ground.guard }], guard := some (11, false) }) (v := ?vk40) rfl (by kernel_rfl) (by kernel_rfl) (by kernel_rfl) (fun _ _ _ h => h) (Or.inl ⟨by rfl, ?hk40⟩) (K6.old ((Old.refl wr).drew) HK6.out) ?rk40
          case hk40 => (intro wz hSw; (try dsimp only at hSw); go_simp; try with_reducible rfl)
          (try simp only [Act.put]); (try simp only [List.setIfInBounds_toArray]); (try simp only [List.set_cons_succ]); (try simp only [List.set_cons_zero])
          refine wpAnyH_take (i := 20) (oi := { dst := some 69, op := Op.indexAddr 40 (Operand.tmp 67) (Operand.tmp 68), type := 0, pos := "law.go:51", after := #[{ on := 18, ground := Ground.data }, { on := 19, ground := Ground.data }, { on := 11, ground := Ground.guard }], guard := some (11, false) }) (v := ?vk41) rfl (by kernel_rfl) (by kernel_rfl) (by kernel_rfl) (fun _ _ _ h => h) (Or.inl ⟨by rfl, ?hk41⟩) (K6.old ((Old.refl wr).drew) HK6.out) ?rk41
          case hk41 => (intro wz hSw; (try dsimp only at hSw); go_simp; try with_reducible rfl)
          (try simp only [Act.put]); (try simp only [List.setIfInBounds_toArray]); (try simp only [List.set_cons_succ]); (try simp only [List.set_cons_zero])
          refine wpAnyH_take (i := 21) (oi := { dst := some 70, op := Op.fieldAddr 44 (Operand.tmp 69) 2, type := 0, pos := "law.go:51", after := #[{ on := 20, ground := Ground.data }, { on := 11, ground := Ground.guard }], guard := some (11, false) }) (v := ?vk42) rfl (by kernel_rfl) (by kernel_rfl) (by kernel_rfl) (fun _ _ _ h => h) (Or.inl ⟨by rfl, ?hk42⟩) (K6.old ((Old.refl wr).drew) HK6.out) ?rk42
          case hk42 => (intro wz hSw; (try dsimp only at hSw); go_simp; try with_reducible rfl)
          (try simp only [Act.put]); (try simp only [List.setIfInBounds_toArray]); (try simp only [List.set_cons_succ]); (try simp only [List.set_cons_zero])
          refine wpAnyH_take (i := 22) (oi := { dst := some 71, op := Op.load 3 (Operand.tmp 70), type := 3, pos := "law.go:51", after := #[{ on := 21, ground := Ground.data }, { on := 11, ground := Ground.guard }], guard := some (11, false) }) (v := ?vk43) rfl (by kernel_rfl) (by kernel_rfl) (by kernel_rfl) (fun _ _ _ h => h) (Or.inl ⟨by rfl, ?hk43⟩) (K6.old ((Old.refl wr).drew) HK6.out) ?rk43
          case hk43 => (intro wz hSw; (try dsimp only at hSw); go_simp; try with_reducible rfl)
          (try simp only [Act.put]); (try simp only [List.setIfInBounds_toArray]); (try simp only [List.set_cons_succ]); (try simp only [List.set_cons_zero])
          refine wpAnyH_take (i := 23) (oi := { dst := some 72, op := Op.binOp BinOp.neq 3 (Operand.tmp 66) (Operand.tmp 71) 3, type := 4, pos := "law.go:51", after := #[{ on := 17, ground := Ground.data }, { on := 22, ground := Ground.data }, { on := 11, ground := Ground.guard }], guard := some (11, false) }) (v := ?vk44) rfl (by kernel_rfl) (by kernel_rfl) (by kernel_rfl) (fun _ _ _ h => h) (Or.inl ⟨by rfl, ?hk44⟩) (K6.old ((Old.refl wr).drew) HK6.out) ?rk44
          case hk44 => (intro wz hSw; (try dsimp only at hSw); go_simp; try with_reducible rfl)
          (try simp only [Act.put]); (try simp only [List.setIfInBounds_toArray]); (try simp only [List.set_cons_succ]); (try simp only [List.set_cons_zero])
          refine wpAnyH_take (i := 24) (oi := { dst := some 73, op := Op.pick (Operand.tmp 60) (Operand.const (Value.bool true)) (Operand.tmp 72), type := 4, pos := "law.go:51", after := #[{ on := 11, ground := Ground.data }, { on := 23, ground := Ground.data }], guard := none }) (v := ?vk45) rfl (by kernel_rfl) (by kernel_rfl) (by kernel_rfl) (fun _ _ _ h => h) (Or.inl ⟨by rfl, ?hk45⟩) (K6.old ((Old.refl wr).drew) HK6.out) ?rk45
          case hk45 => (intro wz hSw; (try dsimp only at hSw); go_simp; try with_reducible rfl)
          (try simp only [Act.put]); (try simp only [List.setIfInBounds_toArray]); (try simp only [List.set_cons_succ]); (try simp only [List.set_cons_zero])
          refine wpAnyH_take (i := 25) (oi := { dst := some 74, op := Op.move (Operand.tmp 73), type := 4, pos := "law.go:51", after := #[{ on := 24, ground := Ground.data }, { on := 11, ground := Ground.chain }], guard := none }) (v := ?vk46) rfl (by kernel_rfl) (by kernel_rfl) (by kernel_rfl) (fun _ _ _ h => h) (Or.inl ⟨by rfl, ?hk46⟩) (K6.old ((Old.refl wr).drew) HK6.out) ?rk46
          case hk46 => (intro wz hSw; (try dsimp only at hSw); go_simp; try with_reducible rfl)
          (try simp only [Act.put]); (try simp only [List.setIfInBounds_toArray]); (try simp only [List.set_cons_succ]); (try simp only [List.set_cons_zero])
          refine wpAnyH_take (i := 26) (oi := { dst := some 75, op := Op.move (Operand.tmp 8), type := 61, pos := "law.go:51", after := #[{ on := 25, ground := Ground.guard }], guard := some (25, false) }) (v := ?vk47) rfl (by kernel_rfl) (by kernel_rfl) (by kernel_rfl) (fun _ _ _ h => h) (Or.inl ⟨by rfl, ?hk47⟩) (K6.old ((Old.refl wr).drew) HK6.out) ?rk47
          case hk47 => (intro wz hSw; (try dsimp only at hSw); go_simp; try with_reducible rfl)
          (try simp only [Act.put]); (try simp only [List.setIfInBounds_toArray]); (try simp only [List.set_cons_succ]); (try simp only [List.set_cons_zero])
          refine wpAnyH_take (i := 27) (oi := { dst := some 76, op := Op.move (Operand.tmp 10), type := 3, pos := "law.go:51", after := #[{ on := 25, ground := Ground.guard }], guard := some (25, false) }) (v := ?vk48) rfl (by kernel_rfl) (by kernel_rfl) (by kernel_rfl) (fun _ _ _ h => h) (Or.inl ⟨by rfl, ?hk48⟩) (K6.old ((Old.refl wr).drew) HK6.out) ?rk48
          case hk48 => (intro wz hSw; (try dsimp only at hSw); go_simp; try with_reducible rfl)
          (try simp only [Act.put]); (try simp only [List.setIfInBounds_toArray]); (try simp only [List.set_cons_succ]); (try simp only [List.set_cons_zero])
          refine wpAnyH_take (i := 28) (oi := { dst := some 77, op := Op.indexAddr 61 (Operand.tmp 75) (Operand.tmp 76), type := 0, pos := "law.go:51", after := #[{ on := 26, ground := Ground.data }, { on := 27, ground := Ground.data }, { on := 25, ground := Ground.guard }], guard := some (25, false) }) (v := ?vk49) rfl (by kernel_rfl) (by kernel_rfl) (by kernel_rfl) (fun _ _ _ h => h) (Or.inl ⟨by rfl, ?hk49⟩) (K6.old ((Old.refl wr).drew) HK6.out) ?rk49
          case hk49 => (intro wz hSw; (try dsimp only at hSw); go_simp; try with_reducible rfl)
          (try simp only [Act.put]); (try simp only [List.setIfInBounds_toArray]); (try simp only [List.set_cons_succ]); (try simp only [List.set_cons_zero])
          refine wpAnyH_take (i := 29) (oi := { dst := some 78, op := Op.fieldAddr 71 (Operand.tmp 77) 1, type := 0, pos := "law.go:51", after := #[{ on := 28, ground := Ground.data }, { on := 25, ground := Ground.guard }], guard := some (25, false) }) (v := ?vk50) rfl (by kernel_rfl) (by kernel_rfl) (by kernel_rfl) (fun _ _ _ h => h) (Or.inl ⟨by rfl, ?hk50⟩) (K6.old ((Old.refl wr).drew) HK6.out) ?rk50
          case hk50 => (intro wz hSw; (try dsimp only at hSw); go_simp; try with_reducible rfl)
          (try simp only [Act.put]); (try simp only [List.setIfInBounds_toArray]); (try simp only [List.set_cons_succ]); (try simp only [List.set_cons_zero])
          refine wpAnyH_take (i := 30) (oi := { dst := some 79, op := Op.fieldAddr 28 (Operand.tmp 78) 1, type := 0, pos := "law.go:51", after := #[{ on := 29, ground := Ground.data }, { on := 25, ground := Ground.guard }], guard := some (25, false) }) (v := ?vk51) rfl (by kernel_rfl) (by kernel_rfl) (by kernel_rfl) (fun _ _ _ h => h) (Or.inl ⟨by rfl, ?hk51⟩) (K6.old ((Old.refl wr).drew) HK6.out) ?rk51
          case hk51 => (intro wz hSw; (try dsimp only at hSw); go_simp; try with_reducible rfl)
          (try simp only [Act.put]); (try simp only [List.setIfInBounds_toArray]); (try simp only [List.set_cons_succ]); (try simp only [List.set_cons_zero])
          refine wpAnyH_take (i := 31) (oi := { dst := some 80, op := Op.load 2 (Operand.tmp 79), type := 2, pos := "law.go:51", after := #[{ on := 30, ground := Ground.data }, { on := 25, ground := Ground.guard }], guard := some (25, false) }) (v := ?vk52) rfl (by kernel_rfl) (by kernel_rfl) (by kernel_rfl) (fun _ _ _ h => h) (Or.inl ⟨by rfl, ?hk52⟩) (K6.old ((Old.refl wr).drew) HK6.out) ?rk52
          case hk52 => (intro wz hSw; (try dsimp only at hSw); go_simp; try with_reducible rfl)
          (try simp only [Act.put]); (try simp only [List.setIfInBounds_toArray]); (try simp only [List.set_cons_succ]); (try simp only [List.set_cons_zero])
          refine wpAnyH_take (i := 32) (oi := { dst := some 81, op := Op.move (Operand.tmp 9), type := 40, pos := "law.go:51", after := #[{ on := 25, ground := Ground.guard }], guard := some (25, false) }) (v := ?vk53) rfl (by kernel_rfl) (by kernel_rfl) (by kernel_rfl) (fun _ _ _ h => h) (Or.inl ⟨by rfl, ?hk53⟩) (K6.old ((Old.refl wr).drew) HK6.out) ?rk53
          case hk53 => (intro wz hSw; (try dsimp only at hSw); go_simp; try with_reducible rfl)
          (try simp only [Act.put]); (try simp only [List.setIfInBounds_toArray]); (try simp only [List.set_cons_succ]); (try simp only [List.set_cons_zero])
          refine wpAnyH_take (i := 33) (oi := { dst := some 82, op := Op.move (Operand.tmp 10), type := 3, pos := "law.go:51", after := #[{ on := 25, ground := Ground.guard }], guard := some (25, false) }) (v := ?vk54) rfl (by kernel_rfl) (by kernel_rfl) (by kernel_rfl) (fun _ _ _ h => h) (Or.inl ⟨by rfl, ?hk54⟩) (K6.old ((Old.refl wr).drew) HK6.out) ?rk54
          case hk54 => (intro wz hSw; (try dsimp only at hSw); go_simp; try with_reducible rfl)
          (try simp only [Act.put]); (try simp only [List.setIfInBounds_toArray]); (try simp only [List.set_cons_succ]); (try simp only [List.set_cons_zero])
          refine wpAnyH_take (i := 34) (oi := { dst := some 83, op := Op.indexAddr 40 (Operand.tmp 81) (Operand.tmp 82), type := 0, pos := "law.go:51", after := #[{ on := 32, ground := Ground.data }, { on := 33, ground := Ground.data }, { on := 25, ground := Ground.guard }], guard := some (25, false) }) (v := ?vk55) rfl (by kernel_rfl) (by kernel_rfl) (by kernel_rfl) (fun _ _ _ h => h) (Or.inl ⟨by rfl, ?hk55⟩) (K6.old ((Old.refl wr).drew) HK6.out) ?rk55
          case hk55 => (intro wz hSw; (try dsimp only at hSw); go_simp; try with_reducible rfl)
          (try simp only [Act.put]); (try simp only [List.setIfInBounds_toArray]); (try simp only [List.set_cons_succ]); (try simp only [List.set_cons_zero])
          refine wpAnyH_take (i := 35) (oi := { dst := some 84, op := Op.fieldAddr 44 (Operand.tmp 83) 3, type := 0, pos := "law.go:51", after := #[{ on := 34, ground := Ground.data }, { on := 25, ground := Ground.guard }], guard := some (25, false) }) (v := ?vk56) rfl (by kernel_rfl) (by kernel_rfl) (by kernel_rfl) (fun _ _ _ h => h) (Or.inl ⟨by rfl, ?hk56⟩) (K6.old ((Old.refl wr).drew) HK6.out) ?rk56
          case hk56 => (intro wz hSw; (try dsimp only at hSw); go_simp; try with_reducible rfl)
          (try simp only [Act.put]); (try simp only [List.setIfInBounds_toArray]); (try simp only [List.set_cons_succ]); (try simp only [List.set_cons_zero])
          refine wpAnyH_take (i := 36) (oi := { dst := some 85, op := Op.load 2 (Operand.tmp 84), type := 2, pos := "law.go:51", after := #[{ on := 35, ground := Ground.data }, { on := 25, ground := Ground.guard }], guard := some (25, false) }) (v := ?vk57) rfl (by kernel_rfl) (by kernel_rfl) (by kernel_rfl) (fun _ _ _ h => h) (Or.inl ⟨by rfl, ?hk57⟩) (K6.old ((Old.refl wr).drew) HK6.out) ?rk57
          case hk57 => (intro wz hSw; (try dsimp only at hSw); go_simp; try with_reducible rfl)
          (try simp only [Act.put]); (try simp only [List.setIfInBounds_toArray]); (try simp only [List.set_cons_succ]); (try simp only [List.set_cons_zero])
          refine wpAnyH_take (i := 37) (oi := { dst := some 86, op := Op.binOp BinOp.neq 2 (Operand.tmp 80) (Operand.tmp 85) 2, type := 4, pos := "law.go:51", after := #[{ on := 31, ground := Ground.data }, { on := 36, ground := Ground.data }, { on := 25, ground := Ground.guard }], guard := some (25, false) }) (v := ?vk58) rfl (by kernel_rfl) (by kernel_rfl) (by kernel_rfl) (fun _ _ _ h => h) (Or.inl ⟨by rfl, ?hk58⟩) (K6.old ((Old.refl wr).drew) HK6.out) ?rk58
          case hk58 => (intro wz hSw; (try dsimp only at hSw); go_simp; try with_reducible rfl)
          (try simp only [Act.put]); (try simp only [List.setIfInBounds_toArray]); (try simp only [List.set_cons_succ]); (try simp only [List.set_cons_zero])
          refine wpAnyH_take (i := 38) (oi := { dst := some 87, op := Op.pick (Operand.tmp 74) (Operand.const (Value.bool true)) (Operand.tmp 86), type := 4, pos := "law.go:51", after := #[{ on := 25, ground := Ground.data }, { on := 37, ground := Ground.data }], guard := none }) (v := ?vk59) rfl (by kernel_rfl) (by kernel_rfl) (by kernel_rfl) (fun _ _ _ h => h) (Or.inl ⟨by rfl, ?hk59⟩) (K6.old ((Old.refl wr).drew) HK6.out) ?rk59
          case hk59 => (intro wz hSw; (try dsimp only at hSw); go_simp; try with_reducible rfl)
          (try simp only [Act.put]); (try simp only [List.setIfInBounds_toArray]); (try simp only [List.set_cons_succ]); (try simp only [List.set_cons_zero])
          refine wpAnyH_done (by kernel_rfl) ?_ _
          refine NoPanic.normal ?_
          generalize hwd : World.drew wr = wd at *
          have UD := hid (show Old w2 wd from by rw [← hwd]; exact (HU3.out.drew))
          have KD := hid (show KRow gk R j wd from by rw [← hwd]; exact HKr.out.drew)
          have CD := hid (show ∀ i, i < R.length → KC gw (i * 4) (atI R i) wd from by rw [← hwd]; exact HKw.out)
          clear hwd
          have y0 := (KD.out.cells j (Nat.le_refl _) hjt).1
          have y1 := KD.out.free j hjt
          go_wp2
          go_roundw
          case rel => exact ⟨j + 1, hjt, by go_num, KD.out.set _, fun i hi => KC.set (CD.out i hi) HGn.out _ _, UD.out.setCell (p := ⟨gk, j * 3, none⟩) HGk.out _⟩
          case measure => simp [intOf]; omega
        · obtain rfl : j = R.length := by omega
          go_wp2
          go_roundw
          case rel => exact ⟨k + 1, hlt, by go_num, HU3.out⟩
          case measure => simp [intOf]; omega
    · obtain rfl : k = sn := by omega
      go_wp2
      go_ret
      exact ⟨rfl, HW.out.trans UU.out⟩
end Go.Proofs.Ytefffjlcfghniaa
