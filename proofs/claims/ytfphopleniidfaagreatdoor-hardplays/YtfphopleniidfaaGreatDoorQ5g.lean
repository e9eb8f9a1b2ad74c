/- The document's Crash of layer 5; conditions: the rows lie in memory. -/
import Derived.Test.YtfphopleniidfaaGreatDoorQ5f
namespace Go.Proofs.YtfphopleniidfaaGreatDoor
open Go.RowKit Go.Lib
set_option linter.unusedVariables false
set_option linter.unusedSimpArgs false
set_option maxRecDepth 20000
/-- One file behind a loss of power. -/
def crM (x : PF) (kp : List Bool) : List Nat := craK x.now (looL x.now x.safe) kp (looL x.now x.safe).length x.safe
def crD : PFs → List Bool → PFs
  | [], _ => []
  | q :: t, kp => (q.1, ⟨crM q.2 kp, crM q.2 kp⟩) :: crD t (kp.drop (looL q.2.now q.2.safe).length)
theorem looN_app : ∀ A B : PFs, looN (A ++ B) = looN A + looN B
  | [], B => by simp [looN]
  | q :: t, B => by
    show (looL q.2.now q.2.safe).length + looN (t ++ B) = (looL q.2.now q.2.safe).length + looN t + looN B
    rw [looN_app t B]; omega
theorem crD_app : ∀ (A B : PFs) (kp : List Bool), crD (A ++ B) kp = crD A kp ++ crD B (kp.drop (looN A))
  | [], B, kp => by simp [crD, looN]
  | q :: t, B, kp => by
    show _ :: crD (t ++ B) _ = _ :: (crD t _ ++ _)
    rw [crD_app t B, List.drop_drop]
    rfl
theorem craK_cap (now st : List Nat) (kp : List Bool) (s : List Nat) : ∀ i, kp.length ≤ i → craK now st kp i s = craK now st kp kp.length s
  | 0, h => by rw [Nat.le_zero.1 h]
  | i + 1, h => by
    by_cases c : kp.length = i + 1
    · rw [c]
    · show (if kp.getD i false = true then _ else craK now st kp i s) = _
      rw [List.getD_eq_getElem?_getD, List.getElem?_eq_none (by omega), if_neg (by simp)]
      exact craK_cap now st kp s i (by omega)
theorem craK_take (now st : List Nat) (kp : List Bool) (s : List Nat) (m : Nat) : ∀ i, i ≤ m → craK now st (kp.take m) i s = craK now st kp i s
  | 0, _ => rfl
  | i + 1, h => by
    unfold craK
    rw [craK_take now st kp s m i (by omega)]
    have : (kp.take m).getD i false = kp.getD i false := by rw [List.getD_eq_getElem?_getD, List.getD_eq_getElem?_getD, List.getElem?_take, if_pos (by omega)]
    rw [this]
theorem crash1_eqR (x : PF) (kp : List Bool) : crash1 x kp = (⟨crM x kp, crM x kp⟩, kp.drop (looL x.now x.safe).length) := by
  have e : craK x.now (looL x.now x.safe) (kp.take (min (looL x.now x.safe).length kp.length)) (min (looL x.now x.safe).length kp.length) x.safe = crM x kp := by
    rw [craK_take _ _ _ _ _ _ (Nat.le_refl _)]
    unfold crM
    by_cases c : (looL x.now x.safe).length ≤ kp.length
    · rw [Nat.min_eq_left c]
    · rw [Nat.min_eq_right (by omega), craK_cap _ _ _ _ (looL x.now x.safe).length (by omega)]
  have e2 : kp.drop (min (looL x.now x.safe).length kp.length) = kp.drop (looL x.now x.safe).length := by
    by_cases c : (looL x.now x.safe).length ≤ kp.length
    · rw [Nat.min_eq_left c]
    · rw [Nat.min_eq_right (by omega), List.drop_length, List.drop_eq_nil_of_le (by omega)]
  unfold crash1
  rw [e, e2]
theorem crM_len (x : PF) (kp : List Bool) (h1 : x.now.length ≤ 65536) (h2 : x.safe.length ≤ 65536) : ∀ i, (craK x.now (looL x.now x.safe) kp i x.safe).length ≤ 65536 := craK_len (loo_le _ _) h1 h2
theorem OwnI.at {base : Nat} {w : World} {v : Value} {L : List Int} (h : OwnI base w v L) (i : Nat) (hi : i < L.length) : ∃ g c, v = .slice (some ⟨g, 0, none⟩) L.length c ∧ L.length ≤ c ∧ c ≤ 9223372036854775807 ∧ w.cell? ⟨g, i, none⟩ = some (.int .i64 L[i]) := by
  rcases h.2 with ⟨_, e⟩ | ⟨g, cap, cur, e, hb, hg, h1, h2, h3, h4⟩
  · omega
  · unfold maxLen at h2
    refine ⟨g, cap, e, h1, by omega, ?_⟩
    rw [Go.Joins.cell_of_block hg, ← Array.getElem?_toList]
    have q2 : (cur.toList.take (L.length * 1))[i]? = cur.toList[i]? := by rw [List.getElem?_take, if_pos (by omega)]
    rw [← q2, h4]
    simp [ils, hi]
theorem looN_take_le (F : PFs) (h : ∀ q ∈ F, (looL q.2.now q.2.safe).length ≤ 2048) : looN F ≤ 2048 * F.length := by
  induction F with
  | nil => simp [looN]
  | cons q t ih =>
    have h1 := h q (by simp)
    have h2 := ih (fun q hq => h q (List.mem_cons_of_mem _ hq))
    show (looL q.2.now q.2.safe).length + looN t ≤ _
    rw [List.length_cons]
    omega
def CPost (W : World) (B : List Nat) (P' : PFs) (e : Ending) (w' : World) : Prop := ∃ a cc Z, e = .returned (.agg #[.slice a (List.length Z) cc, .bool false, .int .i64 0]) ∧ DocAt w' (.slice a Z.length cc) Z ∧ Z.map Fi.p = P' ∧ Old W w' ∧ ∀ g ∈ docB (.slice a Z.length cc) Z, g ∈ B ∨ W.heap.size ≤ g
set_option maxHeartbeats 8000000 in
set_option maxRecDepth 20000 in
theorem rcrash_any (ya : Option Addr) (yc : Nat) (Y : List Fi) (dn : Bool) (fu : Int) (vk : Value) (kp : List Bool) (w : World) (h : DocAt w (.slice ya Y.length yc) Y) (hl : Y.length ≤ 256) (hk : BRow w vk kp) : Calls Tryz.prog 12 #[.agg #[.slice ya Y.length yc, .bool dn, .int .i64 fu], vk] w (CPost w (docB (.slice ya Y.length yc) Y) (crD (Y.map Fi.p) kp)) := by
  obtain ⟨hk0, ka, kc, rfl, hk1, hk2, hkc⟩ := hk
  have HKc := hid hkc
  have HD := hid h
  obtain ⟨BB, hBB⟩ : ∃ BB, docB (.slice ya Y.length yc) Y = BB := ⟨_, rfl⟩
  have HBB := hid (show ∀ g ∈ docB (.slice ya Y.length yc) Y, g ∈ BB from fun g hg => by rw [← hBB]; exact hg)
  rw [hBB]
  obtain ⟨kl, hkl⟩ : ∃ kl, kl = kp.length := ⟨_, rfl⟩
  have HKL := hid hkl
  rw [← hkl] at HKc hk0 hk1 ⊢
  obtain ⟨n, hn⟩ : ∃ n, n = Y.length := ⟨_, rfl⟩
  have HN := hid hn
  rw [← hn] at HD HBB hl ⊢
  have l9 : (n : Int) ≤ 256 := by omega
  have l10 : (kl : Int) ≤ 9223372036854775807 := by omega
  have HLo := hid (show ∀ i, looN ((Y.map Fi.p).take i) ≤ 524288 from fun i => by
    have h1 := looN_take_le ((Y.map Fi.p).take i) (fun q hq => by
      obtain ⟨y, hy, e⟩ := List.mem_map.1 (List.mem_of_mem_take hq)
      rw [← e]
      exact loo_few _ _ (h.byt y hy).2.2.1)
    rw [List.length_take, List.length_map] at h1
    omega)
  clear h hkc hBB hkl hn hl hk0
  go_enter Tryz.func12, Tryz.ntmps12
  go_upto_region 1 with (fail)
  have HU := hid (show Old w ((w.alloc (.cells #[.slice ya n yc, .bool dn, .int .i64 fu] 32)).alloc (.cells #[.slice none 0 0, .bool false, .int .i64 0] 32)) from ((Old.refl w).alloc _).alloc _)
  have HB0 := hid (show ((w.alloc (.cells #[.slice ya n yc, .bool dn, .int .i64 fu] 32)).alloc (.cells #[.slice none 0 0, .bool false, .int .i64 0] 32)).heap[w.heap.size]? = some (.cells #[.slice ya n yc, .bool dn, .int .i64 fu] 32 (0, 0)) from alloc_keep (alloc_at w _))
  have HB1 := hid (show ((w.alloc (.cells #[.slice ya n yc, .bool dn, .int .i64 fu] 32)).alloc (.cells #[.slice none 0 0, .bool false, .int .i64 0] 32)).heap[w.heap.size + 1]? = some (.cells #[.slice none 0 0, .bool false, .int .i64 0] 32 (0, 0)) from by have := alloc_at (w.alloc (.cells #[.slice ya n yc, .bool dn, .int .i64 fu] 32)) (.cells #[.slice none 0 0, .bool false, .int .i64 0] 32); simpa using this)
  have HS := hid (show ((w.alloc (.cells #[.slice ya n yc, .bool dn, .int .i64 fu] 32)).alloc (.cells #[.slice none 0 0, .bool false, .int .i64 0] 32)).heap.size = w.heap.size + 1 + 1 from by simp)
  generalize (w.alloc (.cells #[.slice ya n yc, .bool dn, .int .i64 fu] 32)).alloc (.cells #[.slice none 0 0, .bool false, .int .i64 0] 32) = w0 at *
  obtain ⟨g0, hg0⟩ : ∃ g0, g0 = w.heap.size := ⟨_, rfl⟩
  obtain ⟨g1, hg1⟩ : ∃ g1, g1 = w.heap.size + 1 := ⟨_, rfl⟩
  have HLt := hid (show w.heap.size ≤ g1 ∧ g1 < w0.heap.size ∧ w.heap.size ≤ w0.heap.size from by have := HS.out; omega)
  rw [← hg0] at HB0
  rw [← hg1] at HB1
  rw [← hg1, ← hg0]
  clear hg0 hg1 HS
  go_upto_region 3 with (fail)
  have HO := hid (OwnR.empty w0 w0.heap.size rfl)
  have HU0 := hid (show Old w0 (w0.alloc (.cells #[] 51)) from (Old.refl w0).alloc _)
  generalize w0.alloc (.cells #[] 51) = wa at *
  obtain ⟨g2, hg2⟩ : ∃ g2, g2 = w0.heap.size := ⟨_, rfl⟩
  obtain ⟨bs, hbs⟩ : ∃ bs, bs = w0.heap.size := ⟨_, rfl⟩
  have HO2 := hid (show OwnR bs wa (.slice (some ⟨g2, 0, none⟩) 0 0) [] from by rw [hg2, hbs]; exact HO.out)
  rw [← hg2]
  rw [← hbs] at HLt
  have HBs := hid hbs
  clear hg2 hbs HO
  go_wp2
  go_loopw [5, 6, 7] (fun nv us c wr => ∃ (i m nn : Nat) (a : Option Addr) (cp : Nat) (Zs : List Fi), i ≤ n ∧ c = .int .i64 (i : Nat) ∧ us = .slice a m cp ∧ nv = .int .i64 (nn : Nat) ∧ nn = looN ((Y.map Fi.p).take i) ∧ m = Zs.length ∧ m = i ∧ Zs.map Fi.p = crD ((Y.map Fi.p).take i) kp ∧ OwnR bs wr (.slice a m cp) Zs ∧ (∀ z ∈ Zs, FiAt wr z ∧ ∀ g, z.vn.ownBlock = some g ∨ z.vs.ownBlock = some g → g ∈ BB ∨ w.heap.size ≤ g) ∧ Old w0 wr) (fun _ _ c _ => n - (intOf c).toNat)
  case atStart => exact ⟨0, 0, 0, _, _, [], Nat.zero_le _, rfl, rfl, rfl, rfl, rfl, rfl, rfl, by simpa using HO2.out, (fun z hz => by cases hz), HU0.out⟩
  case round =>
    obtain ⟨i, m, nn, a, cp, Zs, hi, rfl, rfl, rfl, hnn, hm, hmi, hZp, hO, hZ, hU⟩ := hrel
    have HO1 := hid hO
    have HU1 := hid hU
    have HM := hid hm
    have HMi := hid hmi
    have HNN := hid hnn
    have HZp := hid hZp
    have HZ := hid hZ
    have hnl : nn ≤ 524288 := by rw [hnn]; exact HLo.out i
    have l11 : (nn : Int) ≤ 524288 := by omega
    clear hO hU hm hmi hnn hZp hZ HO2
    obtain ⟨x0, x1, x2, -, -, -⟩ := box3 (HU1.out.block HB0.out)
    by_cases hlt : i < n
    · have hil : i < Y.length := by rw [← HN.out]; exact hlt
      obtain ⟨gy, cy, qy, hyc, hym, ⟨y0, y1, y2⟩⟩ := HD.out.row.at i hil
      obtain ⟨ey, -, ec⟩ := Value.slice.inj qy
      subst ey ec
      have k0 := (HU.out.trans HU1.out).keep y0
      have k1 := (HU.out.trans HU1.out).keep y1
      have k2 := (HU.out.trans HU1.out).keep y2
      have l2 : (0 : Int) ≤ (i : Int) := by omega
      have l3 : (i : Int) < (n : Int) := by omega
      rw [← HN.out] at hyc
      have HTk := hid (show (Y.map Fi.p).take (i + 1) = (Y.map Fi.p).take i ++ [Y[i].p] from by rw [List.take_add_one, List.getElem?_map, List.getElem?_eq_getElem hil]; rfl)
      have HBq := hid (HD.out.byt _ (List.getElem_mem hil))
      have HMm := hid (show ∀ g, Y[i].vn.ownBlock = some g ∨ Y[i].vs.ownBlock = some g → g ∈ BB from fun g e => HBB.out g (docB_mem.2 (.inr ⟨_, List.getElem_mem hil, e⟩)))
      clear y0 y1 y2 qy
      generalize Y[i] = y at *
      clear hil
      obtain ⟨yn, na, nc, now, sa, sc, safe⟩ := y
      obtain ⟨hb1, hb2, hb3, hb4⟩ := HBq.out
      dsimp only [Fi.vn, Fi.vs] at hb1 hb2 hb3 hb4 k0 k1 k2 HMm
      have HBn := hid hb1
      have HBf := hid hb2
      have HBl := hid (And.intro hb3 hb4)
      clear hb1 hb2 hb3 hb4
      have HLs := hid (fun (W : World) (u : Old w W) => rloose_any ⟨yn, na, nc, now, sa, sc, safe⟩ W (HBq.out.old u))
      dsimp only at HLs
      have HPt := hid (fun (k : Nat) (hk : k ≤ 100000) (W : World) (u : Old w W) => show Calls Tryz.prog 34 #[.slice na now.length nc, .int .i64 (k : Nat), .int .i64 ((k + 32 : Nat) : Int)] W (NewRow W (sec now k)) from by have := part_any na nc now k (k + 32) W (HBn.out.old u).row HBl.out.1 (by omega) (by omega); rw [prt_sec] at this; exact this)
      have HTk2 := hid (show (Y.map Fi.p).take (i + 1) = (Y.map Fi.p).take i ++ [(yn, ⟨now, safe⟩)] from HTk.out)
      clear HTk HBq
      obtain ⟨nl, hnl2⟩ : ∃ nl, nl = now.length := ⟨_, rfl⟩
      obtain ⟨sl, hsl2⟩ : ∃ sl, sl = safe.length := ⟨_, rfl⟩
      have HNl := hid hnl2
      have HSl := hid hsl2
      rw [← hnl2] at k1 HBn HLs HPt HMm
      rw [← hsl2] at k2 HBf HLs HMm
      clear hnl2 hsl2
      go_upto_region 8 with (fail)
      have HV := hid (show Old wr (wr.alloc (.cells #[.string yn, .slice na nl nc, .slice sa sl sc] 51)) from (Old.refl wr).alloc _)
      have HB8 := hid (alloc_at wr (.cells #[.string yn, .slice na nl nc, .slice sa sl sc] 51))
      clear k0 k1 k2 x0 x1 x2
      generalize wr.alloc (.cells #[.string yn, .slice na nl nc, .slice sa sl sc] 51) = w5 at *
      obtain ⟨b8, hb8⟩ : ∃ b8, b8 = wr.heap.size := ⟨_, rfl⟩
      rw [← hb8] at HB8 ⊢
      clear hb8
      have HU5 := hid (show Old w w5 from (HU.out.trans HU1.out).trans HV.out)
      obtain ⟨t0, t1, t2, -, -, -⟩ := box3 HB8.out
      go_upto_region 9 with (go_at_call 32; refine (HLs.out _ HU5.out).mono ?_; rintro e w6 ⟨v6, rfl, o6, u6⟩; have O6 := hid o6; have U6 := hid u6; clear o6 u6)
      obtain ⟨a6, c6, e6⟩ := O6.out.len
      obtain ⟨ll, hll⟩ : ∃ ll, (nI (lowL now safe)).length = ll := ⟨_, rfl⟩
      rw [hll] at e6
      subst e6
      have HLL := hid hll
      have HLL2 := hid (show (lowL now safe).length = ll from by rw [← hll]; simp [nI])
      have HLl := hid (show ll ≤ 2048 from by rw [← HLL2.out, lowL_len]; exact loo_few _ _ HBl.out.1)
      have l12 : (ll : Int) ≤ 2048 := by have := HLl.out; omega
      clear hll t0 t1 t2
      have HU6 := hid (HU5.out.trans U6.out)
      obtain ⟨kd, hkd⟩ : ∃ kd, kd = kp.drop nn := ⟨_, rfl⟩
      have HKd := hid hkd
      clear hkd
      go_wp2
      generalize wr = wz at *
      go_loopw [5, 9, 11] (fun nv ov kv wr => ∃ (k r : Nat) (ca : Option Addr) (cc : Nat), k ≤ ll ∧ kv = .int .i64 (k : Nat) ∧ nv = .int .i64 ((nn + k : Nat) : Int) ∧ ov = .slice ca r cc ∧ r = (craK now (looL now safe) kd k safe).length ∧ Own wr (.slice ca r cc) (craK now (looL now safe) kd k safe) ∧ (∀ g, (Value.slice ca r cc).ownBlock = some g → g ∈ BB ∨ w.heap.size ≤ g) ∧ Old w6 wr) (fun _ _ kv _ => ll - (intOf kv).toNat)
      case atStart => exact ⟨0, sl, sa, sc, Nat.zero_le _, rfl, rfl, rfl, HSl.out, HBf.out.old HU6.out, (fun g e => .inl (HMm.out g (.inr e))), Old.refl _⟩
      case round =>
        obtain ⟨k, r, ca, cc, hk, rfl, rfl, rfl, hr, hC, hg, hU⟩ := hrel
        have HR := hid hr
        have HC := hid hC
        have HG := hid hg
        have HUk := hid hU
        have HRl := hid (show r ≤ 65536 from by rw [hr]; exact crM_len ⟨now, safe⟩ kd HBl.out.1 HBl.out.2 k)
        clear hr hC hg hU
        obtain ⟨t0, t1, t2, -, -, -⟩ := box3 ((U6.out.trans HUk.out).block HB8.out)
        obtain ⟨j, hj⟩ : ∃ j, j = nn + k := ⟨_, rfl⟩
        have HJ := hid hj
        have l13 : (j : Int) ≤ 530000 := by have := HLl.out; omega
        rw [← hj]
        by_cases hkl : k < ll
        · have l4 : (0 : Int) ≤ (k : Int) := by omega
          have l5 : (k : Int) < (ll : Int) := by omega
          have HGd := hid (show kd.getD k false = kp.getD j false from by rw [HKd.out, List.getD_eq_getElem?_getD, List.getD_eq_getElem?_getD, List.getElem?_drop, ← hj])
          have HSk := hid (show craK now (looL now safe) kd (k + 1) safe = if kp.getD j false = true then overL (craK now (looL now safe) kd k safe) ((looL now safe).getD k 0) (sec now ((looL now safe).getD k 0)) else craK now (looL now safe) kd k safe from by rw [← HGd.out]; rfl)
          by_cases cj : j < kl
          · obtain ⟨kb, ko, ek, kcell⟩ := HKc.out j cj
            subst ek
            have kk := (HU6.out.trans HUk.out).keep kcell
            have l6 : (j : Int) < (kl : Int) := by omega
            have l7 : (0 : Int) ≤ (j : Int) := by omega
            clear kcell
            cases hbv : kp.getD j false with
            | true =>
              rw [hbv] at kk HSk
              have HS1 := hid (show craK now (looL now safe) kd (k + 1) safe = overL (craK now (looL now safe) kd k safe) ((looL now safe).getD k 0) (sec now ((looL now safe).getD k 0)) from by rw [HSk.out, if_pos rfl])
              have hkx : k < (nI (lowL now safe)).length := by rw [HLL.out]; exact hkl
              obtain ⟨gi, ci, qi, hic, him, icell⟩ := (O6.out.up HUk.out).at k hkx
              rw [HLL.out] at qi hic
              obtain ⟨eqi, -, eqc⟩ := Value.slice.inj qi
              subst eqi eqc
              have hkl2 : k < (lowL now safe).length := by rw [HLL2.out]; exact hkl
              obtain ⟨s1, hs1⟩ : ∃ s1, s1 = (lowL now safe)[k] := ⟨_, rfl⟩
              obtain ⟨t, ht⟩ : ∃ t, t = 32 * s1 := ⟨_, rfl⟩
              have e1 : (nI (lowL now safe))[k] = (s1 : Int) := by simp [nI, hs1]
              rw [e1] at icell
              have HT := hid (show (looL now safe).getD k 0 = t from by rw [lowL_loo, List.getD_eq_getElem?_getD, List.getElem?_map, List.getElem?_eq_getElem hkl2, ht, hs1]; rfl)
              have htl : t ≤ 65536 := by
                have := loo_le now safe t (by rw [lowL_loo, ht, hs1]; exact List.mem_map.2 ⟨_, List.getElem_mem hkl2, rfl⟩)
                have := HBl.out.1
                omega
              have HTl := hid htl
              rw [HT.out] at HS1
              have lw1 : IntKind.i64.wrap ((s1 : Int) * 32) = (t : Int) := by rw [IntKind.wrap_i64]; omega
              obtain ⟨t9, ht9⟩ : ∃ t9, t9 = t + 32 := ⟨_, rfl⟩
              have lw2 : IntKind.i64.wrap ((t : Int) + 32) = (t9 : Int) := by rw [IntKind.wrap_i64]; omega
              have HP1 := hid (HPt.out t (by omega))
              rw [← ht9] at HP1
              clear qi e1 hs1 ht ht9 htl hkl2 hkx hbv HSk hj
              obtain ⟨M, hM⟩ : ∃ M, M = sec now t := ⟨_, rfl⟩
              have HMl := hid (show M.length ≤ 65536 from by rw [hM]; unfold sec; rw [List.length_take]; omega)
              rw [← hM] at HP1 HS1
              obtain ⟨X, hX⟩ : ∃ X, X = craK now (looL now safe) kd k safe := ⟨_, rfl⟩
              rw [← hX] at HC HR HS1
              have HOv := hid (fun (W : World) (u : Old wr W) (a1 : Option Addr) (c1 : Nat) (o1 : Own W (.slice a1 M.length c1) M) => show Calls Tryz.prog 33 #[.slice ca r cc, .int .i64 (t : Nat), .slice a1 M.length c1] W (NewRow W (overL X t M)) from by have := rover_any ca a1 cc c1 X M t W (by rw [← HR.out]; exact (HC.out.old u).row) o1.row (by rw [← HR.out]; exact HRl.out) HMl.out HTl.out; rw [← HR.out] at this; exact this)
              clear hM hX
              go_wp2_with (first | (go_at_call 34; refine (HP1.out _ (HU6.out.trans HUk.out)).mono ?_; rintro e w7 ⟨a7, c7, rfl, o7, u7, f7⟩; have O7 := hid o7; have U7 := hid u7; clear o7 u7 f7) | (go_at_call 33; refine (HOv.out _ U7.out a7 c7 O7.out).mono ?_; rintro e w8 ⟨a8, c8, rfl, o8, u8, f8⟩; have O8 := hid o8; have U8 := hid (HUk.out.trans (U7.out.trans u8)); have F8 := hid (fun g e => Nat.le_trans (Nat.le_trans (HU6.out.trans HUk.out).size U7.out.size) (f8 g e)); clear o8 u8 f8))
              obtain ⟨r8, hr8⟩ : ∃ r8, r8 = (overL X t M).length := ⟨_, rfl⟩
              rw [← hr8] at O8 F8 ⊢
              have HR8 := hid hr8
              clear hr8
              go_roundw
              case rel => exact ⟨k + 1, r8, a8, c8, hkl, by go_num, by rw [show nn + (k + 1) = j + 1 from by have := HJ.out; omega]; go_num, rfl, by rw [HS1.out]; exact HR8.out, by rw [HS1.out]; exact O8.out, (fun g e => .inr (F8.out g e)), U8.out⟩
              case measure => simp [intOf]; omega
            | false =>
              rw [hbv] at kk HSk
              have HS1 := hid (show craK now (looL now safe) kd (k + 1) safe = craK now (looL now safe) kd k safe from by rw [HSk.out, if_neg (by simp)])
              clear hbv HSk hj
              go_wp2
              go_roundw
              case rel => exact ⟨k + 1, r, ca, cc, hkl, by go_num, by rw [show nn + (k + 1) = j + 1 from by have := HJ.out; omega]; go_num, rfl, by rw [HS1.out]; exact HR.out, by rw [HS1.out]; exact HC.out, HG.out, HUk.out⟩
              case measure => simp [intOf]; omega
          · have l6 : ¬ (j : Int) < (kl : Int) := by omega
            have HS1 := hid (show craK now (looL now safe) kd (k + 1) safe = craK now (looL now safe) kd k safe from by rw [HSk.out, if_neg (by rw [List.getD_eq_getElem?_getD, List.getElem?_eq_none (by rw [← HKL.out]; omega)]; simp)])
            clear HSk hj
            go_wp2
            go_roundw
            case rel => exact ⟨k + 1, r, ca, cc, hkl, by go_num, by rw [show nn + (k + 1) = j + 1 from by have := HJ.out; omega]; go_num, rfl, by rw [HS1.out]; exact HR.out, by rw [HS1.out]; exact HC.out, HG.out, HUk.out⟩
            case measure => simp [intOf]; omega
        · obtain rfl : k = ll := by omega
          have l5 : ¬ (k : Int) < (k : Int) := by omega
          obtain ⟨X, hX⟩ : ∃ X, X = craK now (looL now safe) kd k safe := ⟨_, rfl⟩
          rw [← hX] at HC HR
          have HX := hid (show X = crM ⟨now, safe⟩ kd from by rw [hX]; unfold crM; dsimp only; rw [← lowL_len, HLL2.out])
          have HFn := hid (show FiAt wr ⟨yn, ca, cc, X, ca, cc, X⟩ from by
            have o := HC.out
            rw [HR.out] at o
            exact ⟨o, o, by rw [← HR.out]; exact HRl.out, by rw [← HR.out]; exact HRl.out⟩)
          have HOr := hid (HO1.out.old (HV.out.trans (U6.out.trans HUk.out)))
          have HJn := hid (show looN ((Y.map Fi.p).take (i + 1)) = j from by rw [HTk2.out, looN_app, ← HNN.out, HJ.out]; show nn + ((looL now safe).length + 0) = _; rw [← lowL_len, HLL2.out]; omega)
          have HZ2 := hid (show (Zs ++ [(⟨yn, ca, cc, X, ca, cc, X⟩ : Fi)]).map Fi.p = crD ((Y.map Fi.p).take (i + 1)) kp from by rw [HTk2.out, crD_app, List.map_append, HZp.out, ← HNN.out, ← HKd.out]; show _ = _ ++ [(yn, (⟨crM ⟨now, safe⟩ kd, crM ⟨now, safe⟩ kd⟩ : PF))]; rw [← HX.out]; rfl)
          have HUr := hid (show Old w0 wr from HU1.out.trans (HV.out.trans (U6.out.trans HUk.out)))
          have HZo := hid (show ∀ z ∈ Zs, FiAt wr z from fun z hz => (HZ.out z hz).1.old (HV.out.trans (U6.out.trans HUk.out)))
          clear hX hj hkl hk
          go_wp2_with (at_builtin; refine wp_appR rfl (.tmp 62) (.tmp 68) rfl bs _ Zs _ ⟨yn, ca, cc, X, ca, cc, X⟩ rfl rfl (HOr.out.old ((Old.refl wr).alloc _)) (by rw [← HR.out]; exact alloc_at wr _) (by have := HM.out; have := HMi.out; omega) (by have := HUr.out.size; have := HBs.out; simp; omega) ?_; intro v9 w9 o9 ch9; have O9 := hid o9; have C9 := hid ch9; clear o9 ch9)
          have HU9 := hid (show Old w0 w9 from C9.out.oldOf (HUr.out.alloc _) (fun k hk => by have := (HOr.out.lt k (Option.mem_toList.1 hk)).1; have := HBs.out; omega))
          have HC9 := hid (show Chg (Value.slice a m cp).ownBlock.toList wr w9 from (Chg.ofOld ((Old.refl wr).alloc _)).trans C9.out)
          have HOff := hid (show ∀ z, FiAt wr z → FiAt w9 z from fun z hz => ⟨hz.1.chg HC9.out (fun g e k => by
              rcases HOr.out.cases with ⟨q, -⟩ | ⟨gg, cap, cur, q, -, hgg, -⟩
              · rw [q] at k; simp [Value.ownBlock] at k
              · rw [q] at k
                have k2 : g = gg := by simpa [Value.ownBlock] using k
                exact hz.1.offT hgg (by decide) g e (by simp [k2])), hz.2.1.chg HC9.out (fun g e k => by
              rcases HOr.out.cases with ⟨q, -⟩ | ⟨gg, cap, cur, q, -, hgg, -⟩
              · rw [q] at k; simp [Value.ownBlock] at k
              · rw [q] at k
                have k2 : g = gg := by simpa [Value.ownBlock] using k
                exact hz.2.1.offT hgg (by decide) g e (by simp [k2])), hz.2.2⟩)
          obtain ⟨a9, c9, e9⟩ := O9.out.len
          have hl9 : (Zs ++ [(⟨yn, ca, cc, X, ca, cc, X⟩ : Fi)]).length = m + 1 := by rw [List.length_append, ← HM.out]; rfl
          rw [hl9] at e9
          subst e9
          have HL9 := hid hl9
          clear hl9
          go_roundw
          case rel =>
            refine ⟨i + 1, m + 1, j, a9, c9, _, hlt, by go_num, rfl, rfl, HJn.out.symm, HL9.out.symm, by have := HMi.out; omega, HZ2.out, O9.out, fun z hz => ?_, HU9.out⟩
            rcases List.mem_append.1 hz with q | q
            · exact ⟨HOff.out z (HZo.out z q), (HZ.out z q).2⟩
            · rw [List.mem_singleton.1 q]
              exact ⟨HOff.out _ HFn.out, fun g e => HG.out g (by rw [HR.out]; rcases e with e | e <;> exact e)⟩
          case measure => simp [intOf]; omega
    · obtain rfl : i = n := by omega
      have l3 : ¬ (i : Int) < (i : Int) := by omega
      have HE := hid (show (Y.map Fi.p).take i = Y.map Fi.p from by rw [HN.out]; exact List.take_of_length_le (by rw [List.length_map]; exact Nat.le_refl _))
      rw [HE.out] at HZp
      have B1 := hid (HU1.out.block HB1.out)
      have HUf := hid (show Old w (((wr.setCell ⟨g1, 0, none⟩ (.slice a m cp)).setCell ⟨g1, 1, none⟩ (.bool false)).setCell ⟨g1, 2, none⟩ (.int .i64 0)) from (HU.out.trans HU1.out).set3 HLt.out.1)
      have HDz := hid (show DocAt (((wr.setCell ⟨g1, 0, none⟩ (.slice a m cp)).setCell ⟨g1, 1, none⟩ (.bool false)).setCell ⟨g1, 2, none⟩ (.int .i64 0)) (.slice a m cp) Zs from DocAt.chgT ⟨HO1.out.mono (Nat.zero_le _), fun z hz => (HZ.out z hz).1⟩ (chg3 wr g1 _ _ _) B1.out)
      have HBl := hid (show ∀ g ∈ docB (.slice a m cp) Zs, g ∈ BB ∨ w.heap.size ≤ g from fun g hg => by
        rcases docB_mem.1 hg with e | ⟨z, hz, e⟩
        · exact .inr (by have := (HO1.out.lt g e).1; have := HLt.out; omega)
        · exact (HZ.out z hz).2 g e)
      obtain ⟨p0, p1, p2, pf0, pf1, pf2⟩ := box3 B1.out
      obtain ⟨z0, z1, z2, -, -, -⟩ := box3 (box3_set (p := .slice a m cp) (q := .bool false) (r := .int .i64 0) B1.out)
      clear hlt hi
      go_wp2
      refine bodyPost_ret (v := .agg #[.slice a m cp, .bool false, .int .i64 0]) (by simp [results, Tryz.results12, go_sem, z0, z1, z2]) rfl ?_
      refine ⟨a, cp, Zs, by rw [HM.out], ?_, HZp.out, HUf.out, ?_⟩
      · rw [← HM.out]; exact HDz.out
      · rw [← HM.out]; exact HBl.out
end Go.Proofs.YtfphopleniidfaaGreatDoor
