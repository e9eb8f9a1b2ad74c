/- The document's With of layer 5; conditions: the rows lie in memory. -/
import Derived.Test.YtfphopleniidfaaGreatDoorQ5c
namespace Go.Proofs.YtfphopleniidfaaGreatDoor
open Go.RowKit Go.Lib
set_option linter.unusedVariables false
set_option linter.unusedSimpArgs false
set_option maxRecDepth 20000
theorem RS.old {g0 g1 gy k : Nat} {x y z : Value} {w w' : World} (o : Old w w') (h : w.cell? ⟨g1, 0, none⟩ = some x ∧ w.cell? ⟨g0, 0, none⟩ = some y ∧ w.cell? ⟨gy, k, none⟩ = some z) : w'.cell? ⟨g1, 0, none⟩ = some x ∧ w'.cell? ⟨g0, 0, none⟩ = some y ∧ w'.cell? ⟨gy, k, none⟩ = some z := ⟨o.keep h.1, o.keep h.2.1, o.keep h.2.2⟩
theorem outY_len (f : Fi) (Z : List Fi) (d : Bool) : (outY f Z d).length ≤ Z.length + 1 := by
  unfold outY
  split
  · rw [insY_len]; exact Nat.le_refl _
  · omega
theorem outY_mem {f x : Fi} {Z : List Fi} {d : Bool} (h : x ∈ outY f Z d) : x = f ∨ x ∈ Z := by
  unfold outY at h
  split at h
  · exact insY_mem h
  · exact .inr h
set_option maxHeartbeats 8000000 in
set_option maxRecDepth 20000 in
theorem rwith_any (ya : Option Addr) (yc : Nat) (Y : List Fi) (dn : Bool) (fu : Int) (f : Fi) (w : World) (h : DocAt w (.slice ya Y.length yc) Y) (hl : Y.length ≤ 1000) (hf : FiAt w f) : Calls Tryz.prog 49 #[.agg #[.slice ya Y.length yc, .bool dn, .int .i64 fu], .agg #[.string f.nm, .slice f.na f.now.length f.nc, .slice f.sa f.safe.length f.sc]] w (DPost w (insY f (delY Y f.nm)) dn fu) := by
  have HY := hid h
  have HL := hid hl
  have HF := hid hf
  obtain ⟨Z, hZ⟩ : ∃ Z, delY Y f.nm = Z := ⟨_, rfl⟩
  have HZl := hid (show Z.length ≤ 1000 from by rw [← hZ]; have := delY_len Y f.nm; omega)
  have HWo := hid (fun (W : World) (u : Old w W) => rwithout_any ya yc Y dn fu f.nm W (h.old u) hl)
  have HZm := hid (show ∀ z ∈ Z, FiAt w z from fun z hz => by rw [← hZ] at hz; exact h.byt z (List.mem_filter.1 hz).1)
  rw [hZ] at HWo ⊢
  obtain ⟨ff, hff⟩ : ∃ ff, ff = f := ⟨_, rfl⟩
  have HFf := hid hff
  obtain ⟨fn, na, nc, now, sa, sc, safe⟩ := f
  dsimp only at HWo ⊢
  rw [← hff]
  have HFc := hid (show ff.nm = fn ∧ ff.na = na ∧ ff.nc = nc ∧ ff.now = now ∧ ff.sa = sa ∧ ff.sc = sc ∧ ff.safe = safe from by rw [hff]; exact ⟨rfl, rfl, rfl, rfl, rfl, rfl, rfl⟩)
  rw [← hff] at HF
  obtain ⟨nl, hnl⟩ : ∃ nl, nl = now.length := ⟨_, rfl⟩
  obtain ⟨sl, hsl⟩ : ∃ sl, sl = safe.length := ⟨_, rfl⟩
  have HNl := hid hnl
  have HSl := hid hsl
  rw [← hnl, ← hsl]
  obtain ⟨n, hn⟩ : ∃ n, n = Y.length := ⟨_, rfl⟩
  rw [← hn] at HWo ⊢
  clear h hl hf hZ hff hn hnl hsl HY HFf
  go_enter Tryz.func49, Tryz.ntmps49
  go_upto_region 1 with (fail)
  have HU := hid (show Old w (((w.alloc (.cells #[.slice ya n yc, .bool dn, .int .i64 fu] 32)).alloc (.cells #[.string fn, .slice na nl nc, .slice sa sl sc] 51)).alloc (.cells #[.slice none 0 0, .bool false, .int .i64 0] 32)) from (((Old.refl w).alloc _).alloc _).alloc _)
  have HB0 := hid (show (((w.alloc (.cells #[.slice ya n yc, .bool dn, .int .i64 fu] 32)).alloc (.cells #[.string fn, .slice na nl nc, .slice sa sl sc] 51)).alloc (.cells #[.slice none 0 0, .bool false, .int .i64 0] 32)).heap[w.heap.size]? = some (.cells #[.slice ya n yc, .bool dn, .int .i64 fu] 32 (0, 0)) from alloc_keep (alloc_keep (alloc_at w _)))
  have HB1 := hid (show (((w.alloc (.cells #[.slice ya n yc, .bool dn, .int .i64 fu] 32)).alloc (.cells #[.string fn, .slice na nl nc, .slice sa sl sc] 51)).alloc (.cells #[.slice none 0 0, .bool false, .int .i64 0] 32)).heap[w.heap.size + 1]? = some (.cells #[.string fn, .slice na nl nc, .slice sa sl sc] 51 (0, 0)) from by have := alloc_keep (q := (.cells #[.slice none 0 0, .bool false, .int .i64 0] 32)) (alloc_at (w.alloc (.cells #[.slice ya n yc, .bool dn, .int .i64 fu] 32)) (.cells #[.string fn, .slice na nl nc, .slice sa sl sc] 51)); simpa using this)
  have HB2 := hid (show (((w.alloc (.cells #[.slice ya n yc, .bool dn, .int .i64 fu] 32)).alloc (.cells #[.string fn, .slice na nl nc, .slice sa sl sc] 51)).alloc (.cells #[.slice none 0 0, .bool false, .int .i64 0] 32)).heap[w.heap.size + 1 + 1]? = some (.cells #[.slice none 0 0, .bool false, .int .i64 0] 32 (0, 0)) from by have := alloc_at ((w.alloc (.cells #[.slice ya n yc, .bool dn, .int .i64 fu] 32)).alloc (.cells #[.string fn, .slice na nl nc, .slice sa sl sc] 51)) (.cells #[.slice none 0 0, .bool false, .int .i64 0] 32); simpa using this)
  have HS := hid (show (((w.alloc (.cells #[.slice ya n yc, .bool dn, .int .i64 fu] 32)).alloc (.cells #[.string fn, .slice na nl nc, .slice sa sl sc] 51)).alloc (.cells #[.slice none 0 0, .bool false, .int .i64 0] 32)).heap.size = w.heap.size + 1 + 1 + 1 from by simp)
  generalize ((w.alloc (.cells #[.slice ya n yc, .bool dn, .int .i64 fu] 32)).alloc (.cells #[.string fn, .slice na nl nc, .slice sa sl sc] 51)).alloc (.cells #[.slice none 0 0, .bool false, .int .i64 0] 32) = w0 at *
  obtain ⟨g0, hg0⟩ : ∃ g0, g0 = w.heap.size := ⟨_, rfl⟩
  obtain ⟨g1, hg1⟩ : ∃ g1, g1 = w.heap.size + 1 := ⟨_, rfl⟩
  obtain ⟨g2, hg2⟩ : ∃ g2, g2 = w.heap.size + 1 + 1 := ⟨_, rfl⟩
  have HLt := hid (show w.heap.size ≤ g0 ∧ w.heap.size ≤ g2 ∧ g0 < w0.heap.size ∧ g1 < w0.heap.size ∧ g2 < w0.heap.size ∧ w.heap.size ≤ w0.heap.size from by have := HS.out; omega)
  have n01 : g0 ≠ g1 := by omega
  have n10 : g1 ≠ g0 := by omega
  have n02 : g0 ≠ g2 := by omega
  have n20 : g2 ≠ g0 := by omega
  rw [← hg0] at HB0
  rw [← hg1] at HB1
  rw [← hg2] at HB2
  rw [← hg2, ← hg1, ← hg0]
  clear hg0 hg1 hg2 HS
  obtain ⟨x0, x1, x2, xf0, xf1, xf2⟩ := box3 HB0.out
  obtain ⟨y0, y1, y2, -, -, -⟩ := box3 HB1.out
  go_upto_region 2 with (go_at_call 50; refine (HWo.out _ HU.out).mono ?_; rintro e w1 ⟨a1, c1, rfl, d1, u1, -⟩; have D1 := hid d1; have U1 := hid u1; have k0 := u1.keep x0; have k1 := u1.keep x1; have k2 := u1.keep x2; have kf0 := u1.keepF x0 xf0; have kf1 := u1.keepF x1 xf1; have kf2 := u1.keepF x2 xf2; clear d1 u1)
  obtain ⟨n1, hn1⟩ : ∃ n1, n1 = Z.length := ⟨_, rfl⟩
  have HN1 := hid hn1
  rw [← hn1] at D1 HZl ⊢
  clear hn1
  have C0 := hid (show (((w1.setCell ⟨g0, 0, none⟩ (.slice a1 n1 c1)).setCell ⟨g0, 1, none⟩ (.bool dn)).setCell ⟨g0, 2, none⟩ (.int .i64 fu)).heap[g0]? = some (.cells #[.slice a1 n1 c1, .bool dn, .int .i64 fu] 32 (0, 0)) from box3_set (U1.out.block HB0.out))
  have C1 := hid (show (((w1.setCell ⟨g0, 0, none⟩ (.slice a1 n1 c1)).setCell ⟨g0, 1, none⟩ (.bool dn)).setCell ⟨g0, 2, none⟩ (.int .i64 fu)).heap[g1]? = some (.cells #[.string fn, .slice na nl nc, .slice sa sl sc] 51 (0, 0)) from set_other (set_other (set_other (U1.out.block HB1.out) n10) n10) n10)
  have C2 := hid (show (((w1.setCell ⟨g0, 0, none⟩ (.slice a1 n1 c1)).setCell ⟨g0, 1, none⟩ (.bool dn)).setCell ⟨g0, 2, none⟩ (.int .i64 fu)).heap[g2]? = some (.cells #[.slice none 0 0, .bool false, .int .i64 0] 32 (0, 0)) from set_other (set_other (set_other (U1.out.block HB2.out) n20) n20) n20)
  have CU := hid (show Old w (((w1.setCell ⟨g0, 0, none⟩ (.slice a1 n1 c1)).setCell ⟨g0, 1, none⟩ (.bool dn)).setCell ⟨g0, 2, none⟩ (.int .i64 fu)) from (HU.out.trans U1.out).set3 HLt.out.1)
  have CR := hid (show OwnR 0 (((w1.setCell ⟨g0, 0, none⟩ (.slice a1 n1 c1)).setCell ⟨g0, 1, none⟩ (.bool dn)).setCell ⟨g0, 2, none⟩ (.int .i64 fu)) (.slice a1 n1 c1) Z from D1.out.row.chg (chg3 w1 g0 _ _ _) (fun g e k => by
    simp at k
    subst k
    rcases D1.out.row.cases with ⟨q, -⟩ | ⟨gg, cap, cur, q, -, hg, -⟩
    · rw [q] at e; cases e
    · rw [q] at e; cases e; rw [U1.out.block HB0.out] at hg; simp at hg))
  have CS := hid (show w0.heap.size ≤ (((w1.setCell ⟨g0, 0, none⟩ (.slice a1 n1 c1)).setCell ⟨g0, 1, none⟩ (.bool dn)).setCell ⟨g0, 2, none⟩ (.int .i64 fu)).heap.size from by simp; exact U1.out.size)
  clear k0 k1 k2 kf0 kf1 kf2 x0 x1 x2 xf0 xf1 xf2 y0 y1 y2 D1 HWo HB0 HB1 HB2
  generalize ((w1.setCell ⟨g0, 0, none⟩ (.slice a1 n1 c1)).setCell ⟨g0, 1, none⟩ (.bool dn)).setCell ⟨g0, 2, none⟩ (.int .i64 fu) = w2 at *
  have HLs := hid (show w.heap.size ≤ w2.heap.size ∧ g0 < w2.heap.size ∧ g1 < w2.heap.size ∧ g2 < w2.heap.size from by have := HLt.out; have := CS.out; omega)
  go_upto_region 3 with (fail)
  have HO := hid (OwnR.empty w2 w2.heap.size rfl)
  have HU0 := hid (show Old w2 (w2.alloc (.cells #[] 51)) from (Old.refl w2).alloc _)
  generalize w2.alloc (.cells #[] 51) = wa at *
  obtain ⟨g3, hg3⟩ : ∃ g3, g3 = w2.heap.size := ⟨_, rfl⟩
  obtain ⟨bs, hbs⟩ : ∃ bs, bs = w2.heap.size := ⟨_, rfl⟩
  have HO2 := hid (show OwnR bs wa (.slice (some ⟨g3, 0, none⟩) 0 0) [] from by rw [hg3, hbs]; exact HO.out)
  rw [← hg3]
  rw [← hbs] at HLs
  have HBs := hid hbs
  have l9 : (n1 : Int) ≤ 1000 := by have := HZl.out; omega
  clear hg3 hbs HO
  go_wp2
  go_loopw [5, 6, 7] (fun us dv c wr => ∃ (i m : Nat) (a : Option Addr) (cp : Nat) (d : Bool), i ≤ n1 ∧ c = .int .i64 (i : Nat) ∧ us = .slice a m cp ∧ dv = .bool d ∧ d = (Z.take i).any (lsF ff) ∧ m = (outY ff (Z.take i) d).length ∧ OwnR bs wr (.slice a m cp) (outY ff (Z.take i) d) ∧ Old w2 wr) (fun _ _ c _ => n1 - (intOf c).toNat)
  case atStart => exact ⟨0, 0, _, _, false, Nat.zero_le _, rfl, rfl, rfl, rfl, rfl, by simpa [outY] using HO2.out, HU0.out⟩
  case round =>
    obtain ⟨i, m, a, cp, d, hi, rfl, rfl, rfl, hd, hm, hO, hU⟩ := hrel
    have HO1 := hid hO
    have HU1 := hid hU
    have HM := hid hm
    have HD := hid hd
    have HLm := hid (show (outY ff (Z.take i) d).length ≤ 1001 from by have h1 := outY_len ff (Z.take i) d; rw [List.length_take] at h1; have := HZl.out; omega)
    clear hO hU hm hd HO2
    obtain ⟨x0, x1, x2, xf0, xf1, xf2⟩ := box3 (HU1.out.block C0.out)
    obtain ⟨f0, f1, f2, -, -, -⟩ := box3 (HU1.out.block C1.out)
    by_cases hlt : i < n1
    · have hil : i < Z.length := by rw [← HN1.out]; exact hlt
      obtain ⟨gy, cy, qy, hyc, hym, ⟨y0, y1, y2⟩⟩ := CR.out.at i hil
      obtain ⟨ey, -, ec⟩ := Value.slice.inj qy
      subst ey ec
      have k0 := HU1.out.keep y0
      have k1 := HU1.out.keep y1
      have k2 := HU1.out.keep y2
      have l2 : (0 : Int) ≤ (i : Int) := by omega
      have l3 : (i : Int) < (n1 : Int) := by omega
      rw [← HN1.out] at hyc
      have HA := hid (take_any ff Z i hil)
      have HTk := hid (List.take_append_getElem hil)
      have HK0 := hid y0
      have HK1 := hid y1
      have HK2 := hid y2
      clear y0 y1 y2 qy
      generalize Z[i] = y at *
      clear hil
      obtain ⟨nm, hnm⟩ : ∃ nm, nm = y.nm := ⟨_, rfl⟩
      have HNm := hid hnm
      rw [← hnm] at k0 HK0
      have HLf := hid (show lsF ff y = Op.bytesLess fn.toList nm.toList from by unfold lsF; rw [HFc.out.1, hnm])
      clear hnm
      have HRS := hid (show wr.cell? ⟨g1, 0, none⟩ = some (.string fn) ∧ wr.cell? ⟨g0, 0, none⟩ = some (.slice (some ⟨gy, 0, none⟩) n1 c1) ∧ wr.cell? ⟨gy, i * 3, none⟩ = some (.string nm) from ⟨f0, x0, k0⟩)
      cases d with
      | true =>
        have HT := hid (show outY ff (Z.take i) true ++ [y] = outY ff (Z.take (i + 1)) true from by rw [← HTk.out]; unfold outY; rw [if_pos rfl, if_pos rfl, insY_some ff [y] _ HD.out.symm])
        have HD2 := hid (show true = (Z.take (i + 1)).any (lsF ff) from by rw [HA.out, ← HD.out]; rfl)
        clear HA HD HLf
        go_upto_region 7 with (fail)
        refine wp_region_noPanic ?_
        refine wp_region_held_drew (S := fun wz => wz.cell? ⟨g1, 0, none⟩ = some (.string fn) ∧ wz.cell? ⟨g0, 0, none⟩ = some (.slice (some ⟨gy, 0, none⟩) n1 c1) ∧ wz.cell? ⟨gy, i * 3, none⟩ = some (.string nm)) (by kernel_rfl) ?_ (fun hHeld => ?_)
        · exact (RS.old ((Old.refl wr).drew) HRS.out)
        (try simp only [Act.put]); (try simp only [List.setIfInBounds_toArray]); (try simp only [List.set_cons_succ]); (try simp only [List.set_cons_zero])
        clear hHeld
        refine wpAnyH_take (i := 0) (oi := { dst := some 20, op := Op.move (Operand.tmp 6), type := 4, pos := "ref.go:55", after := #[], guard := none }) (v := ?vk1) rfl (by kernel_rfl) (by kernel_rfl) (by kernel_rfl) (fun _ _ _ h => h) (Or.inl ⟨by rfl, ?hk1⟩) (RS.old ((Old.refl wr).drew) HRS.out) ?rk1
        case hk1 => (intro wz hSw; (try dsimp only at hSw); go_simp; try with_reducible rfl)
        (try simp only [Act.put]); (try simp only [List.setIfInBounds_toArray]); (try simp only [List.set_cons_succ]); (try simp only [List.set_cons_zero])
        refine wpAnyH_take (i := 1) (oi := { dst := some 21, op := Op.unOp UnOp.not 4 (Operand.tmp 20), type := 4, pos := "ref.go:55", after := #[{ on := 0, ground := Ground.data }], guard := none }) (v := ?vk2) rfl (by kernel_rfl) (by kernel_rfl) (by kernel_rfl) (fun _ _ _ h => h) (Or.inl ⟨by rfl, ?hk2⟩) (RS.old ((Old.refl wr).drew) HRS.out) ?rk2
        case hk2 => (intro wz hSw; (try dsimp only at hSw); go_simp; try with_reducible rfl)
        (try simp only [Act.put]); (try simp only [List.setIfInBounds_toArray]); (try simp only [List.set_cons_succ]); (try simp only [List.set_cons_zero])
        refine wpAnyH_take (i := 2) (oi := { dst := some 22, op := Op.move (Operand.tmp 21), type := 4, pos := "ref.go:55", after := #[{ on := 1, ground := Ground.data }], guard := none }) (v := ?vk3) rfl (by kernel_rfl) (by kernel_rfl) (by kernel_rfl) (fun _ _ _ h => h) (Or.inl ⟨by rfl, ?hk3⟩) (RS.old ((Old.refl wr).drew) HRS.out) ?rk3
        case hk3 => (intro wz hSw; (try dsimp only at hSw); go_simp; try with_reducible rfl)
        (try simp only [Act.put]); (try simp only [List.setIfInBounds_toArray]); (try simp only [List.set_cons_succ]); (try simp only [List.set_cons_zero])
        refine wpAnyH_take (i := 3) (oi := { dst := some 23, op := Op.fieldAddr 51 (Operand.tmp 3) 0, type := 0, pos := "ref.go:55", after := #[{ on := 2, ground := Ground.guard }], guard := some (2, true) }) (v := undef) rfl (by kernel_rfl) (by kernel_rfl) (by kernel_rfl) (fun _ _ _ h => h) (Or.inr ⟨by rfl, rfl⟩) (RS.old ((Old.refl wr).drew) HRS.out) ?_
        (try simp only [Act.put]); (try simp only [List.setIfInBounds_toArray]); (try simp only [List.set_cons_succ]); (try simp only [List.set_cons_zero])
        refine wpAnyH_take (i := 4) (oi := { dst := some 24, op := Op.load 9 (Operand.tmp 23), type := 9, pos := "ref.go:55", after := #[{ on := 3, ground := Ground.data }, { on := 2, ground := Ground.guard }], guard := some (2, true) }) (v := undef) rfl (by kernel_rfl) (by kernel_rfl) (by kernel_rfl) (fun _ _ _ h => h) (Or.inr ⟨by rfl, rfl⟩) (RS.old ((Old.refl wr).drew) HRS.out) ?_
        (try simp only [Act.put]); (try simp only [List.setIfInBounds_toArray]); (try simp only [List.set_cons_succ]); (try simp only [List.set_cons_zero])
        refine wpAnyH_take (i := 5) (oi := { dst := some 25, op := Op.fieldAddr 32 (Operand.tmp 2) 0, type := 0, pos := "ref.go:55", after := #[{ on := 2, ground := Ground.guard }], guard := some (2, true) }) (v := undef) rfl (by kernel_rfl) (by kernel_rfl) (by kernel_rfl) (fun _ _ _ h => h) (Or.inr ⟨by rfl, rfl⟩) (RS.old ((Old.refl wr).drew) HRS.out) ?_
        (try simp only [Act.put]); (try simp only [List.setIfInBounds_toArray]); (try simp only [List.set_cons_succ]); (try simp only [List.set_cons_zero])
        refine wpAnyH_take (i := 6) (oi := { dst := some 26, op := Op.load 30 (Operand.tmp 25), type := 30, pos := "ref.go:55", after := #[{ on := 5, ground := Ground.data }, { on := 2, ground := Ground.guard }], guard := some (2, true) }) (v := undef) rfl (by kernel_rfl) (by kernel_rfl) (by kernel_rfl) (fun _ _ _ h => h) (Or.inr ⟨by rfl, rfl⟩) (RS.old ((Old.refl wr).drew) HRS.out) ?_
        (try simp only [Act.put]); (try simp only [List.setIfInBounds_toArray]); (try simp only [List.set_cons_succ]); (try simp only [List.set_cons_zero])
        refine wpAnyH_take (i := 7) (oi := { dst := some 27, op := Op.move (Operand.tmp 7), type := 3, pos := "ref.go:55", after := #[{ on := 2, ground := Ground.guard }], guard := some (2, true) }) (v := undef) rfl (by kernel_rfl) (by kernel_rfl) (by kernel_rfl) (fun _ _ _ h => h) (Or.inr ⟨by rfl, rfl⟩) (RS.old ((Old.refl wr).drew) HRS.out) ?_
        (try simp only [Act.put]); (try simp only [List.setIfInBounds_toArray]); (try simp only [List.set_cons_succ]); (try simp only [List.set_cons_zero])
        refine wpAnyH_take (i := 8) (oi := { dst := some 28, op := Op.indexAddr 30 (Operand.tmp 26) (Operand.tmp 27), type := 0, pos := "ref.go:55", after := #[{ on := 6, ground := Ground.data }, { on := 7, ground := Ground.data }, { on := 2, ground := Ground.guard }], guard := some (2, true) }) (v := undef) rfl (by kernel_rfl) (by kernel_rfl) (by kernel_rfl) (fun _ _ _ h => h) (Or.inr ⟨by rfl, rfl⟩) (RS.old ((Old.refl wr).drew) HRS.out) ?_
        (try simp only [Act.put]); (try simp only [List.setIfInBounds_toArray]); (try simp only [List.set_cons_succ]); (try simp only [List.set_cons_zero])
        refine wpAnyH_take (i := 9) (oi := { dst := some 29, op := Op.fieldAddr 51 (Operand.tmp 28) 0, type := 0, pos := "ref.go:55", after := #[{ on := 8, ground := Ground.data }, { on := 2, ground := Ground.guard }], guard := some (2, true) }) (v := undef) rfl (by kernel_rfl) (by kernel_rfl) (by kernel_rfl) (fun _ _ _ h => h) (Or.inr ⟨by rfl, rfl⟩) (RS.old ((Old.refl wr).drew) HRS.out) ?_
        (try simp only [Act.put]); (try simp only [List.setIfInBounds_toArray]); (try simp only [List.set_cons_succ]); (try simp only [List.set_cons_zero])
        refine wpAnyH_take (i := 10) (oi := { dst := some 30, op := Op.load 9 (Operand.tmp 29), type := 9, pos := "ref.go:55", after := #[{ on := 9, ground := Ground.data }, { on := 2, ground := Ground.guard }], guard := some (2, true) }) (v := undef) rfl (by kernel_rfl) (by kernel_rfl) (by kernel_rfl) (fun _ _ _ h => h) (Or.inr ⟨by rfl, rfl⟩) (RS.old ((Old.refl wr).drew) HRS.out) ?_
        (try simp only [Act.put]); (try simp only [List.setIfInBounds_toArray]); (try simp only [List.set_cons_succ]); (try simp only [List.set_cons_zero])
        refine wpAnyH_take (i := 11) (oi := { dst := some 31, op := Op.binOp BinOp.lss 9 (Operand.tmp 24) (Operand.tmp 30) 9, type := 4, pos := "ref.go:55", after := #[{ on := 4, ground := Ground.data }, { on := 10, ground := Ground.data }, { on := 2, ground := Ground.guard }], guard := some (2, true) }) (v := undef) rfl (by kernel_rfl) (by kernel_rfl) (by kernel_rfl) (fun _ _ _ h => h) (Or.inr ⟨by rfl, rfl⟩) (RS.old ((Old.refl wr).drew) HRS.out) ?_
        (try simp only [Act.put]); (try simp only [List.setIfInBounds_toArray]); (try simp only [List.set_cons_succ]); (try simp only [List.set_cons_zero])
        refine wpAnyH_take (i := 12) (oi := { dst := some 32, op := Op.pick (Operand.tmp 22) (Operand.tmp 31) (Operand.const (Value.bool false)), type := 4, pos := "ref.go:55", after := #[{ on := 2, ground := Ground.data }, { on := 11, ground := Ground.data }], guard := none }) (v := ?vk4) rfl (by kernel_rfl) (by kernel_rfl) (by kernel_rfl) (fun _ _ _ h => h) (Or.inl ⟨by rfl, ?hk4⟩) (RS.old ((Old.refl wr).drew) HRS.out) ?rk4
        case hk4 => (intro wz hSw; (try dsimp only at hSw); go_simp; try with_reducible rfl)
        (try simp only [Act.put]); (try simp only [List.setIfInBounds_toArray]); (try simp only [List.set_cons_succ]); (try simp only [List.set_cons_zero])
        refine wpAnyH_done (by kernel_rfl) ?_ _
        refine NoPanic.normal ?_
        have q0 := ((Old.refl wr).drew).keep k0
        have q1 := ((Old.refl wr).drew).keep k1
        have q2 := ((Old.refl wr).drew).keep k2
        have r0 := ((Old.refl wr).drew).keep x0
        have s0 := ((Old.refl wr).drew).keep f0
        have s1 := ((Old.refl wr).drew).keep f1
        have s2 := ((Old.refl wr).drew).keep f2
        have UX := hid (HU1.out.trans ((Old.refl wr).drew))
        have OX := hid (HO1.out.old ((Old.refl wr).drew))
        clear k0 k1 k2 x0 x1 x2 xf0 xf1 xf2 f0 f1 f2 HRS HO1 HU1
        generalize World.drew wr = wx at *
        go_wp2_with (at_builtin; refine wp_appR rfl (.tmp 37) (.tmp 43) rfl bs _ (outY ff (Z.take i) true) _ y rfl rfl (OX.out.old ((Old.refl _).alloc _)) (by rw [← HNm.out]; exact alloc_at _ _) (by have := HLm.out; omega) (by have := UX.out.size; have := HBs.out; simp; omega) ?_; intro v6 w6 o6 ch6; have O6 := hid o6; have C6 := hid ch6; clear o6 ch6)
        rw [HT.out] at O6
        obtain ⟨a6, c6, e6⟩ := O6.out.len
        have hl6 : (outY ff (Z.take (i + 1)) true).length = m + 1 := by rw [← HT.out, List.length_append, ← HM.out]; rfl
        rw [hl6] at e6
        subst e6
        have HL6 := hid hl6
        clear hl6
        go_roundw
        case rel => exact ⟨i + 1, m + 1, a6, c6, true, hlt, by go_num, rfl, rfl, HD2.out, HL6.out.symm, O6.out, C6.out.oldOf (UX.out.alloc _) (fun k hk => by have := (OX.out.lt k (Option.mem_toList.1 hk)).1; have := HBs.out; omega)⟩
        case measure => simp [intOf]; omega
      | false =>
        have HX := hid (show outY ff (Z.take i) false = Z.take i from by unfold outY; rw [if_neg (by simp)])
        rw [HX.out] at HO1 HM HLm
        by_cases cl : Op.bytesLess fn.toList nm.toList = true
        · have HT := hid (show Z.take i ++ [ff] ++ [y] = outY ff (Z.take (i + 1)) true from by rw [← HTk.out]; unfold outY; rw [if_pos rfl, insY_here ff y _ HD.out.symm (by rw [HLf.out]; exact cl)])
          have HD2 := hid (show true = (Z.take (i + 1)).any (lsF ff) from by rw [HA.out, HLf.out, cl]; simp)
          clear HA HD HLf
          go_upto_region 7 with (fail)
          refine wp_region_noPanic ?_
          refine wp_region_held_drew (S := fun wz => wz.cell? ⟨g1, 0, none⟩ = some (.string fn) ∧ wz.cell? ⟨g0, 0, none⟩ = some (.slice (some ⟨gy, 0, none⟩) n1 c1) ∧ wz.cell? ⟨gy, i * 3, none⟩ = some (.string nm)) (by kernel_rfl) ?_ (fun hHeld => ?_)
          · exact (RS.old ((Old.refl wr).drew) HRS.out)
          (try simp only [Act.put]); (try simp only [List.setIfInBounds_toArray]); (try simp only [List.set_cons_succ]); (try simp only [List.set_cons_zero])
          clear hHeld
          refine wpAnyH_take (i := 0) (oi := { dst := some 20, op := Op.move (Operand.tmp 6), type := 4, pos := "ref.go:55", after := #[], guard := none }) (v := ?vk5) rfl (by kernel_rfl) (by kernel_rfl) (by kernel_rfl) (fun _ _ _ h => h) (Or.inl ⟨by rfl, ?hk5⟩) (RS.old ((Old.refl wr).drew) HRS.out) ?rk5
          case hk5 => (intro wz hSw; (try dsimp only at hSw); go_simp; try with_reducible rfl)
          (try simp only [Act.put]); (try simp only [List.setIfInBounds_toArray]); (try simp only [List.set_cons_succ]); (try simp only [List.set_cons_zero])
          refine wpAnyH_take (i := 1) (oi := { dst := some 21, op := Op.unOp UnOp.not 4 (Operand.tmp 20), type := 4, pos := "ref.go:55", after := #[{ on := 0, ground := Ground.data }], guard := none }) (v := ?vk6) rfl (by kernel_rfl) (by kernel_rfl) (by kernel_rfl) (fun _ _ _ h => h) (Or.inl ⟨by rfl, ?hk6⟩) (RS.old ((Old.refl wr).drew) HRS.out) ?rk6
          case hk6 => (intro wz hSw; (try dsimp only at hSw); go_simp; try with_reducible rfl)
          (try simp only [Act.put]); (try simp only [List.setIfInBounds_toArray]); (try simp only [List.set_cons_succ]); (try simp only [List.set_cons_zero])
          refine wpAnyH_take (i := 2) (oi := { dst := some 22, op := Op.move (Operand.tmp 21), type := 4, pos := "ref.go:55", after := #[{ on := 1, ground := Ground.data }], guard := none }) (v := ?vk7) rfl (by kernel_rfl) (by kernel_rfl) (by kernel_rfl) (fun _ _ _ h => h) (Or.inl ⟨by rfl, ?hk7⟩) (RS.old ((Old.refl wr).drew) HRS.out) ?rk7
          case hk7 => (intro wz hSw; (try dsimp only at hSw); go_simp; try with_reducible rfl)
          (try simp only [Act.put]); (try simp only [List.setIfInBounds_toArray]); (try simp only [List.set_cons_succ]); (try simp only [List.set_cons_zero])
          refine wpAnyH_take (i := 3) (oi := { dst := some 23, op := Op.fieldAddr 51 (Operand.tmp 3) 0, type := 0, pos := "ref.go:55", after := #[{ on := 2, ground := Ground.guard }], guard := some (2, true) }) (v := ?vk8) rfl (by kernel_rfl) (by kernel_rfl) (by kernel_rfl) (fun _ _ _ h => h) (Or.inl ⟨by rfl, ?hk8⟩) (RS.old ((Old.refl wr).drew) HRS.out) ?rk8
          case hk8 => (intro wz hSw; (try dsimp only at hSw); go_simp; try with_reducible rfl)
          (try simp only [Act.put]); (try simp only [List.setIfInBounds_toArray]); (try simp only [List.set_cons_succ]); (try simp only [List.set_cons_zero])
          refine wpAnyH_take (i := 4) (oi := { dst := some 24, op := Op.load 9 (Operand.tmp 23), type := 9, pos := "ref.go:55", after := #[{ on := 3, ground := Ground.data }, { on := 2, ground := Ground.guard }], guard := some (2, true) }) (v := ?vk9) rfl (by kernel_rfl) (by kernel_rfl) (by kernel_rfl) (fun _ _ _ h => h) (Or.inl ⟨by rfl, ?hk9⟩) (RS.old ((Old.refl wr).drew) HRS.out) ?rk9
          case hk9 => (intro wz hSw; (try dsimp only at hSw); go_simp; try with_reducible rfl)
          (try simp only [Act.put]); (try simp only [List.setIfInBounds_toArray]); (try simp only [List.set_cons_succ]); (try simp only [List.set_cons_zero])
          refine wpAnyH_take (i := 5) (oi := { dst := some 25, op := Op.fieldAddr 32 (Operand.tmp 2) 0, type := 0, pos := "ref.go:55", after := #[{ on := 2, ground := Ground.guard }], guard := some (2, true) }) (v := ?vk10) rfl (by kernel_rfl) (by kernel_rfl) (by kernel_rfl) (fun _ _ _ h => h) (Or.inl ⟨by rfl, ?hk10⟩) (RS.old ((Old.refl wr).drew) HRS.out) ?rk10
          case hk10 => (intro wz hSw; (try dsimp only at hSw); go_simp; try with_reducible rfl)
          (try simp only [Act.put]); (try simp only [List.setIfInBounds_toArray]); (try simp only [List.set_cons_succ]); (try simp only [List.set_cons_zero])
          refine wpAnyH_take (i := 6) (oi := { dst := some 26, op := Op.load 30 (Operand.tmp 25), type := 30, pos := "ref.go:55", after := #[{ on := 5, ground := Ground.data }, { on := 2, ground := Ground.guard }], guard := some (2, true) }) (v := ?vk11) rfl (by kernel_rfl) (by kernel_rfl) (by kernel_rfl) (fun _ _ _ h => h) (Or.inl ⟨by rfl, ?hk11⟩) (RS.old ((Old.refl wr).drew) HRS.out) ?rk11
          case hk11 => (intro wz hSw; (try dsimp only at hSw); go_simp; try with_reducible rfl)
          (try simp only [Act.put]); (try simp only [List.setIfInBounds_toArray]); (try simp only [List.set_cons_succ]); (try simp only [List.set_cons_zero])
          refine wpAnyH_take (i := 7) (oi := { dst := some 27, op := Op.move (Operand.tmp 7), type := 3, pos := "ref.go:55", after := #[{ on := 2, ground := Ground.guard }], guard := some (2, true) }) (v := ?vk12) rfl (by kernel_rfl) (by kernel_rfl) (by kernel_rfl) (fun _ _ _ h => h) (Or.inl ⟨by rfl, ?hk12⟩) (RS.old ((Old.refl wr).drew) HRS.out) ?rk12
          case hk12 => (intro wz hSw; (try dsimp only at hSw); go_simp; try with_reducible rfl)
          (try simp only [Act.put]); (try simp only [List.setIfInBounds_toArray]); (try simp only [List.set_cons_succ]); (try simp only [List.set_cons_zero])
          refine wpAnyH_take (i := 8) (oi := { dst := some 28, op := Op.indexAddr 30 (Operand.tmp 26) (Operand.tmp 27), type := 0, pos := "ref.go:55", after := #[{ on := 6, ground := Ground.data }, { on := 7, ground := Ground.data }, { on := 2, ground := Ground.guard }], guard := some (2, true) }) (v := ?vk13) rfl (by kernel_rfl) (by kernel_rfl) (by kernel_rfl) (fun _ _ _ h => h) (Or.inl ⟨by rfl, ?hk13⟩) (RS.old ((Old.refl wr).drew) HRS.out) ?rk13
          case hk13 => (intro wz hSw; (try dsimp only at hSw); go_simp; try with_reducible rfl)
          (try simp only [Act.put]); (try simp only [List.setIfInBounds_toArray]); (try simp only [List.set_cons_succ]); (try simp only [List.set_cons_zero])
          refine wpAnyH_take (i := 9) (oi := { dst := some 29, op := Op.fieldAddr 51 (Operand.tmp 28) 0, type := 0, pos := "ref.go:55", after := #[{ on := 8, ground := Ground.data }, { on := 2, ground := Ground.guard }], guard := some (2, true) }) (v := ?vk14) rfl (by kernel_rfl) (by kernel_rfl) (by kernel_rfl) (fun _ _ _ h => h) (Or.inl ⟨by rfl, ?hk14⟩) (RS.old ((Old.refl wr).drew) HRS.out) ?rk14
          case hk14 => (intro wz hSw; (try dsimp only at hSw); go_simp; try with_reducible rfl)
          (try simp only [Act.put]); (try simp only [List.setIfInBounds_toArray]); (try simp only [List.set_cons_succ]); (try simp only [List.set_cons_zero])
          refine wpAnyH_take (i := 10) (oi := { dst := some 30, op := Op.load 9 (Operand.tmp 29), type := 9, pos := "ref.go:55", after := #[{ on := 9, ground := Ground.data }, { on := 2, ground := Ground.guard }], guard := some (2, true) }) (v := ?vk15) rfl (by kernel_rfl) (by kernel_rfl) (by kernel_rfl) (fun _ _ _ h => h) (Or.inl ⟨by rfl, ?hk15⟩) (RS.old ((Old.refl wr).drew) HRS.out) ?rk15
          case hk15 => (intro wz hSw; (try dsimp only at hSw); go_simp; try with_reducible rfl)
          (try simp only [Act.put]); (try simp only [List.setIfInBounds_toArray]); (try simp only [List.set_cons_succ]); (try simp only [List.set_cons_zero])
          refine wpAnyH_take (i := 11) (oi := { dst := some 31, op := Op.binOp BinOp.lss 9 (Operand.tmp 24) (Operand.tmp 30) 9, type := 4, pos := "ref.go:55", after := #[{ on := 4, ground := Ground.data }, { on := 10, ground := Ground.data }, { on := 2, ground := Ground.guard }], guard := some (2, true) }) (v := ?vk16) rfl (by kernel_rfl) (by kernel_rfl) (by kernel_rfl) (fun _ _ _ h => h) (Or.inl ⟨by rfl, ?hk16⟩) (RS.old ((Old.refl wr).drew) HRS.out) ?rk16
          case hk16 => (intro wz hSw; (try dsimp only at hSw); go_simp; try with_reducible rfl)
          (try simp only [Act.put]); (try simp only [List.setIfInBounds_toArray]); (try simp only [List.set_cons_succ]); (try simp only [List.set_cons_zero])
          refine wpAnyH_take (i := 12) (oi := { dst := some 32, op := Op.pick (Operand.tmp 22) (Operand.tmp 31) (Operand.const (Value.bool false)), type := 4, pos := "ref.go:55", after := #[{ on := 2, ground := Ground.data }, { on := 11, ground := Ground.data }], guard := none }) (v := ?vk17) rfl (by kernel_rfl) (by kernel_rfl) (by kernel_rfl) (fun _ _ _ h => h) (Or.inl ⟨by rfl, ?hk17⟩) (RS.old ((Old.refl wr).drew) HRS.out) ?rk17
          case hk17 => (intro wz hSw; (try dsimp only at hSw); go_simp; try with_reducible rfl)
          (try simp only [Act.put]); (try simp only [List.setIfInBounds_toArray]); (try simp only [List.set_cons_succ]); (try simp only [List.set_cons_zero])
          refine wpAnyH_done (by kernel_rfl) ?_ _
          refine NoPanic.normal ?_
          have q0 := ((Old.refl wr).drew).keep k0
          have q1 := ((Old.refl wr).drew).keep k1
          have q2 := ((Old.refl wr).drew).keep k2
          have r0 := ((Old.refl wr).drew).keep x0
          have s0 := ((Old.refl wr).drew).keep f0
          have s1 := ((Old.refl wr).drew).keep f1
          have s2 := ((Old.refl wr).drew).keep f2
          have UX := hid (HU1.out.trans ((Old.refl wr).drew))
          have OX := hid (HO1.out.old ((Old.refl wr).drew))
          clear k0 k1 k2 x0 x1 x2 xf0 xf1 xf2 f0 f1 f2 HRS HO1 HU1
          generalize World.drew wr = wx at *
          go_upto_region 10 with (at_builtin; refine wp_appR rfl (.tmp 33) (.tmp 35) rfl bs _ (Z.take i) _ ff rfl rfl (OX.out.old ((Old.refl _).alloc _)) (by rw [HFc.out.1, HFc.out.2.1, HFc.out.2.2.1, HFc.out.2.2.2.1, HFc.out.2.2.2.2.1, HFc.out.2.2.2.2.2.1, HFc.out.2.2.2.2.2.2, ← HNl.out, ← HSl.out]; exact alloc_at _ _) (by have := HLm.out; omega) (by have := UX.out.size; have := HBs.out; simp; omega) ?_; intro v5 w5 o5 ch5; have O5 := hid o5; have C5 := hid ch5; clear o5 ch5)
          have U5 := hid (show Old w2 w5 from C5.out.oldOf (UX.out.alloc _) (fun k hk => by have := (OX.out.lt k (Option.mem_toList.1 hk)).1; have := HBs.out; omega))
          obtain ⟨a5, c5, e5⟩ := O5.out.len
          have hl5 : (Z.take i ++ [ff]).length = m + 1 := by rw [List.length_append, ← HM.out]; rfl
          rw [hl5] at e5
          subst e5
          have HL5 := hid hl5
          clear hl5 r0 q0 q1 q2 s0 s1 s2
          obtain ⟨x0, x1, x2, -, -, -⟩ := box3 (U5.out.block C0.out)
          have q0 := U5.out.keep HK0.out
          have q1 := U5.out.keep HK1.out
          have q2 := U5.out.keep HK2.out
          go_wp2_with (at_builtin; refine wp_appR rfl (.tmp 37) (.tmp 43) rfl bs _ (Z.take i ++ [ff]) _ y rfl rfl (O5.out.old ((Old.refl _).alloc _)) (by rw [← HNm.out]; exact alloc_at _ _) (by have := HL5.out; have := HLm.out; have := HM.out; omega) (by have := U5.out.size; have := HBs.out; simp; omega) ?_; intro v6 w6 o6 ch6; have O6 := hid o6; have C6 := hid ch6; clear o6 ch6)
          rw [HT.out] at O6
          obtain ⟨a6, c6, e6⟩ := O6.out.len
          have hl6 : (outY ff (Z.take (i + 1)) true).length = m + 1 + 1 := by rw [← HT.out, List.length_append, HL5.out]; rfl
          rw [hl6] at e6
          subst e6
          have HL6 := hid hl6
          clear hl6
          go_roundw
          case rel => exact ⟨i + 1, m + 1 + 1, a6, c6, true, hlt, by go_num, rfl, rfl, HD2.out, HL6.out.symm, O6.out, C6.out.oldOf (U5.out.alloc _) (fun k hk => by have := (O5.out.lt k (Option.mem_toList.1 hk)).1; have := HBs.out; omega)⟩
          case measure => simp [intOf]; omega
        · have cl2 : Op.bytesLess fn.toList nm.toList = false := by simpa using cl
          have HT := hid (show Z.take i ++ [y] = outY ff (Z.take (i + 1)) false from by rw [HTk.out]; unfold outY; rw [if_neg (by simp)])
          have HD2 := hid (show false = (Z.take (i + 1)).any (lsF ff) from by rw [HA.out, HLf.out, cl2, ← HD.out]; rfl)
          clear HA HD HLf cl
          go_upto_region 7 with (fail)
          refine wp_region_noPanic ?_
          refine wp_region_held_drew (S := fun wz => wz.cell? ⟨g1, 0, none⟩ = some (.string fn) ∧ wz.cell? ⟨g0, 0, none⟩ = some (.slice (some ⟨gy, 0, none⟩) n1 c1) ∧ wz.cell? ⟨gy, i * 3, none⟩ = some (.string nm)) (by kernel_rfl) ?_ (fun hHeld => ?_)
          · exact (RS.old ((Old.refl wr).drew) HRS.out)
          (try simp only [Act.put]); (try simp only [List.setIfInBounds_toArray]); (try simp only [List.set_cons_succ]); (try simp only [List.set_cons_zero])
          clear hHeld
          refine wpAnyH_take (i := 0) (oi := { dst := some 20, op := Op.move (Operand.tmp 6), type := 4, pos := "ref.go:55", after := #[], guard := none }) (v := ?vk18) rfl (by kernel_rfl) (by kernel_rfl) (by kernel_rfl) (fun _ _ _ h => h) (Or.inl ⟨by rfl, ?hk18⟩) (RS.old ((Old.refl wr).drew) HRS.out) ?rk18
          case hk18 => (intro wz hSw; (try dsimp only at hSw); go_simp; try with_reducible rfl)
          (try simp only [Act.put]); (try simp only [List.setIfInBounds_toArray]); (try simp only [List.set_cons_succ]); (try simp only [List.set_cons_zero])
          refine wpAnyH_take (i := 1) (oi := { dst := some 21, op := Op.unOp UnOp.not 4 (Operand.tmp 20), type := 4, pos := "ref.go:55", after := #[{ on := 0, ground := Ground.data }], guard := none }) (v := ?vk19) rfl (by kernel_rfl) (by kernel_rfl) (by kernel_rfl) (fun _ _ _ h => h) (Or.inl ⟨by rfl, ?hk19⟩) (RS.old ((Old.refl wr).drew) HRS.out) ?rk19
          case hk19 => (intro wz hSw; (try dsimp only at hSw); go_simp; try with_reducible rfl)
          (try simp only [Act.put]); (try simp only [List.setIfInBounds_toArray]); (try simp only [List.set_cons_succ]); (try simp only [List.set_cons_zero])
          refine wpAnyH_take (i := 2) (oi := { dst := some 22, op := Op.move (Operand.tmp 21), type := 4, pos := "ref.go:55", after := #[{ on := 1, ground := Ground.data }], guard := none }) (v := ?vk20) rfl (by kernel_rfl) (by kernel_rfl) (by kernel_rfl) (fun _ _ _ h => h) (Or.inl ⟨by rfl, ?hk20⟩) (RS.old ((Old.refl wr).drew) HRS.out) ?rk20
          case hk20 => (intro wz hSw; (try dsimp only at hSw); go_simp; try with_reducible rfl)
          (try simp only [Act.put]); (try simp only [List.setIfInBounds_toArray]); (try simp only [List.set_cons_succ]); (try simp only [List.set_cons_zero])
          refine wpAnyH_take (i := 3) (oi := { dst := some 23, op := Op.fieldAddr 51 (Operand.tmp 3) 0, type := 0, pos := "ref.go:55", after := #[{ on := 2, ground := Ground.guard }], guard := some (2, true) }) (v := ?vk21) rfl (by kernel_rfl) (by kernel_rfl) (by kernel_rfl) (fun _ _ _ h => h) (Or.inl ⟨by rfl, ?hk21⟩) (RS.old ((Old.refl wr).drew) HRS.out) ?rk21
          case hk21 => (intro wz hSw; (try dsimp only at hSw); go_simp; try with_reducible rfl)
          (try simp only [Act.put]); (try simp only [List.setIfInBounds_toArray]); (try simp only [List.set_cons_succ]); (try simp only [List.set_cons_zero])
          refine wpAnyH_take (i := 4) (oi := { dst := some 24, op := Op.load 9 (Operand.tmp 23), type := 9, pos := "ref.go:55", after := #[{ on := 3, ground := Ground.data }, { on := 2, ground := Ground.guard }], guard := some (2, true) }) (v := ?vk22) rfl (by kernel_rfl) (by kernel_rfl) (by kernel_rfl) (fun _ _ _ h => h) (Or.inl ⟨by rfl, ?hk22⟩) (RS.old ((Old.refl wr).drew) HRS.out) ?rk22
          case hk22 => (intro wz hSw; (try dsimp only at hSw); go_simp; try with_reducible rfl)
          (try simp only [Act.put]); (try simp only [List.setIfInBounds_toArray]); (try simp only [List.set_cons_succ]); (try simp only [List.set_cons_zero])
          refine wpAnyH_take (i := 5) (oi := { dst := some 25, op := Op.fieldAddr 32 (Operand.tmp 2) 0, type := 0, pos := "ref.go:55", after := #[{ on := 2, ground := Ground.guard }], guard := some (2, true) }) (v := ?vk23) rfl (by kernel_rfl) (by kernel_rfl) (by kernel_rfl) (fun _ _ _ h => h) (Or.inl ⟨by rfl, ?hk23⟩) (RS.old ((Old.refl wr).drew) HRS.out) ?rk23
          case hk23 => (intro wz hSw; (try dsimp only at hSw); go_simp; try with_reducible rfl)
          (try simp only [Act.put]); (try simp only [List.setIfInBounds_toArray]); (try simp only [List.set_cons_succ]); (try simp only [List.set_cons_zero])
          refine wpAnyH_take (i := 6) (oi := { dst := some 26, op := Op.load 30 (Operand.tmp 25), type := 30, pos := "ref.go:55", after := #[{ on := 5, ground := Ground.data }, { on := 2, ground := Ground.guard }], guard := some (2, true) }) (v := ?vk24) rfl (by kernel_rfl) (by kernel_rfl) (by kernel_rfl) (fun _ _ _ h => h) (Or.inl ⟨by rfl, ?hk24⟩) (RS.old ((Old.refl wr).drew) HRS.out) ?rk24
          case hk24 => (intro wz hSw; (try dsimp only at hSw); go_simp; try with_reducible rfl)
          (try simp only [Act.put]); (try simp only [List.setIfInBounds_toArray]); (try simp only [List.set_cons_succ]); (try simp only [List.set_cons_zero])
          refine wpAnyH_take (i := 7) (oi := { dst := some 27, op := Op.move (Operand.tmp 7), type := 3, pos := "ref.go:55", after := #[{ on := 2, ground := Ground.guard }], guard := some (2, true) }) (v := ?vk25) rfl (by kernel_rfl) (by kernel_rfl) (by kernel_rfl) (fun _ _ _ h => h) (Or.inl ⟨by rfl, ?hk25⟩) (RS.old ((Old.refl wr).drew) HRS.out) ?rk25
          case hk25 => (intro wz hSw; (try dsimp only at hSw); go_simp; try with_reducible rfl)
          (try simp only [Act.put]); (try simp only [List.setIfInBounds_toArray]); (try simp only [List.set_cons_succ]); (try simp only [List.set_cons_zero])
          refine wpAnyH_take (i := 8) (oi := { dst := some 28, op := Op.indexAddr 30 (Operand.tmp 26) (Operand.tmp 27), type := 0, pos := "ref.go:55", after := #[{ on := 6, ground := Ground.data }, { on := 7, ground := Ground.data }, { on := 2, ground := Ground.guard }], guard := some (2, true) }) (v := ?vk26) rfl (by kernel_rfl) (by kernel_rfl) (by kernel_rfl) (fun _ _ _ h => h) (Or.inl ⟨by rfl, ?hk26⟩) (RS.old ((Old.refl wr).drew) HRS.out) ?rk26
          case hk26 => (intro wz hSw; (try dsimp only at hSw); go_simp; try with_reducible rfl)
          (try simp only [Act.put]); (try simp only [List.setIfInBounds_toArray]); (try simp only [List.set_cons_succ]); (try simp only [List.set_cons_zero])
          refine wpAnyH_take (i := 9) (oi := { dst := some 29, op := Op.fieldAddr 51 (Operand.tmp 28) 0, type := 0, pos := "ref.go:55", after := #[{ on := 8, ground := Ground.data }, { on := 2, ground := Ground.guard }], guard := some (2, true) }) (v := ?vk27) rfl (by kernel_rfl) (by kernel_rfl) (by kernel_rfl) (fun _ _ _ h => h) (Or.inl ⟨by rfl, ?hk27⟩) (RS.old ((Old.refl wr).drew) HRS.out) ?rk27
          case hk27 => (intro wz hSw; (try dsimp only at hSw); go_simp; try with_reducible rfl)
          (try simp only [Act.put]); (try simp only [List.setIfInBounds_toArray]); (try simp only [List.set_cons_succ]); (try simp only [List.set_cons_zero])
          refine wpAnyH_take (i := 10) (oi := { dst := some 30, op := Op.load 9 (Operand.tmp 29), type := 9, pos := "ref.go:55", after := #[{ on := 9, ground := Ground.data }, { on := 2, ground := Ground.guard }], guard := some (2, true) }) (v := ?vk28) rfl (by kernel_rfl) (by kernel_rfl) (by kernel_rfl) (fun _ _ _ h => h) (Or.inl ⟨by rfl, ?hk28⟩) (RS.old ((Old.refl wr).drew) HRS.out) ?rk28
          case hk28 => (intro wz hSw; (try dsimp only at hSw); go_simp; try with_reducible rfl)
          (try simp only [Act.put]); (try simp only [List.setIfInBounds_toArray]); (try simp only [List.set_cons_succ]); (try simp only [List.set_cons_zero])
          refine wpAnyH_take (i := 11) (oi := { dst := some 31, op := Op.binOp BinOp.lss 9 (Operand.tmp 24) (Operand.tmp 30) 9, type := 4, pos := "ref.go:55", after := #[{ on := 4, ground := Ground.data }, { on := 10, ground := Ground.data }, { on := 2, ground := Ground.guard }], guard := some (2, true) }) (v := ?vk29) rfl (by kernel_rfl) (by kernel_rfl) (by kernel_rfl) (fun _ _ _ h => h) (Or.inl ⟨by rfl, ?hk29⟩) (RS.old ((Old.refl wr).drew) HRS.out) ?rk29
          case hk29 => (intro wz hSw; (try dsimp only at hSw); go_simp; try with_reducible rfl)
          (try simp only [Act.put]); (try simp only [List.setIfInBounds_toArray]); (try simp only [List.set_cons_succ]); (try simp only [List.set_cons_zero])
          refine wpAnyH_take (i := 12) (oi := { dst := some 32, op := Op.pick (Operand.tmp 22) (Operand.tmp 31) (Operand.const (Value.bool false)), type := 4, pos := "ref.go:55", after := #[{ on := 2, ground := Ground.data }, { on := 11, ground := Ground.data }], guard := none }) (v := ?vk30) rfl (by kernel_rfl) (by kernel_rfl) (by kernel_rfl) (fun _ _ _ h => h) (Or.inl ⟨by rfl, ?hk30⟩) (RS.old ((Old.refl wr).drew) HRS.out) ?rk30
          case hk30 => (intro wz hSw; (try dsimp only at hSw); go_simp; try with_reducible rfl)
          (try simp only [Act.put]); (try simp only [List.setIfInBounds_toArray]); (try simp only [List.set_cons_succ]); (try simp only [List.set_cons_zero])
          refine wpAnyH_done (by kernel_rfl) ?_ _
          refine NoPanic.normal ?_
          have q0 := ((Old.refl wr).drew).keep k0
          have q1 := ((Old.refl wr).drew).keep k1
          have q2 := ((Old.refl wr).drew).keep k2
          have r0 := ((Old.refl wr).drew).keep x0
          have s0 := ((Old.refl wr).drew).keep f0
          have s1 := ((Old.refl wr).drew).keep f1
          have s2 := ((Old.refl wr).drew).keep f2
          have UX := hid (HU1.out.trans ((Old.refl wr).drew))
          have OX := hid (HO1.out.old ((Old.refl wr).drew))
          clear k0 k1 k2 x0 x1 x2 xf0 xf1 xf2 f0 f1 f2 HRS HO1 HU1
          generalize World.drew wr = wx at *
          go_wp2_with (at_builtin; refine wp_appR rfl (.tmp 37) (.tmp 43) rfl bs _ (Z.take i) _ y rfl rfl (OX.out.old ((Old.refl _).alloc _)) (by rw [← HNm.out]; exact alloc_at _ _) (by have := HLm.out; omega) (by have := UX.out.size; have := HBs.out; simp; omega) ?_; intro v6 w6 o6 ch6; have O6 := hid o6; have C6 := hid ch6; clear o6 ch6)
          rw [HT.out] at O6
          obtain ⟨a6, c6, e6⟩ := O6.out.len
          have hl6 : (outY ff (Z.take (i + 1)) false).length = m + 1 := by rw [← HT.out, List.length_append, ← HM.out]; rfl
          rw [hl6] at e6
          subst e6
          have HL6 := hid hl6
          clear hl6
          go_roundw
          case rel => exact ⟨i + 1, m + 1, a6, c6, false, hlt, by go_num, rfl, rfl, HD2.out, HL6.out.symm, O6.out, C6.out.oldOf (UX.out.alloc _) (fun k hk => by have := (OX.out.lt k (Option.mem_toList.1 hk)).1; have := HBs.out; omega)⟩
          case measure => simp [intOf]; omega
    · obtain rfl : i = n1 := by omega
      have l3 : ¬ (i : Int) < (i : Int) := by omega
      have HE := hid (show Z.take i = Z from by rw [HN1.out, List.take_length])
      rw [HE.out] at HO1 HM HD HLm
      clear hlt hi
      cases d with
      | true =>
        have HX := hid (show outY ff Z true = insY ff Z from rfl)
        rw [HX.out] at HO1 HM
        have B2 := hid (HU1.out.block C2.out)
        have B0 := hid (HU1.out.block C0.out)
        have HZ2 := hid (show ∀ z ∈ insY ff Z, FiAt w z from fun z hz => by rcases insY_mem hz with e | e; rw [e]; exact HF.out; exact HZm.out z e)
        have HMe := hid HM.out
        have HUf := hid (show Old w (((((wr).setCell ⟨g0, 0, none⟩ (.slice a (m) cp)).setCell ⟨g2, 0, none⟩ (.slice a (m) cp)).setCell ⟨g2, 1, none⟩ (.bool dn)).setCell ⟨g2, 2, none⟩ (.int .i64 fu)) from (((CU.out.trans HU1.out).setCell (p := ⟨g0, 0, none⟩) HLt.out.1 _)).set3 HLt.out.2.1)
        have HFin := hid (doc_fin HO1.out (chg04 wr g0 g2 (.slice a (m) cp) (.slice a (m) cp) (.bool dn) (.int .i64 fu)) ⟨HLs.out.2.1, HLs.out.2.2.2⟩ HUf.out HLs.out.1 HZ2.out)
        have t1 := Go.Joins.block_setCell B0.out (.slice a (m) cp) (i := 0)
        have t2 := set_other (b := g0) (i := 0) (v := .slice a (m) cp) B2.out n20
        obtain ⟨p0, p1, p2, -, -, -⟩ := box3 t1
        obtain ⟨e0, e1, e2, ef0, ef1, ef2⟩ := box3 t2
        obtain ⟨z0, z1, z2, -, -, -⟩ := box3 (box3_set (p := .slice a (m) cp) (q := .bool dn) (r := .int .i64 fu) t2)
        clear t1 t2
        go_wp2
        refine bodyPost_ret (v := .agg #[.slice a (m) cp, .bool dn, .int .i64 fu]) (by simp [results, Tryz.results49, go_sem, z0, z1, z2]) rfl ?_
        refine ⟨a, cp, by rw [HMe.out], ?_, HUf.out, ?_⟩
        · rw [← HMe.out]; exact HFin.out.1
        · rw [← HMe.out]; exact HFin.out.2
      | false =>
        have HX := hid (show outY ff Z false = Z from rfl)
        rw [HX.out] at HO1 HM HLm
        go_upto_region 13 with (at_builtin; refine wp_appR rfl (.tmp 47) (.tmp 49) rfl bs _ Z _ ff rfl rfl (HO1.out.old ((Old.refl _).alloc _)) (by rw [HFc.out.1, HFc.out.2.1, HFc.out.2.2.1, HFc.out.2.2.2.1, HFc.out.2.2.2.2.1, HFc.out.2.2.2.2.2.1, HFc.out.2.2.2.2.2.2, ← HNl.out, ← HSl.out]; exact alloc_at _ _) (by have := HLm.out; omega) (by have := HU1.out.size; have := HBs.out; simp; omega) ?_; intro v5 w5 o5 ch5; have O5 := hid o5; have C5 := hid ch5; clear o5 ch5)
        have U5 := hid (show Old w2 w5 from C5.out.oldOf (HU1.out.alloc _) (fun k hk => by have := (HO1.out.lt k (Option.mem_toList.1 hk)).1; have := HBs.out; omega))
        rw [← insY_none ff Z HD.out.symm] at O5
        obtain ⟨a5, c5, e5⟩ := O5.out.len
        have hl5 : (insY ff Z).length = m + 1 := by rw [insY_len, ← HM.out]
        rw [hl5] at e5
        subst e5
        have HMe := hid hl5.symm
        clear hl5 x0 x1 x2 xf0 xf1 xf2 f0 f1 f2
        have B2 := hid (U5.out.block C2.out)
        have B0 := hid (U5.out.block C0.out)
        have HZ2 := hid (show ∀ z ∈ insY ff Z, FiAt w z from fun z hz => by rcases insY_mem hz with e | e; rw [e]; exact HF.out; exact HZm.out z e)
        obtain ⟨x0, x1, x2, xf0, xf1, xf2⟩ := box3 B0.out
        have HUf := hid (show Old w (((((w5).setCell ⟨g0, 0, none⟩ (.slice a5 (m + 1) c5)).setCell ⟨g2, 0, none⟩ (.slice a5 (m + 1) c5)).setCell ⟨g2, 1, none⟩ (.bool dn)).setCell ⟨g2, 2, none⟩ (.int .i64 fu)) from (((CU.out.trans U5.out).setCell (p := ⟨g0, 0, none⟩) HLt.out.1 _)).set3 HLt.out.2.1)
        have HFin := hid (doc_fin O5.out (chg04 w5 g0 g2 (.slice a5 (m + 1) c5) (.slice a5 (m + 1) c5) (.bool dn) (.int .i64 fu)) ⟨HLs.out.2.1, HLs.out.2.2.2⟩ HUf.out HLs.out.1 HZ2.out)
        have t1 := Go.Joins.block_setCell B0.out (.slice a5 (m + 1) c5) (i := 0)
        have t2 := set_other (b := g0) (i := 0) (v := .slice a5 (m + 1) c5) B2.out n20
        obtain ⟨p0, p1, p2, -, -, -⟩ := box3 t1
        obtain ⟨e0, e1, e2, ef0, ef1, ef2⟩ := box3 t2
        obtain ⟨z0, z1, z2, -, -, -⟩ := box3 (box3_set (p := .slice a5 (m + 1) c5) (q := .bool dn) (r := .int .i64 fu) t2)
        clear t1 t2
        go_wp2
        refine bodyPost_ret (v := .agg #[.slice a5 (m + 1) c5, .bool dn, .int .i64 fu]) (by simp [results, Tryz.results49, go_sem, z0, z1, z2]) rfl ?_
        refine ⟨a5, c5, by rw [HMe.out], ?_, HUf.out, ?_⟩
        · rw [← HMe.out]; exact HFin.out.1
        · rw [← HMe.out]; exact HFin.out.2
end Go.Proofs.YtfphopleniidfaaGreatDoor
