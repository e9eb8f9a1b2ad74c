/- The document's Without and With of layer 5; conditions: the rows lie in memory. -/
import Derived.Test.YtfphopleniidfaaGreatDoorQ5b
namespace Go.Proofs.YtfphopleniidfaaGreatDoor
open Go.RowKit Go.Lib
set_option linter.unusedVariables false
set_option linter.unusedSimpArgs false
set_option maxRecDepth 20000
/-- The document's disk as a value. -/
def DPost (W : World) (Z : List Fi) (dn : Bool) (fu : Int) (e : Ending) (w' : World) : Prop := ∃ a c, e = .returned (.agg #[.slice a (List.length Z) c, .bool dn, .int .i64 fu]) ∧ DocAt w' (.slice a Z.length c) Z ∧ Old W w' ∧ ∀ g, (Value.slice a Z.length c).ownBlock = some g → W.heap.size ≤ g
def delY (Y : List Fi) (s : ByteArray) : List Fi := Y.filter fun y => decide (y.nm ≠ s)
theorem delY_yes (Y : List Fi) (s : ByteArray) (i : Nat) (h : i < Y.length) (c : Y[i].nm = s) : delY (Y.take (i + 1)) s = delY (Y.take i) s := by
  rw [(List.take_append_getElem h).symm]
  unfold delY
  rw [List.filter_append]
  simp [c]
theorem delY_no (Y : List Fi) (s : ByteArray) (i : Nat) (h : i < Y.length) (c : Y[i].nm ≠ s) : delY (Y.take (i + 1)) s = delY (Y.take i) s ++ [Y[i]] := by
  rw [(List.take_append_getElem h).symm]
  unfold delY
  rw [List.filter_append]
  simp [c]
theorem delY_le (Y : List Fi) (s : ByteArray) (i : Nat) : (delY (Y.take i) s).length ≤ Y.length := Nat.le_trans (List.length_filter_le _ _) (by rw [List.length_take]; omega)
theorem delY_len (Y : List Fi) (s : ByteArray) : (delY Y s).length ≤ Y.length := List.length_filter_le _ _
/-- Two boxes are written behind a row was made. -/
theorem doc_fin {W wr w' : World} {base b0 b4 : Nat} {v : Value} {Z : List Fi} (hO : OwnR base wr v Z) (ch : Chg [b0, b4] wr w') (hb : b0 < base ∧ b4 < base) (u : Old W w') (hW : W.heap.size ≤ base) (hZ : ∀ z ∈ Z, FiAt W z) : DocAt w' v Z ∧ ∀ g, v.ownBlock = some g → W.heap.size ≤ g :=
  ⟨⟨(hO.chg ch (fun g e k => by have := (hO.lt g e).1; simp at k; omega)).mono (Nat.zero_le _), fun z hz => (hZ z hz).old u⟩, fun g e => by have := (hO.lt g e).1; omega⟩
theorem chg04 (w : World) (b0 b4 : Nat) (v p q r : Value) : Chg [b0, b4] w ((((w.setCell ⟨b0, 0, none⟩ v).setCell ⟨b4, 0, none⟩ p).setCell ⟨b4, 1, none⟩ q).setCell ⟨b4, 2, none⟩ r) :=
  (Chg.set (S := [b0, b4]) w ⟨b0, 0, none⟩ v (by simp)).trans ((chg3 _ b4 p q r).mono (fun k hk _ => by simp at hk; simp [hk]))
set_option maxHeartbeats 4000000 in
set_option maxRecDepth 20000 in
theorem rwithout_any (ya : Option Addr) (yc : Nat) (Y : List Fi) (dn : Bool) (fu : Int) (s : ByteArray) (w : World) (h : DocAt w (.slice ya Y.length yc) Y) (hl : Y.length ≤ 1000) : Calls Tryz.prog 50 #[.agg #[.slice ya Y.length yc, .bool dn, .int .i64 fu], .string s] w (DPost w (delY Y s) dn fu) := by
  have HY := hid h
  have HL := hid hl
  have HLe := hid (delY_le Y s)
  obtain ⟨n, hn⟩ : ∃ n, n = Y.length := ⟨_, rfl⟩
  have HN := hid hn
  rw [← hn] at HY HL HLe ⊢
  have l9 : (n : Int) ≤ 1000 := by omega
  clear h hl hn
  go_enter Tryz.func50, Tryz.ntmps50
  go_upto_region 1 with (fail)
  have HU := hid (show Old w ((w.alloc (.cells #[.slice ya n yc, .bool dn, .int .i64 fu] 32)).alloc (.cells #[.slice none 0 0, .bool false, .int .i64 0] 32)) from ((Old.refl w).alloc _).alloc _)
  have HB0 := hid (show ((w.alloc (.cells #[.slice ya n yc, .bool dn, .int .i64 fu] 32)).alloc (.cells #[.slice none 0 0, .bool false, .int .i64 0] 32)).heap[w.heap.size]? = some (.cells #[.slice ya n yc, .bool dn, .int .i64 fu] 32 (0, 0)) from alloc_keep (alloc_at w _))
  have HB1 := hid (show ((w.alloc (.cells #[.slice ya n yc, .bool dn, .int .i64 fu] 32)).alloc (.cells #[.slice none 0 0, .bool false, .int .i64 0] 32)).heap[w.heap.size + 1]? = some (.cells #[.slice none 0 0, .bool false, .int .i64 0] 32 (0, 0)) from by have := alloc_at (w.alloc (.cells #[.slice ya n yc, .bool dn, .int .i64 fu] 32)) (.cells #[.slice none 0 0, .bool false, .int .i64 0] 32); simpa using this)
  have HS := hid (show ((w.alloc (.cells #[.slice ya n yc, .bool dn, .int .i64 fu] 32)).alloc (.cells #[.slice none 0 0, .bool false, .int .i64 0] 32)).heap.size = w.heap.size + 1 + 1 from by simp)
  generalize (w.alloc (.cells #[.slice ya n yc, .bool dn, .int .i64 fu] 32)).alloc (.cells #[.slice none 0 0, .bool false, .int .i64 0] 32) = w0 at *
  obtain ⟨g0, hg0⟩ : ∃ g0, g0 = w.heap.size := ⟨_, rfl⟩
  obtain ⟨g1, hg1⟩ : ∃ g1, g1 = w.heap.size + 1 := ⟨_, rfl⟩
  have HLt := hid (show w.heap.size ≤ g0 ∧ w.heap.size ≤ g1 ∧ g0 < w0.heap.size ∧ g1 < w0.heap.size ∧ w.heap.size ≤ w0.heap.size from by have := HS.out; omega)
  have n01 : g0 ≠ g1 := by omega
  have n10 : g1 ≠ g0 := by omega
  rw [← hg0] at HB0
  rw [← hg1] at HB1
  rw [← hg1, ← hg0]
  clear hg0 hg1 HS
  go_upto_region 2 with (fail)
  have HO := hid (OwnR.empty w0 w0.heap.size rfl)
  have HU0 := hid (show Old w0 (w0.alloc (.cells #[] 51)) from (Old.refl w0).alloc _)
  generalize w0.alloc (.cells #[] 51) = wa at *
  obtain ⟨g2, hg2⟩ : ∃ g2, g2 = w0.heap.size := ⟨_, rfl⟩
  obtain ⟨bs, hbs⟩ : ∃ bs, bs = w0.heap.size := ⟨_, rfl⟩
  have HO2 := hid (show OwnR bs wa (.slice (some ⟨g2, 0, none⟩) 0 0) [] from by rw [hg2, hbs]; exact HO.out)
  rw [← hg2]
  rw [← hbs] at HLt
  have HBs := hid hbs
  clear hg2 hbs HO
  go_wp2
  go_loopw [5, 6] (fun us c wr => ∃ (i m : Nat) (a : Option Addr) (cp : Nat), i ≤ n ∧ c = .int .i64 (i : Nat) ∧ us = .slice a m cp ∧ m = (delY (Y.take i) s).length ∧ OwnR bs wr (.slice a m cp) (delY (Y.take i) s) ∧ Old w0 wr) (fun _ c _ => n - (intOf c).toNat)
  case atStart => exact ⟨0, 0, _, _, Nat.zero_le _, rfl, rfl, rfl, by simpa [delY] using HO2.out, HU0.out⟩
  case round =>
    obtain ⟨i, m, a, cp, hi, rfl, rfl, hm, hO, hU⟩ := hrel
    have HO1 := hid hO
    have HU1 := hid hU
    have HM := hid hm
    have HLm := hid (HLe.out i)
    clear hO hU hm HO2
    obtain ⟨x0, x1, x2, xf0, xf1, xf2⟩ := box3 (HU1.out.block HB0.out)
    by_cases hlt : i < n
    · have hil : i < Y.length := by rw [← HN.out]; exact hlt
      obtain ⟨gy, cy, qy, hyc, hym, ⟨y0, y1, y2⟩⟩ := HY.out.row.at i hil
      obtain ⟨ey, -, ec⟩ := Value.slice.inj qy
      subst ey ec
      have k0 := (HU.out.trans HU1.out).keep y0
      have k1 := (HU.out.trans HU1.out).keep y1
      have k2 := (HU.out.trans HU1.out).keep y2
      have l2 : (0 : Int) ≤ (i : Int) := by omega
      have l3 : (i : Int) < (n : Int) := by omega
      rw [← HN.out] at hyc
      clear y0 y1 y2 qy
      by_cases cs : Y[i].nm = s
      · have HT := hid (delY_yes Y s i hil cs)
        rw [cs] at k0
        clear cs hil k1 k2
        go_wp2
        go_roundw
        case rel => exact ⟨i + 1, m, a, cp, hlt, by go_num, rfl, by rw [HT.out]; exact HM.out, by rw [HT.out]; exact HO1.out, HU1.out⟩
        case measure => simp [intOf]; omega
      · have c1 := str_ne cs
        have c2 := str_ne' cs
        have HT := hid (delY_no Y s i hil cs)
        clear cs
        generalize Y[i] = y at *
        clear hil
        go_wp2_with (at_builtin; refine wp_appR rfl (.tmp 23) (.tmp 29) rfl bs _ (delY (Y.take i) s) _ y rfl rfl (HO1.out.old ((Old.refl wr).alloc _)) (alloc_at wr _) (by have := HLm.out; have := HL.out; omega) (by have := HU1.out.size; have := HBs.out; simp; omega) ?_; intro v6 w6 o6 ch6; have O6 := hid o6; have C6 := hid ch6; clear o6 ch6)
        rw [← HT.out] at O6
        obtain ⟨a6, c6, e6⟩ := O6.out.len
        have hl6 : (delY (Y.take (i + 1)) s).length = m + 1 := by rw [HT.out, List.length_append, ← HM.out]; rfl
        rw [hl6] at e6
        subst e6
        have HL6 := hid hl6
        clear hl6
        go_roundw
        case rel => exact ⟨i + 1, m + 1, a6, c6, hlt, by go_num, rfl, HL6.out.symm, O6.out, C6.out.oldOf (HU1.out.alloc _) (fun k hk => by have := (HO1.out.lt k (Option.mem_toList.1 hk)).1; have := HBs.out; omega)⟩
        case measure => simp [intOf]; omega
    · obtain rfl : i = n := by omega
      have l3 : ¬ (i : Int) < (i : Int) := by omega
      have HE := hid (show Y.take i = Y from by rw [HN.out, List.take_length])
      rw [HE.out] at HO1 HM
      clear hlt hi
      have B1 := hid (HU1.out.block HB1.out)
      have B0 := hid (HU1.out.block HB0.out)
      have HZ := hid (show ∀ z ∈ delY Y s, FiAt w z from fun z hz => HY.out.byt z (List.mem_filter.1 hz).1)
      have HUf := hid (show Old w ((((wr.setCell ⟨g0, 0, none⟩ (.slice a m cp)).setCell ⟨g1, 0, none⟩ (.slice a m cp)).setCell ⟨g1, 1, none⟩ (.bool dn)).setCell ⟨g1, 2, none⟩ (.int .i64 fu)) from (((HU.out.trans HU1.out).setCell (p := ⟨g0, 0, none⟩) HLt.out.1 _)).set3 HLt.out.2.1)
      have HFin := hid (doc_fin HO1.out (chg04 wr g0 g1 (.slice a m cp) (.slice a m cp) (.bool dn) (.int .i64 fu)) ⟨HLt.out.2.2.1, HLt.out.2.2.2.1⟩ HUf.out HLt.out.2.2.2.2 HZ.out)
      have s1 := Go.Joins.block_setCell B0.out (.slice a m cp) (i := 0)
      have s2 := set_other (b := g0) (i := 0) (v := .slice a m cp) B1.out n10
      obtain ⟨p0, p1, p2, -, -, -⟩ := box3 s1
      obtain ⟨q0, q1, q2, qf0, qf1, qf2⟩ := box3 s2
      obtain ⟨z0, z1, z2, -, -, -⟩ := box3 (box3_set (p := .slice a m cp) (q := .bool dn) (r := .int .i64 fu) s2)
      clear s1 s2
      go_wp2
      refine bodyPost_ret (v := .agg #[.slice a m cp, .bool dn, .int .i64 fu]) (by simp [results, Tryz.results50, go_sem, z0, z1, z2]) rfl ?_
      refine ⟨a, cp, by rw [HM.out], ?_, HUf.out, ?_⟩
      · rw [← HM.out]; exact HFin.out.1
      · rw [← HM.out]; exact HFin.out.2
def lsF (f z : Fi) : Bool := Op.bytesLess f.nm.toList z.nm.toList
def insY (f : Fi) : List Fi → List Fi
  | [] => [f]
  | z :: t => if lsF f z = true then f :: z :: t else z :: insY f t
theorem insY_len (f : Fi) : ∀ Z : List Fi, (insY f Z).length = Z.length + 1
  | [] => rfl
  | z :: t => by
    unfold insY
    split
    · simp
    · simp [insY_len f t]
theorem insY_mem {f x : Fi} : ∀ {Z : List Fi}, x ∈ insY f Z → x = f ∨ x ∈ Z
  | [], h => by simp [insY] at h; exact .inl h
  | z :: t, h => by
    unfold insY at h
    split at h
    · rcases List.mem_cons.1 h with e | e
      · exact .inl e
      · exact .inr e
    · rcases List.mem_cons.1 h with e | e
      · exact .inr (by rw [e]; exact List.mem_cons_self ..)
      · rcases insY_mem e with q | q
        · exact .inl q
        · exact .inr (List.mem_cons_of_mem _ q)
theorem insY_none (f : Fi) : ∀ Z : List Fi, Z.any (lsF f) = false → insY f Z = Z ++ [f]
  | [], _ => rfl
  | z :: t, h => by
    simp only [List.any_cons, Bool.or_eq_false_iff] at h
    unfold insY
    rw [h.1, if_neg (by simp), insY_none f t h.2]
    rfl
theorem insY_some (f : Fi) (M : List Fi) : ∀ Z : List Fi, Z.any (lsF f) = true → insY f (Z ++ M) = insY f Z ++ M
  | [], h => by simp at h
  | z :: t, h => by
    show insY f (z :: (t ++ M)) = insY f (z :: t) ++ M
    unfold insY
    by_cases c : lsF f z = true
    · rw [if_pos c, if_pos c]; rfl
    · rw [if_neg c, if_neg c, insY_some f M t (by simpa [c] using h)]; rfl
theorem insY_here (f z : Fi) (Z : List Fi) (h : Z.any (lsF f) = false) (c : lsF f z = true) : insY f (Z ++ [z]) = Z ++ [f] ++ [z] := by
  induction Z with
  | nil => simp [insY, c]
  | cons a t ih =>
    simp only [List.any_cons, Bool.or_eq_false_iff] at h
    show insY f (a :: (t ++ [z])) = _
    unfold insY
    rw [h.1, if_neg (by simp), ih h.2]
    rfl
/-- What With has made of the first files. -/
def outY (f : Fi) (Z : List Fi) (d : Bool) : List Fi := if d = true then insY f Z else Z
theorem take_any (f : Fi) (Z : List Fi) (i : Nat) (h : i < Z.length) : (Z.take (i + 1)).any (lsF f) = ((Z.take i).any (lsF f) || lsF f Z[i]) := by
  rw [(List.take_append_getElem h).symm, List.any_append]; simp
end Go.Proofs.YtfphopleniidfaaGreatDoor
