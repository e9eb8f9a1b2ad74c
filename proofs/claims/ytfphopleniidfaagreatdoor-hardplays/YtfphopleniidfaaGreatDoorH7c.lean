/- The document's Open of layer 7, where its disk has power; conditions: the rows lie in memory. -/
import Derived.Test.YtfphopleniidfaaGreatDoorH7b
import Derived.Test.YtfphopleniidfaaGreatDoorQ5h
namespace Go.Proofs.YtfphopleniidfaaGreatDoor
open Go.RowKit Go.Lib
set_option linter.unusedVariables false
set_option linter.unusedSimpArgs false
set_option maxRecDepth 20000
theorem box5f {w : World} {b : Nat} {x0 x1 x2 x3 x4 : Value} {T : TypeId} (h : w.heap[b]? = some (.cells #[x0, x1, x2, x3, x4] T (0, 0))) : w.frozen? ⟨b, 0, none⟩ = false ∧ w.frozen? ⟨b, 1, none⟩ = false ∧ w.frozen? ⟨b, 2, none⟩ = false ∧ w.frozen? ⟨b, 3, none⟩ = false ∧ w.frozen? ⟨b, 4, none⟩ = false :=
  ⟨Go.Joins.unfrozen_of_block h 0, Go.Joins.unfrozen_of_block h 1, Go.Joins.unfrozen_of_block h 2, Go.Joins.unfrozen_of_block h 3, Go.Joins.unfrozen_of_block h 4⟩
def set5 (w : World) (b : Nat) (p0 p1 p2 p3 p4 : Value) : World := ((((w.setCell ⟨b, 0, none⟩ p0).setCell ⟨b, 1, none⟩ p1).setCell ⟨b, 2, none⟩ p2).setCell ⟨b, 3, none⟩ p3).setCell ⟨b, 4, none⟩ p4
theorem box5_set {w : World} {b : Nat} {x0 x1 x2 x3 x4 : Value} {T : TypeId} (h : w.heap[b]? = some (.cells #[x0, x1, x2, x3, x4] T (0, 0))) (p0 p1 p2 p3 p4 : Value) : (set5 w b p0 p1 p2 p3 p4).heap[b]? = some (.cells #[p0, p1, p2, p3, p4] T (0, 0)) := by
  have h1 := Go.Joins.block_setCell h p0 (i := 0)
  have h2 := Go.Joins.block_setCell h1 p1 (i := 1)
  have h3 := Go.Joins.block_setCell h2 p2 (i := 2)
  have h4 := Go.Joins.block_setCell h3 p3 (i := 3)
  exact Go.Joins.block_setCell h4 p4 (i := 4)
theorem chg5 (w : World) (b : Nat) (p0 p1 p2 p3 p4 : Value) : Chg [b] w (set5 w b p0 p1 p2 p3 p4) := ((((Chg.set (S := [b]) w ⟨b, 0, none⟩ p0 (by simp)).trans (Chg.set (S := [b]) _ ⟨b, 1, none⟩ p1 (by simp))).trans (Chg.set (S := [b]) _ ⟨b, 2, none⟩ p2 (by simp))).trans (Chg.set (S := [b]) _ ⟨b, 3, none⟩ p3 (by simp))).trans (Chg.set (S := [b]) _ ⟨b, 4, none⟩ p4 (by simp))
theorem DocAt.chgH {w w' : World} {v : Value} {Y : List Fi} {b : Nat} {cs : Array Value} (h : DocAt w v Y) (ch : Chg [b] w w') (hb : w.heap[b]? = some (.cells cs 34 (0, 0))) : DocAt w' v Y :=
  ⟨h.row.chg ch (h.row.offT hb (by decide)), fun y hy => ⟨(h.byt y hy).1.chg ch ((h.byt y hy).1.offT hb (by decide)), (h.byt y hy).2.1.chg ch ((h.byt y hy).2.1.offT hb (by decide)), (h.byt y hy).2.2⟩⟩
theorem al3 (w : World) (o1 o2 o3 : Obj) : (((w.alloc o1).alloc o2).alloc o3).heap[w.heap.size]? = some o1 ∧ (((w.alloc o1).alloc o2).alloc o3).heap[w.heap.size + 1]? = some o2 ∧ (((w.alloc o1).alloc o2).alloc o3).heap[w.heap.size + 1 + 1]? = some o3 := by
  refine ⟨?_, ?_, ?_⟩
  · show (((w.heap.push o1).push o2).push o3)[w.heap.size]? = _
    rw [Array.getElem?_push, if_neg (by simp; omega), Array.getElem?_push, if_neg (by simp), Array.getElem?_push, if_pos rfl]
  · show (((w.heap.push o1).push o2).push o3)[w.heap.size + 1]? = _
    rw [Array.getElem?_push, if_neg (by simp), Array.getElem?_push, if_pos (by simp)]
  · show (((w.heap.push o1).push o2).push o3)[w.heap.size + 1 + 1]? = _
    rw [Array.getElem?_push, if_pos (by simp)]
theorem S3.old {b i j k : Nat} {x y z : Value} {w w' : World} (o : Old w w') (h : w.cell? ⟨b, i, none⟩ = some x ∧ w.cell? ⟨b, j, none⟩ = some y ∧ w.cell? ⟨b, k, none⟩ = some z) : w'.cell? ⟨b, i, none⟩ = some x ∧ w'.cell? ⟨b, j, none⟩ = some y ∧ w'.cell? ⟨b, k, none⟩ = some z := ⟨o.keep h.1, o.keep h.2.1, o.keep h.2.2⟩
theorem do_two {F : PFs} (h : (getP F sT).isSome = true) : doC F false ⟨2, sT, ByteArray.empty, 0, .slice none 0 0, [], .slice none 0 0, []⟩ = 0 ∧ doF F false ⟨2, sT, ByteArray.empty, 0, .slice none 0 0, [], .slice none 0 0, []⟩ = delP F sT := by
  have e : doC F false ⟨2, sT, ByteArray.empty, 0, .slice none 0 0, [], .slice none 0 0, []⟩ = 0 := by
    unfold doC
    cases k : getP F sT with
    | none => rw [k] at h; cases h
    | some x => simp [k, mT]
  refine ⟨e, ?_⟩
  unfold doF
  rw [e]
  simp
theorem FindIs.pos {Z : List Fi} {s : ByteArray} {r : Int} (h : FindIs Z s r) (hn : ¬ ∀ z ∈ Z, z.nm ≠ s) : ∃ q : Nat, r = (q : Int) := by
  rcases h with ⟨_, hno⟩ | ⟨q, hr, _⟩
  · exact absurd hno hn
  · exact ⟨q, hr⟩
theorem unf_yes {n : Nat} {x : Nat → Nat} (h : Pk.unfE n x = 0) : Pk.unfM n x = 8 + Pk.w32 x ∧ Pk.unfL n x = Pk.w32 x := by
  unfold Pk.unfM Pk.unfL
  rw [if_pos h, if_pos h]
  exact ⟨rfl, rfl⟩
/-- What a document's function that makes a Hard answers. -/
def OP (W : World) (B : List Nat) (P' : PFs) (dn : Bool) (fu t v code : Int) (e : Ending) (w' : World) : Prop := ∃ a cc Z, e = .returned (.tuple #[.agg #[.slice a (List.length Z) cc, .bool dn, .int .i64 fu, .int .i64 t, .int .i64 v], .int .i64 code]) ∧ DocAt w' (.slice a Z.length cc) Z ∧ Z.map Fi.p = P' ∧ Old W w' ∧ ∀ g ∈ docB (.slice a Z.length cc) Z, g ∈ B ∨ W.heap.size ≤ g
/-- The files behind Open. -/
def opF (F : PFs) : PFs := if (getP F sT).isSome = true then delP F sT else F
theorem opF_H (F : PFs) : getP (opF F) sH = getP F sH := by
  unfold opF
  split
  · exact getP_del _ _ _ (Ne.symm ne_TH)
  · rfl
set_option maxHeartbeats 80000000 in
set_option maxRecDepth 20000 in
theorem ropen_any (W : World) (ya : Option Addr) (yc : Nat) (Y : List Fi) (h : DocAt W (.slice ya Y.length yc) Y) (hl : Y.length ≤ 256) (hnd : ((Y.map Fi.p).map (·.1)).Nodup) : Calls Tryz.prog 7 #[.agg #[.slice ya Y.length yc, .bool false, .int .i64 0]] W (OP W (docB (.slice ya Y.length yc) Y) (opF (Y.map Fi.p)) false 0 (rdP (nowOf (getP (Y.map Fi.p) sH))).1 (rdP (nowOf (getP (Y.map Fi.p) sH))).2 0) := by
  have HD := hid h
  have HLe := hid hl
  have HNd := hid hnd
  obtain ⟨BB, hBB⟩ : ∃ BB, docB (.slice ya Y.length yc) Y = BB := ⟨_, rfl⟩
  have HBB := hid (show ∀ g ∈ docB (.slice ya Y.length yc) Y, g ∈ BB from fun g hg => by rw [← hBB]; exact hg)
  have HFi := hid (show ∀ (W' : World) (za : Option Addr) (zn zc : Nat) (Z : List Fi) (dn : Bool) (fu : Int) (s : ByteArray), OwnR 0 W' (.slice za zn zc) Z → zn = Z.length → Z.length ≤ 1000 → Calls Tryz.prog 21 #[.agg #[.slice za zn zc, .bool dn, .int .i64 fu], .string s] W' fun e w' => ∃ r, e = .returned (.int .i64 r) ∧ FindIs Z s r ∧ Old W' w' from fun W' za zn zc Z dn fu s h1 h2 h3 => by subst h2; exact rfind_any za zc Z dn fu s 0 W' h1 h3)
  have HRd := hid (show ∀ (W' : World) (za : Option Addr) (zn zc : Nat) (Z : List Fi) (s : ByteArray), DocAt W' (.slice za zn zc) Z → zn = Z.length → Z.length ≤ 256 → ((Z.map Fi.p).map (·.1)).Nodup → Calls Tryz.prog 23 #[.agg #[.slice za zn zc, .bool false, .int .i64 0], .string s] W' (RdPost W' [] (readL ⟨Z.map Fi.p, false, 0⟩ s) (readC ⟨Z.map Fi.p, false, 0⟩ s)) from fun W' za zn zc Z s h1 h2 h3 h4 => by subst h2; exact rread_any za zc Z false 0 s W' h1 h3 h4)
  rw [hBB]
  clear h hl hnd hBB
  obtain ⟨n, hn⟩ : ∃ n, n = Y.length := ⟨_, rfl⟩
  have HN := hid hn
  rw [← hn] at HD HLe HBB ⊢
  clear hn
  go_enter Tryz.func7, Tryz.ntmps7
  go_upto_region 2 with (fail)
  have HA := hid (al3 W (.cells #[.slice ya n yc, .bool false, .int .i64 0] 32) (.cells #[.slice none 0 0, .bool false, .int .i64 0, .int .i64 0, .int .i64 0] 34) (.cells #[.slice ya n yc, .bool false, .int .i64 0, .int .i64 0, .int .i64 0] 34))
  have HU := hid (show Old W (((W.alloc (.cells #[.slice ya n yc, .bool false, .int .i64 0] 32)).alloc (.cells #[.slice none 0 0, .bool false, .int .i64 0, .int .i64 0, .int .i64 0] 34)).alloc (.cells #[.slice ya n yc, .bool false, .int .i64 0, .int .i64 0, .int .i64 0] 34)) from (((Old.refl W).alloc _).alloc _).alloc _)
  generalize ((W.alloc (.cells #[.slice ya n yc, .bool false, .int .i64 0] 32)).alloc (.cells #[.slice none 0 0, .bool false, .int .i64 0, .int .i64 0, .int .i64 0] 34)).alloc (.cells #[.slice ya n yc, .bool false, .int .i64 0, .int .i64 0, .int .i64 0] 34) = w0 at *
  obtain ⟨g0, hg0⟩ : ∃ g0, g0 = W.heap.size := ⟨_, rfl⟩
  obtain ⟨g2, hg2⟩ : ∃ g2, g2 = W.heap.size + 1 := ⟨_, rfl⟩
  obtain ⟨g4, hg4⟩ : ∃ g4, g4 = W.heap.size + 1 + 1 := ⟨_, rfl⟩
  have HLt := hid (show W.heap.size ≤ g0 ∧ g0 < g2 ∧ g2 < g4 from by omega)
  have n24 : g2 ≠ g4 := by omega
  have n42 : g4 ≠ g2 := by omega
  rw [← hg4, ← hg2, ← hg0] at HA
  rw [← hg4, ← hg2, ← hg0]
  clear hg0 hg2 hg4
  have B0 := hid HA.out.1
  have B2 := hid HA.out.2.1
  have B4 := hid HA.out.2.2
  clear HA
  have HF := hid (show ∀ (w6 : World) (a : Option Addr) (zn c : Nat) (Z : List Fi) (t v : Int) (cs : Array Value), Old W w6 → w6.heap[g2]? = some (.cells cs 34 (0, 0)) → DocAt w6 (.slice a zn c) Z → zn = Z.length → (∀ g ∈ docB (.slice a zn c) Z, g ∈ BB ∨ W.heap.size ≤ g) → Z.map Fi.p = opF (Y.map Fi.p) → rdP (nowOf (getP (Y.map Fi.p) sH)) = (t, v) → OP W BB (opF (Y.map Fi.p)) false 0 (rdP (nowOf (getP (Y.map Fi.p) sH))).1 (rdP (nowOf (getP (Y.map Fi.p) sH))).2 0 (.returned (.tuple #[.agg #[.slice a zn c, .bool false, .int .i64 0, .int .i64 t, .int .i64 v], .int .i64 0])) (set5 w6 g2 (.slice a zn c) (.bool false) (.int .i64 0) (.int .i64 t) (.int .i64 v)) from fun w6 a zn c Z t v cs u h2 hD hz hB hP hr => by
    subst hz
    rw [hr]
    exact ⟨a, c, Z, rfl, hD.chgH (chg5 w6 g2 _ _ _ _ _) h2, hP, (chg5 w6 g2 _ _ _ _ _).oldOf u (fun k hk => by rw [List.mem_singleton.1 hk]; have := HLt.out; omega), hB⟩)
  obtain ⟨x0, x1, x2, -, -, -⟩ := box3 B0.out
  by_cases zT : ∀ y ∈ Y, y.nm ≠ sT
  · skip
    have HZT := hid zT
    clear zT
    go_upto_region 9 with (go_at_call 21; refine (HFi.out _ ya n yc Y false 0 sT (HD.out.old HU.out).row HN.out (by have := HLe.out; have := HN.out; omega)).mono ?_; rintro e w1 ⟨r, rfl, fr, u1⟩; rcases fr with ⟨hr, -⟩ | ⟨q, -, hq, hq2⟩; rotate_left; exact absurd hq2 (HZT.out _ (List.getElem_mem hq)); subst hr; have U1 := hid u1; clear u1)
    clear x0 x1 x2
    have HV := hid (HU.out.trans U1.out)
    have HZ := hid (HD.out.old HV.out)
    have C2 := hid (U1.out.block B2.out)
    have C4 := hid (U1.out.block B4.out)
    have HZn := hid HN.out
    have HZl := hid (show Y.length ≤ 256 from by have := HLe.out; have := HN.out; omega)
    have HZd := hid HNd.out
    have HZB := hid (show ∀ g ∈ docB (.slice ya n yc) Y, g ∈ BB ∨ W.heap.size ≤ g from fun g hg => .inl (HBB.out g hg))
    have HZP := hid (show Y.map Fi.p = opF (Y.map Fi.p) from by unfold opF; rw [getP_none (fun q hq => by obtain ⟨z, hz, rfl⟩ := List.mem_map.1 hq; exact HZT.out z hz)]; rfl)
    clear HD HLe HNd HBB HN B0 B2 B4 HU U1 HZT
    by_cases zH : ∀ z ∈ Y, z.nm ≠ sH
    · skip
      have HRR := hid (show rdP (nowOf (getP (Y.map Fi.p) sH)) = (0, 0) from by rw [← opF_H, ← HZP.out, getP_none (fun q hq => by obtain ⟨z, hz, rfl⟩ := List.mem_map.1 hq; exact zH z hz)]; exact rd_nil)
      have HZH := hid zH
      clear zH
      obtain ⟨y0, y1, y2, -, -⟩ := box5 C4.out
      go_upto_region 10 with (go_at_call 21; refine (HFi.out _ ya n yc Y false 0 sH HZ.out.row HZn.out (by have := HZl.out; omega)).mono ?_; rintro e w5 ⟨r, rfl, fr, u5⟩; rcases fr with ⟨hr, -⟩ | ⟨q, -, hq, hq2⟩; rotate_left; exact absurd hq2 (HZH.out _ (List.getElem_mem hq)); subst hr; have U5 := hid u5; clear u5)
      clear y0 y1 y2
      have HV := hid (HV.out.trans U5.out)
      have HZ := hid (HZ.out.old U5.out)
      have C2 := hid (U5.out.block C2.out)
      have C4 := hid (U5.out.block C4.out)
      have HFin := hid (HF.out w5 ya n yc Y 0 0 _ HV.out C2.out HZ.out HZn.out HZB.out HZP.out HRR.out)
      obtain ⟨F0, F1, F2, F3, F4⟩ := box5 (box5_set C2.out (.slice ya n yc) (.bool false) (.int .i64 0) (.int .i64 0) (.int .i64 0))
      unfold set5 at HFin F0 F1 F2 F3 F4
      obtain ⟨r0, r1, r2, r3, r4⟩ := box5 C2.out
      obtain ⟨rf0, rf1, rf2, rf3, rf4⟩ := box5f C2.out
      obtain ⟨y0, y1, y2, y3, y4⟩ := box5 C4.out
      go_wp2
      refine bodyPost_ret (v := .tuple #[.agg #[.slice ya n yc, .bool false, .int .i64 0, .int .i64 0, .int .i64 0], .int .i64 0]) (by simp [results, Tryz.results7, go_sem, F0, F1, F2, F3, F4]) rfl ?_
      exact HFin.out
    obtain ⟨z, hz, hzn⟩ : ∃ z ∈ Y, z.nm = sH := by simpa using zH
    clear zH
    have HGt := hid (show getP (Y.map Fi.p) sH = some ⟨z.now, z.safe⟩ from by have := getP_mem HZd.out (q := z.p) (List.mem_map.2 ⟨z, hz, rfl⟩); rw [show z.p.1 = sH from hzn] at this; exact this)
    have HRc := hid (show readC ⟨Y.map Fi.p, false, 0⟩ sH = 0 from by rw [readC1, mH, HGt.out]; simp)
    have HRl := hid (show readL ⟨Y.map Fi.p, false, 0⟩ sH = z.now from by unfold readL; rw [HRc.out, if_pos rfl]; unfold fileAt; rw [HGt.out]; rfl)
    have HnL := hid (show rdP (nowOf (getP (Y.map Fi.p) sH)) = rdP z.now from by rw [← opF_H, ← HZP.out, HGt.out]; rfl)
    have HZH := hid (show ¬ ∀ y ∈ Y, y.nm ≠ sH from fun k => k z hz hzn)
    clear hz hzn HGt
    generalize z.now = L at *
    clear z
    obtain ⟨y0, y1, y2, -, -⟩ := box5 C4.out
    go_upto_region 11 with (go_at_call 21; refine (HFi.out _ ya n yc Y false 0 sH HZ.out.row HZn.out (by have := HZl.out; omega)).mono ?_; rintro e w5 ⟨r, rfl, fr, u5⟩; obtain ⟨q, hr⟩ := fr.pos HZH.out; subst hr; clear fr; have hqn : ¬ (q : Int) < 0 := (by omega); have U5 := hid u5; clear u5)
    clear y0 y1 y2 hqn HZH
    have HV := hid (HV.out.trans U5.out)
    have HZ := hid (HZ.out.old U5.out)
    have C2 := hid (U5.out.block C2.out)
    have C4 := hid (U5.out.block C4.out)
    obtain ⟨y0, y1, y2, -, -⟩ := box5 C4.out
    go_upto_region 12 with (go_at_call 23; refine (HRd.out _ ya n yc Y sH HZ.out HZn.out HZl.out HZd.out).mono ?_; rintro e w6 ⟨v6, rfl, o6, u6, -⟩; rw [HRc.out]; rw [HRl.out] at o6; obtain ⟨a6, c6, rfl⟩ := o6.len; have O6 := hid o6; have U6 := hid u6; clear o6 u6)
    clear y0 y1 y2 HRc HRl HRd HFi
    have HV := hid (HV.out.trans U6.out)
    have HZ := hid (HZ.out.old U6.out)
    have C2 := hid (U6.out.block C2.out)
    have C4 := hid (U6.out.block C4.out)
    have HUn := hid (fun (W' : World) (u : Old w6 W') => Pk.refUnframe_any (.slice a6 L.length c6) L.length (gd L) W' (O6.out.row.old u))
    by_cases cE : Pk.unfE L.length (gd L) = 0
    rotate_left
    · skip
      have HRR := hid (show rdP (nowOf (getP (Y.map Fi.p) sH)) = (0, 0) from by rw [HnL.out, rd_tk2, if_neg (fun e => cE e.1)])
      generalize Pk.unfE L.length (gd L) = E at *
      generalize Pk.unfM L.length (gd L) = M at *
      have d1 : ((E : Int) == 0) = false := by rw [beq_eq_false_iff_ne]; omega
      have d2 : ¬ (E : Int) = 0 := by omega
      go_upto_region 14 with (go_at_call 24; refine (HUn.out _ (Old.refl _)).mono ?_; rintro e w7 ⟨v7, rfl, o7, u7⟩; have O7 := hid o7; have U7 := hid (show Old w6 w7 from u7); clear o7 u7)
      clear d1 d2
      have HV := hid (HV.out.trans U7.out)
      have HZ := hid (HZ.out.old U7.out)
      have C2 := hid (U7.out.block C2.out)
      have C4 := hid (U7.out.block C4.out)
      have HFin := hid (HF.out w7 ya n yc Y 0 0 _ HV.out C2.out HZ.out HZn.out HZB.out HZP.out HRR.out)
      obtain ⟨F0, F1, F2, F3, F4⟩ := box5 (box5_set C2.out (.slice ya n yc) (.bool false) (.int .i64 0) (.int .i64 0) (.int .i64 0))
      unfold set5 at HFin F0 F1 F2 F3 F4
      obtain ⟨r0, r1, r2, r3, r4⟩ := box5 C2.out
      obtain ⟨rf0, rf1, rf2, rf3, rf4⟩ := box5f C2.out
      obtain ⟨y0, y1, y2, y3, y4⟩ := box5 C4.out
      go_wp2
      refine bodyPost_ret (v := .tuple #[.agg #[.slice ya n yc, .bool false, .int .i64 0, .int .i64 0, .int .i64 0], .int .i64 0]) (by simp [results, Tryz.results7, go_sem, F0, F1, F2, F3, F4]) rfl ?_
      exact HFin.out
    obtain ⟨eM, eL⟩ := unf_yes cE
    rw [cE, eM, eL] at HUn
    by_cases cM : 8 + Pk.w32 (gd L) = L.length
    rotate_left
    · skip
      have HRR := hid (show rdP (nowOf (getP (Y.map Fi.p) sH)) = (0, 0) from by rw [HnL.out, rd_tk2, if_neg (fun e => cM e.2)])
      generalize 8 + Pk.w32 (gd L) = M at *
      have d1 : ((M : Int) == (L.length : Int)) = false := by rw [beq_eq_false_iff_ne]; omega
      have d2 : ¬ (M : Int) = (L.length : Int) := by omega
      go_upto_region 14 with (go_at_call 24; refine (HUn.out _ (Old.refl _)).mono ?_; rintro e w7 ⟨v7, rfl, o7, u7⟩; have O7 := hid o7; have U7 := hid (show Old w6 w7 from u7); clear o7 u7)
      clear d1 d2
      have HV := hid (HV.out.trans U7.out)
      have HZ := hid (HZ.out.old U7.out)
      have C2 := hid (U7.out.block C2.out)
      have C4 := hid (U7.out.block C4.out)
      have HFin := hid (HF.out w7 ya n yc Y 0 0 _ HV.out C2.out HZ.out HZn.out HZB.out HZP.out HRR.out)
      obtain ⟨F0, F1, F2, F3, F4⟩ := box5 (box5_set C2.out (.slice ya n yc) (.bool false) (.int .i64 0) (.int .i64 0) (.int .i64 0))
      unfold set5 at HFin F0 F1 F2 F3 F4
      obtain ⟨r0, r1, r2, r3, r4⟩ := box5 C2.out
      obtain ⟨rf0, rf1, rf2, rf3, rf4⟩ := box5f C2.out
      obtain ⟨y0, y1, y2, y3, y4⟩ := box5 C4.out
      go_wp2
      refine bodyPost_ret (v := .tuple #[.agg #[.slice ya n yc, .bool false, .int .i64 0, .int .i64 0, .int .i64 0], .int .i64 0]) (by simp [results, Tryz.results7, go_sem, F0, F1, F2, F3, F4]) rfl ?_
      exact HFin.out
    have HRR0 := hid (show rdP (nowOf (getP (Y.map Fi.p) sH)) = pick2 (tk2 (L.drop 8)) from by rw [HnL.out, rd_tk2, if_pos ⟨cE, cM⟩])
    have HPl := hid (show (L.drop 8).length = Pk.w32 (gd L) from by rw [List.length_drop]; omega)
    have HPg := hid (gd_drop L 8)
    rw [cM] at HUn
    obtain ⟨P, hP⟩ : ∃ P, L.drop 8 = P := ⟨_, rfl⟩
    rw [hP] at HRR0 HPl HPg
    clear hP cE cM eM eL HnL
    go_upto_region 15 with (go_at_call 24; refine (HUn.out _ (Old.refl _)).mono ?_; rintro e w7 ⟨v7, rfl, o7, u7⟩; have o8 : Own w7 v7 P := (by unfold Own; rw [HPl.out, HPg.out]; exact o7.mono (Nat.zero_le _)); obtain ⟨a7, c7, rfl⟩ := o8.len; have O8 := hid o8; have U7 := hid (show Old w6 w7 from u7); clear o7 o8 u7)
    clear HUn HPl HPg O6
    have HV := hid (HV.out.trans U7.out)
    have HZ := hid (HZ.out.old U7.out)
    have C2 := hid (U7.out.block C2.out)
    have C4 := hid (U7.out.block C4.out)
    have HGet := hid (fun (W' : World) (g : Nat) (u : Old w7 W') (hg : W'.heap[g]? = some (.cells #[.int .i64 1, .int .i64 1] 3 (0, 0))) => get2_any a7 c7 g P W' (O8.out.row.old u) hg)
    generalize P.length = pl at *
    cases hT : tk2 P with
    | none =>
      have HRR := hid (show rdP (nowOf (getP (Y.map Fi.p) sH)) = (0, 0) from by rw [HRR0.out, hT]; rfl)
      go_upto_region 16 with (go_at_call 25; refine (HGet.out _ _ ((Old.refl w7).alloc _) (alloc_at w7 _)).mono ?_; rintro e w8 ⟨u8, q8⟩; have q9 := q8.resolve_right (fun k => (by obtain ⟨t, v, b, off, cap, k1, -⟩ := k; rw [hT] at k1; cases k1)); obtain ⟨-, rfl⟩ := q9; have U8 := hid (show Old w7 w8 from ((Old.refl w7).alloc _).trans u8); clear u8 q8)
      clear HGet O8 hT HRR0
      have HV := hid (HV.out.trans U8.out)
      have HZ := hid (HZ.out.old U8.out)
      have C2 := hid (U8.out.block C2.out)
      have C4 := hid (U8.out.block C4.out)
      have UD := hid ((Old.refl w8).drew)
      refine wp_region_noPanic ?_
      refine wp_region_held_drew (S := fun wz => Old w8 wz) (by kernel_rfl) ?_ (fun hHeld => ?_)
      · exact ((Old.refl w8).drew)
      (try simp only [Act.put]); (try simp only [List.setIfInBounds_toArray]); (try simp only [List.set_cons_succ]); (try simp only [List.set_cons_zero])
      clear hHeld
      refine wpAnyH_take (i := 0) (oi := { dst := some 66, op := Op.move (Operand.tmp 13), type := 3, pos := "ref.go:51", after := #[], guard := none }) (v := ?vk1) rfl (by kernel_rfl) (by kernel_rfl) (by kernel_rfl) (fun _ _ _ h => h) (Or.inl ⟨by rfl, ?hk1⟩) ((Old.refl w8).drew) ?rk1
      case hk1 => (intro wz hSw; (try dsimp only at hSw); go_simp; try with_reducible rfl)
      (try simp only [Act.put]); (try simp only [List.setIfInBounds_toArray]); (try simp only [List.set_cons_succ]); (try simp only [List.set_cons_zero])
      refine wpAnyH_take (i := 1) (oi := { dst := some 67, op := Op.binOp BinOp.eql 3 (Operand.tmp 66) (Operand.const (Value.int IntKind.i64 0)) 3, type := 4, pos := "ref.go:51", after := #[{ on := 0, ground := Ground.data }], guard := none }) (v := ?vk2) rfl (by kernel_rfl) (by kernel_rfl) (by kernel_rfl) (fun _ _ _ h => h) (Or.inl ⟨by rfl, ?hk2⟩) ((Old.refl w8).drew) ?rk2
      case hk2 => (intro wz hSw; (try dsimp only at hSw); go_simp; try with_reducible rfl)
      (try simp only [Act.put]); (try simp only [List.setIfInBounds_toArray]); (try simp only [List.set_cons_succ]); (try simp only [List.set_cons_zero])
      refine wpAnyH_take (i := 2) (oi := { dst := some 68, op := Op.move (Operand.tmp 67), type := 4, pos := "ref.go:51", after := #[{ on := 1, ground := Ground.data }], guard := none }) (v := ?vk3) rfl (by kernel_rfl) (by kernel_rfl) (by kernel_rfl) (fun _ _ _ h => h) (Or.inl ⟨by rfl, ?hk3⟩) ((Old.refl w8).drew) ?rk3
      case hk3 => (intro wz hSw; (try dsimp only at hSw); go_simp; try with_reducible rfl)
      (try simp only [Act.put]); (try simp only [List.setIfInBounds_toArray]); (try simp only [List.set_cons_succ]); (try simp only [List.set_cons_zero])
      refine wpAnyH_take (i := 3) (oi := { dst := some 69, op := Op.move (Operand.tmp 12), type := 75, pos := "ref.go:51", after := #[{ on := 2, ground := Ground.guard }], guard := some (2, true) }) (v := undef) rfl (by kernel_rfl) (by kernel_rfl) (by kernel_rfl) (fun _ _ _ h => h) (Or.inr ⟨by rfl, rfl⟩) ((Old.refl w8).drew) ?_
      (try simp only [Act.put]); (try simp only [List.setIfInBounds_toArray]); (try simp only [List.set_cons_succ]); (try simp only [List.set_cons_zero])
      refine wpAnyH_take (i := 4) (oi := { dst := some 70, op := Op.indexAddr 75 (Operand.tmp 69) (Operand.const (Value.int IntKind.i64 0)), type := 0, pos := "ref.go:51", after := #[{ on := 3, ground := Ground.data }, { on := 2, ground := Ground.guard }], guard := some (2, true) }) (v := undef) rfl (by kernel_rfl) (by kernel_rfl) (by kernel_rfl) (fun _ _ _ h => h) (Or.inr ⟨by rfl, rfl⟩) ((Old.refl w8).drew) ?_
      (try simp only [Act.put]); (try simp only [List.setIfInBounds_toArray]); (try simp only [List.set_cons_succ]); (try simp only [List.set_cons_zero])
      refine wpAnyH_take (i := 5) (oi := { dst := some 71, op := Op.fieldAddr 82 (Operand.tmp 70) 1, type := 0, pos := "ref.go:51", after := #[{ on := 4, ground := Ground.data }, { on := 2, ground := Ground.guard }], guard := some (2, true) }) (v := undef) rfl (by kernel_rfl) (by kernel_rfl) (by kernel_rfl) (fun _ _ _ h => h) (Or.inr ⟨by rfl, rfl⟩) ((Old.refl w8).drew) ?_
      (try simp only [Act.put]); (try simp only [List.setIfInBounds_toArray]); (try simp only [List.set_cons_succ]); (try simp only [List.set_cons_zero])
      refine wpAnyH_take (i := 6) (oi := { dst := some 72, op := Op.load 2 (Operand.tmp 71), type := 2, pos := "ref.go:51", after := #[{ on := 5, ground := Ground.data }, { on := 2, ground := Ground.guard }], guard := some (2, true) }) (v := undef) rfl (by kernel_rfl) (by kernel_rfl) (by kernel_rfl) (fun _ _ _ h => h) (Or.inr ⟨by rfl, rfl⟩) ((Old.refl w8).drew) ?_
      (try simp only [Act.put]); (try simp only [List.setIfInBounds_toArray]); (try simp only [List.set_cons_succ]); (try simp only [List.set_cons_zero])
      refine wpAnyH_take (i := 7) (oi := { dst := some 73, op := Op.move (Operand.tmp 12), type := 75, pos := "ref.go:51", after := #[{ on := 2, ground := Ground.guard }], guard := some (2, true) }) (v := undef) rfl (by kernel_rfl) (by kernel_rfl) (by kernel_rfl) (fun _ _ _ h => h) (Or.inr ⟨by rfl, rfl⟩) ((Old.refl w8).drew) ?_
      (try simp only [Act.put]); (try simp only [List.setIfInBounds_toArray]); (try simp only [List.set_cons_succ]); (try simp only [List.set_cons_zero])
      refine wpAnyH_take (i := 8) (oi := { dst := some 74, op := Op.indexAddr 75 (Operand.tmp 73) (Operand.const (Value.int IntKind.i64 1)), type := 0, pos := "ref.go:51", after := #[{ on := 7, ground := Ground.data }, { on := 2, ground := Ground.guard }], guard := some (2, true) }) (v := undef) rfl (by kernel_rfl) (by kernel_rfl) (by kernel_rfl) (fun _ _ _ h => h) (Or.inr ⟨by rfl, rfl⟩) ((Old.refl w8).drew) ?_
      (try simp only [Act.put]); (try simp only [List.setIfInBounds_toArray]); (try simp only [List.set_cons_succ]); (try simp only [List.set_cons_zero])
      refine wpAnyH_take (i := 9) (oi := { dst := some 75, op := Op.fieldAddr 82 (Operand.tmp 74) 1, type := 0, pos := "ref.go:51", after := #[{ on := 8, ground := Ground.data }, { on := 2, ground := Ground.guard }], guard := some (2, true) }) (v := undef) rfl (by kernel_rfl) (by kernel_rfl) (by kernel_rfl) (fun _ _ _ h => h) (Or.inr ⟨by rfl, rfl⟩) ((Old.refl w8).drew) ?_
      (try simp only [Act.put]); (try simp only [List.setIfInBounds_toArray]); (try simp only [List.set_cons_succ]); (try simp only [List.set_cons_zero])
      refine wpAnyH_take (i := 10) (oi := { dst := some 76, op := Op.load 2 (Operand.tmp 75), type := 2, pos := "ref.go:51", after := #[{ on := 9, ground := Ground.data }, { on := 2, ground := Ground.guard }], guard := some (2, true) }) (v := undef) rfl (by kernel_rfl) (by kernel_rfl) (by kernel_rfl) (fun _ _ _ h => h) (Or.inr ⟨by rfl, rfl⟩) ((Old.refl w8).drew) ?_
      (try simp only [Act.put]); (try simp only [List.setIfInBounds_toArray]); (try simp only [List.set_cons_succ]); (try simp only [List.set_cons_zero])
      refine wpAnyH_take (i := 11) (oi := { dst := some 77, op := Op.call { callee := Callee.value (Operand.func 26), args := #[Operand.tmp 72, Operand.tmp 76], argTypes := #[2, 2] }, type := 4, pos := "ref.go:51", after := #[{ on := 6, ground := Ground.data }, { on := 10, ground := Ground.data }, { on := 2, ground := Ground.chain }, { on := 2, ground := Ground.guard }], guard := some (2, true) }) (v := undef) rfl (by kernel_rfl) (by kernel_rfl) (by kernel_rfl) (fun _ _ _ h => h) (Or.inr ⟨by rfl, rfl⟩) ((Old.refl w8).drew) ?_
      (try simp only [Act.put]); (try simp only [List.setIfInBounds_toArray]); (try simp only [List.set_cons_succ]); (try simp only [List.set_cons_zero])
      refine wpAnyH_take (i := 12) (oi := { dst := some 78, op := Op.pick (Operand.tmp 68) (Operand.tmp 77) (Operand.const (Value.bool false)), type := 4, pos := "ref.go:51", after := #[{ on := 2, ground := Ground.data }, { on := 11, ground := Ground.data }], guard := none }) (v := ?vk4) rfl (by kernel_rfl) (by kernel_rfl) (by kernel_rfl) (fun _ _ _ h => h) (Or.inl ⟨by rfl, ?hk4⟩) ((Old.refl w8).drew) ?rk4
      case hk4 => (intro wz hSw; (try dsimp only at hSw); go_simp; try with_reducible rfl)
      (try simp only [Act.put]); (try simp only [List.setIfInBounds_toArray]); (try simp only [List.set_cons_succ]); (try simp only [List.set_cons_zero])
      refine wpAnyH_done (by kernel_rfl) ?_ _
      refine NoPanic.normal ?_
      generalize World.drew w8 = w9 at *
      have HV := hid (HV.out.trans UD.out)
      have HZ := hid (HZ.out.old UD.out)
      have C2 := hid (UD.out.block C2.out)
      have C4 := hid (UD.out.block C4.out)
      have HFin := hid (HF.out w9 ya n yc Y 0 0 _ HV.out C2.out HZ.out HZn.out HZB.out HZP.out HRR.out)
      obtain ⟨F0, F1, F2, F3, F4⟩ := box5 (box5_set C2.out (.slice ya n yc) (.bool false) (.int .i64 0) (.int .i64 0) (.int .i64 0))
      unfold set5 at HFin F0 F1 F2 F3 F4
      obtain ⟨r0, r1, r2, r3, r4⟩ := box5 C2.out
      obtain ⟨rf0, rf1, rf2, rf3, rf4⟩ := box5f C2.out
      obtain ⟨y0, y1, y2, y3, y4⟩ := box5 C4.out
      go_wp2
      refine bodyPost_ret (v := .tuple #[.agg #[.slice ya n yc, .bool false, .int .i64 0, .int .i64 0, .int .i64 0], .int .i64 0]) (by simp [results, Tryz.results7, go_sem, F0, F1, F2, F3, F4]) rfl ?_
      exact HFin.out
    | some q =>
      obtain ⟨t, v⟩ := q
      go_upto_region 16 with (go_at_call 25; refine (HGet.out _ _ ((Old.refl w7).alloc _) (alloc_at w7 _)).mono ?_; rintro e w8 ⟨u8, q8⟩; have q9 := q8.resolve_left (fun k => (by rw [hT] at k; cases k.1)); obtain ⟨t2, v2, b, off, cap, k1, rfl, lo, c1, c2⟩ := q9; have k2 : t = t2 ∧ v = v2 := (by rw [hT] at k1; simpa using k1); obtain ⟨rfl, rfl⟩ := k2; have U8 := hid (show Old w7 w8 from ((Old.refl w7).alloc _).trans u8); have nb : b ≠ g4 := (by have := heap_lt C4.out; simp at lo; omega); have HS8 := hid (And.intro c1 (And.intro c2 (show w8.cell? ⟨b, off + 5 + 1, none⟩ = some (.int .i64 v) from c2))); clear u8 q8 k1 lo c1 c2)
      clear HGet O8
      have HV := hid (HV.out.trans U8.out)
      have HZ := hid (HZ.out.old U8.out)
      have C2 := hid (U8.out.block C2.out)
      have C4 := hid (U8.out.block C4.out)
      cases hr : rgt t v with
      | false =>
        have HRR := hid (show rdP (nowOf (getP (Y.map Fi.p) sH)) = (0, 0) from by rw [HRR0.out, hT]; unfold pick2; dsimp only; rw [hr]; rfl)
        have HRt := hid (fun (W' : World) (u : Old w8 W') => show Calls Tryz.prog 26 #[.int .i64 t, .int .i64 v] W' fun e w' => e = .returned (.bool false) ∧ Old W' w' from by have q := rright_any t v W'; rw [hr] at q; exact q)
        clear hT hr HRR0
        have UD := hid ((Old.refl w8).drew)
        refine wp_region_noPanic ?_
        refine wp_region_held_drew (S := fun wz => wz.cell? ⟨b, off + 1, none⟩ = some (.int .i64 t) ∧ wz.cell? ⟨b, off + 6, none⟩ = some (.int .i64 v) ∧ wz.cell? ⟨b, off + 5 + 1, none⟩ = some (.int .i64 v)) (by kernel_rfl) ?_ (fun hHeld => ?_)
        · exact (S3.old ((Old.refl w8).drew) HS8.out)
        (try simp only [Act.put]); (try simp only [List.setIfInBounds_toArray]); (try simp only [List.set_cons_succ]); (try simp only [List.set_cons_zero])
        clear hHeld
        refine wpAnyH_take (i := 0) (oi := { dst := some 66, op := Op.move (Operand.tmp 13), type := 3, pos := "ref.go:51", after := #[], guard := none }) (v := ?vk5) rfl (by kernel_rfl) (by kernel_rfl) (by kernel_rfl) (fun _ _ _ h => h) (Or.inl ⟨by rfl, ?hk5⟩) (S3.old ((Old.refl w8).drew) HS8.out) ?rk5
        case hk5 => (intro wz hSw; (try dsimp only at hSw); go_simp; try with_reducible rfl)
        (try simp only [Act.put]); (try simp only [List.setIfInBounds_toArray]); (try simp only [List.set_cons_succ]); (try simp only [List.set_cons_zero])
        refine wpAnyH_take (i := 1) (oi := { dst := some 67, op := Op.binOp BinOp.eql 3 (Operand.tmp 66) (Operand.const (Value.int IntKind.i64 0)) 3, type := 4, pos := "ref.go:51", after := #[{ on := 0, ground := Ground.data }], guard := none }) (v := ?vk6) rfl (by kernel_rfl) (by kernel_rfl) (by kernel_rfl) (fun _ _ _ h => h) (Or.inl ⟨by rfl, ?hk6⟩) (S3.old ((Old.refl w8).drew) HS8.out) ?rk6
        case hk6 => (intro wz hSw; (try dsimp only at hSw); go_simp; try with_reducible rfl)
        (try simp only [Act.put]); (try simp only [List.setIfInBounds_toArray]); (try simp only [List.set_cons_succ]); (try simp only [List.set_cons_zero])
        refine wpAnyH_take (i := 2) (oi := { dst := some 68, op := Op.move (Operand.tmp 67), type := 4, pos := "ref.go:51", after := #[{ on := 1, ground := Ground.data }], guard := none }) (v := ?vk7) rfl (by kernel_rfl) (by kernel_rfl) (by kernel_rfl) (fun _ _ _ h => h) (Or.inl ⟨by rfl, ?hk7⟩) (S3.old ((Old.refl w8).drew) HS8.out) ?rk7
        case hk7 => (intro wz hSw; (try dsimp only at hSw); go_simp; try with_reducible rfl)
        (try simp only [Act.put]); (try simp only [List.setIfInBounds_toArray]); (try simp only [List.set_cons_succ]); (try simp only [List.set_cons_zero])
        refine wpAnyH_take (i := 3) (oi := { dst := some 69, op := Op.move (Operand.tmp 12), type := 75, pos := "ref.go:51", after := #[{ on := 2, ground := Ground.guard }], guard := some (2, true) }) (v := ?vk8) rfl (by kernel_rfl) (by kernel_rfl) (by kernel_rfl) (fun _ _ _ h => h) (Or.inl ⟨by rfl, ?hk8⟩) (S3.old ((Old.refl w8).drew) HS8.out) ?rk8
        case hk8 => (intro wz hSw; (try dsimp only at hSw); go_simp; try with_reducible rfl)
        (try simp only [Act.put]); (try simp only [List.setIfInBounds_toArray]); (try simp only [List.set_cons_succ]); (try simp only [List.set_cons_zero])
        refine wpAnyH_take (i := 4) (oi := { dst := some 70, op := Op.indexAddr 75 (Operand.tmp 69) (Operand.const (Value.int IntKind.i64 0)), type := 0, pos := "ref.go:51", after := #[{ on := 3, ground := Ground.data }, { on := 2, ground := Ground.guard }], guard := some (2, true) }) (v := ?vk9) rfl (by kernel_rfl) (by kernel_rfl) (by kernel_rfl) (fun _ _ _ h => h) (Or.inl ⟨by rfl, ?hk9⟩) (S3.old ((Old.refl w8).drew) HS8.out) ?rk9
        case hk9 => (intro wz hSw; (try dsimp only at hSw); go_simp; try with_reducible rfl)
        (try simp only [Act.put]); (try simp only [List.setIfInBounds_toArray]); (try simp only [List.set_cons_succ]); (try simp only [List.set_cons_zero])
        refine wpAnyH_take (i := 5) (oi := { dst := some 71, op := Op.fieldAddr 82 (Operand.tmp 70) 1, type := 0, pos := "ref.go:51", after := #[{ on := 4, ground := Ground.data }, { on := 2, ground := Ground.guard }], guard := some (2, true) }) (v := ?vk10) rfl (by kernel_rfl) (by kernel_rfl) (by kernel_rfl) (fun _ _ _ h => h) (Or.inl ⟨by rfl, ?hk10⟩) (S3.old ((Old.refl w8).drew) HS8.out) ?rk10
        case hk10 => (intro wz hSw; (try dsimp only at hSw); go_simp; try with_reducible rfl)
        (try simp only [Act.put]); (try simp only [List.setIfInBounds_toArray]); (try simp only [List.set_cons_succ]); (try simp only [List.set_cons_zero])
        refine wpAnyH_take (i := 6) (oi := { dst := some 72, op := Op.load 2 (Operand.tmp 71), type := 2, pos := "ref.go:51", after := #[{ on := 5, ground := Ground.data }, { on := 2, ground := Ground.guard }], guard := some (2, true) }) (v := ?vk11) rfl (by kernel_rfl) (by kernel_rfl) (by kernel_rfl) (fun _ _ _ h => h) (Or.inl ⟨by rfl, ?hk11⟩) (S3.old ((Old.refl w8).drew) HS8.out) ?rk11
        case hk11 => (intro wz hSw; (try dsimp only at hSw); go_simp; try with_reducible rfl)
        (try simp only [Act.put]); (try simp only [List.setIfInBounds_toArray]); (try simp only [List.set_cons_succ]); (try simp only [List.set_cons_zero])
        refine wpAnyH_take (i := 7) (oi := { dst := some 73, op := Op.move (Operand.tmp 12), type := 75, pos := "ref.go:51", after := #[{ on := 2, ground := Ground.guard }], guard := some (2, true) }) (v := ?vk12) rfl (by kernel_rfl) (by kernel_rfl) (by kernel_rfl) (fun _ _ _ h => h) (Or.inl ⟨by rfl, ?hk12⟩) (S3.old ((Old.refl w8).drew) HS8.out) ?rk12
        case hk12 => (intro wz hSw; (try dsimp only at hSw); go_simp; try with_reducible rfl)
        (try simp only [Act.put]); (try simp only [List.setIfInBounds_toArray]); (try simp only [List.set_cons_succ]); (try simp only [List.set_cons_zero])
        refine wpAnyH_take (i := 8) (oi := { dst := some 74, op := Op.indexAddr 75 (Operand.tmp 73) (Operand.const (Value.int IntKind.i64 1)), type := 0, pos := "ref.go:51", after := #[{ on := 7, ground := Ground.data }, { on := 2, ground := Ground.guard }], guard := some (2, true) }) (v := ?vk13) rfl (by kernel_rfl) (by kernel_rfl) (by kernel_rfl) (fun _ _ _ h => h) (Or.inl ⟨by rfl, ?hk13⟩) (S3.old ((Old.refl w8).drew) HS8.out) ?rk13
        case hk13 => (intro wz hSw; (try dsimp only at hSw); go_simp; try with_reducible rfl)
        (try simp only [Act.put]); (try simp only [List.setIfInBounds_toArray]); (try simp only [List.set_cons_succ]); (try simp only [List.set_cons_zero])
        refine wpAnyH_take (i := 9) (oi := { dst := some 75, op := Op.fieldAddr 82 (Operand.tmp 74) 1, type := 0, pos := "ref.go:51", after := #[{ on := 8, ground := Ground.data }, { on := 2, ground := Ground.guard }], guard := some (2, true) }) (v := ?vk14) rfl (by kernel_rfl) (by kernel_rfl) (by kernel_rfl) (fun _ _ _ h => h) (Or.inl ⟨by rfl, ?hk14⟩) (S3.old ((Old.refl w8).drew) HS8.out) ?rk14
        case hk14 => (intro wz hSw; (try dsimp only at hSw); go_simp; try with_reducible rfl)
        (try simp only [Act.put]); (try simp only [List.setIfInBounds_toArray]); (try simp only [List.set_cons_succ]); (try simp only [List.set_cons_zero])
        refine wpAnyH_take (i := 10) (oi := { dst := some 76, op := Op.load 2 (Operand.tmp 75), type := 2, pos := "ref.go:51", after := #[{ on := 9, ground := Ground.data }, { on := 2, ground := Ground.guard }], guard := some (2, true) }) (v := ?vk15) rfl (by kernel_rfl) (by kernel_rfl) (by kernel_rfl) (fun _ _ _ h => h) (Or.inl ⟨by rfl, ?hk15⟩) (S3.old ((Old.refl w8).drew) HS8.out) ?rk15
        case hk15 => (intro wz hSw; (try dsimp only at hSw); go_simp; try with_reducible rfl)
        (try simp only [Act.put]); (try simp only [List.setIfInBounds_toArray]); (try simp only [List.set_cons_succ]); (try simp only [List.set_cons_zero])
        refine wpAnyH_ready (rs := [11]) (by kernel_rfl) (by simp) ?_
        refine AllReadyH.cons (o := { dst := some 77, op := Op.call { callee := Callee.value (Operand.func 26), args := #[Operand.tmp 72, Operand.tmp 76], argTypes := #[2, 2] }, type := 4, pos := "ref.go:51", after := #[{ on := 6, ground := Ground.data }, { on := 10, ground := Ground.data }, { on := 2, ground := Ground.chain }, { on := 2, ground := Ground.guard }], guard := some (2, true) }) rfl (fun K hK => ?_) AllReadyH.nil
        refine wantCall2 ?_ 26 (.tmp 72) (.tmp 76) #[2, 2] ?_ (.int .i64 t) (.int .i64 v) ?_ ?_ ?_ ((enters_of Tryz.func26 (by kernel_rfl) rfl) _ _) ?_
        · rfl
        · rfl
        · rfl
        · rfl
        · rfl
        refine (HRt.out _ ((Old.refl w8).drew)).mono ?_
        rintro o w9 ⟨rfl, ux⟩
        have UX := hid (UD.out.trans ux)
        have SB := S3.old UX.out HS8.out
        clear ux
        refine ⟨_, rfl, ?_⟩
        refine hK.out _ _ SB (fun _ => ?_)
        clear hK K
        (try simp only [Act.put]); (try simp only [List.setIfInBounds_toArray]); (try simp only [List.set_cons_succ]); (try simp only [List.set_cons_zero])
        refine wpAnyH_take (i := 12) (oi := { dst := some 78, op := Op.pick (Operand.tmp 68) (Operand.tmp 77) (Operand.const (Value.bool false)), type := 4, pos := "ref.go:51", after := #[{ on := 2, ground := Ground.data }, { on := 11, ground := Ground.data }], guard := none }) (v := ?vk17) rfl (by kernel_rfl) (by kernel_rfl) (by kernel_rfl) (fun _ _ _ h => h) (Or.inl ⟨by rfl, ?hk17⟩) SB ?rk17
        case hk17 => (intro wz hSw; (try dsimp only at hSw); go_simp; try with_reducible rfl)
        (try simp only [Act.put]); (try simp only [List.setIfInBounds_toArray]); (try simp only [List.set_cons_succ]); (try simp only [List.set_cons_zero])
        refine wpAnyH_done (by kernel_rfl) ?_ _
        refine NoPanic.normal ?_
        have HS9 := hid SB
        clear SB HS8 HRt UD
        have HV := hid (HV.out.trans UX.out)
        have HZ := hid (HZ.out.old UX.out)
        have C2 := hid (UX.out.block C2.out)
        have C4 := hid (UX.out.block C4.out)
        have HFin := hid (HF.out w9 ya n yc Y 0 0 _ HV.out C2.out HZ.out HZn.out HZB.out HZP.out HRR.out)
        obtain ⟨F0, F1, F2, F3, F4⟩ := box5 (box5_set C2.out (.slice ya n yc) (.bool false) (.int .i64 0) (.int .i64 0) (.int .i64 0))
        unfold set5 at HFin F0 F1 F2 F3 F4
        obtain ⟨r0, r1, r2, r3, r4⟩ := box5 C2.out
        obtain ⟨rf0, rf1, rf2, rf3, rf4⟩ := box5f C2.out
        obtain ⟨y0, y1, y2, y3, y4⟩ := box5 C4.out
        go_wp2
        refine bodyPost_ret (v := .tuple #[.agg #[.slice ya n yc, .bool false, .int .i64 0, .int .i64 0, .int .i64 0], .int .i64 0]) (by simp [results, Tryz.results7, go_sem, F0, F1, F2, F3, F4]) rfl ?_
        exact HFin.out
      | true =>
        have HRR := hid (show rdP (nowOf (getP (Y.map Fi.p) sH)) = (t, v) from by rw [HRR0.out, hT]; unfold pick2; dsimp only; rw [hr]; rfl)
        have HRt := hid (fun (W' : World) (u : Old w8 W') => show Calls Tryz.prog 26 #[.int .i64 t, .int .i64 v] W' fun e w' => e = .returned (.bool true) ∧ Old W' w' from by have q := rright_any t v W'; rw [hr] at q; exact q)
        clear hT hr HRR0
        have UD := hid ((Old.refl w8).drew)
        refine wp_region_noPanic ?_
        refine wp_region_held_drew (S := fun wz => wz.cell? ⟨b, off + 1, none⟩ = some (.int .i64 t) ∧ wz.cell? ⟨b, off + 6, none⟩ = some (.int .i64 v) ∧ wz.cell? ⟨b, off + 5 + 1, none⟩ = some (.int .i64 v)) (by kernel_rfl) ?_ (fun hHeld => ?_)
        · exact (S3.old ((Old.refl w8).drew) HS8.out)
        (try simp only [Act.put]); (try simp only [List.setIfInBounds_toArray]); (try simp only [List.set_cons_succ]); (try simp only [List.set_cons_zero])
        clear hHeld
        refine wpAnyH_take (i := 0) (oi := { dst := some 66, op := Op.move (Operand.tmp 13), type := 3, pos := "ref.go:51", after := #[], guard := none }) (v := ?vk18) rfl (by kernel_rfl) (by kernel_rfl) (by kernel_rfl) (fun _ _ _ h => h) (Or.inl ⟨by rfl, ?hk18⟩) (S3.old ((Old.refl w8).drew) HS8.out) ?rk18
        case hk18 => (intro wz hSw; (try dsimp only at hSw); go_simp; try with_reducible rfl)
        (try simp only [Act.put]); (try simp only [List.setIfInBounds_toArray]); (try simp only [List.set_cons_succ]); (try simp only [List.set_cons_zero])
        refine wpAnyH_take (i := 1) (oi := { dst := some 67, op := Op.binOp BinOp.eql 3 (Operand.tmp 66) (Operand.const (Value.int IntKind.i64 0)) 3, type := 4, pos := "ref.go:51", after := #[{ on := 0, ground := Ground.data }], guard := none }) (v := ?vk19) rfl (by kernel_rfl) (by kernel_rfl) (by kernel_rfl) (fun _ _ _ h => h) (Or.inl ⟨by rfl, ?hk19⟩) (S3.old ((Old.refl w8).drew) HS8.out) ?rk19
        case hk19 => (intro wz hSw; (try dsimp only at hSw); go_simp; try with_reducible rfl)
        (try simp only [Act.put]); (try simp only [List.setIfInBounds_toArray]); (try simp only [List.set_cons_succ]); (try simp only [List.set_cons_zero])
        refine wpAnyH_take (i := 2) (oi := { dst := some 68, op := Op.move (Operand.tmp 67), type := 4, pos := "ref.go:51", after := #[{ on := 1, ground := Ground.data }], guard := none }) (v := ?vk20) rfl (by kernel_rfl) (by kernel_rfl) (by kernel_rfl) (fun _ _ _ h => h) (Or.inl ⟨by rfl, ?hk20⟩) (S3.old ((Old.refl w8).drew) HS8.out) ?rk20
        case hk20 => (intro wz hSw; (try dsimp only at hSw); go_simp; try with_reducible rfl)
        (try simp only [Act.put]); (try simp only [List.setIfInBounds_toArray]); (try simp only [List.set_cons_succ]); (try simp only [List.set_cons_zero])
        refine wpAnyH_take (i := 3) (oi := { dst := some 69, op := Op.move (Operand.tmp 12), type := 75, pos := "ref.go:51", after := #[{ on := 2, ground := Ground.guard }], guard := some (2, true) }) (v := ?vk21) rfl (by kernel_rfl) (by kernel_rfl) (by kernel_rfl) (fun _ _ _ h => h) (Or.inl ⟨by rfl, ?hk21⟩) (S3.old ((Old.refl w8).drew) HS8.out) ?rk21
        case hk21 => (intro wz hSw; (try dsimp only at hSw); go_simp; try with_reducible rfl)
        (try simp only [Act.put]); (try simp only [List.setIfInBounds_toArray]); (try simp only [List.set_cons_succ]); (try simp only [List.set_cons_zero])
        refine wpAnyH_take (i := 4) (oi := { dst := some 70, op := Op.indexAddr 75 (Operand.tmp 69) (Operand.const (Value.int IntKind.i64 0)), type := 0, pos := "ref.go:51", after := #[{ on := 3, ground := Ground.data }, { on := 2, ground := Ground.guard }], guard := some (2, true) }) (v := ?vk22) rfl (by kernel_rfl) (by kernel_rfl) (by kernel_rfl) (fun _ _ _ h => h) (Or.inl ⟨by rfl, ?hk22⟩) (S3.old ((Old.refl w8).drew) HS8.out) ?rk22
        case hk22 => (intro wz hSw; (try dsimp only at hSw); go_simp; try with_reducible rfl)
        (try simp only [Act.put]); (try simp only [List.setIfInBounds_toArray]); (try simp only [List.set_cons_succ]); (try simp only [List.set_cons_zero])
        refine wpAnyH_take (i := 5) (oi := { dst := some 71, op := Op.fieldAddr 82 (Operand.tmp 70) 1, type := 0, pos := "ref.go:51", after := #[{ on := 4, ground := Ground.data }, { on := 2, ground := Ground.guard }], guard := some (2, true) }) (v := ?vk23) rfl (by kernel_rfl) (by kernel_rfl) (by kernel_rfl) (fun _ _ _ h => h) (Or.inl ⟨by rfl, ?hk23⟩) (S3.old ((Old.refl w8).drew) HS8.out) ?rk23
        case hk23 => (intro wz hSw; (try dsimp only at hSw); go_simp; try with_reducible rfl)
        (try simp only [Act.put]); (try simp only [List.setIfInBounds_toArray]); (try simp only [List.set_cons_succ]); (try simp only [List.set_cons_zero])
        refine wpAnyH_take (i := 6) (oi := { dst := some 72, op := Op.load 2 (Operand.tmp 71), type := 2, pos := "ref.go:51", after := #[{ on := 5, ground := Ground.data }, { on := 2, ground := Ground.guard }], guard := some (2, true) }) (v := ?vk24) rfl (by kernel_rfl) (by kernel_rfl) (by kernel_rfl) (fun _ _ _ h => h) (Or.inl ⟨by rfl, ?hk24⟩) (S3.old ((Old.refl w8).drew) HS8.out) ?rk24
        case hk24 => (intro wz hSw; (try dsimp only at hSw); go_simp; try with_reducible rfl)
        (try simp only [Act.put]); (try simp only [List.setIfInBounds_toArray]); (try simp only [List.set_cons_succ]); (try simp only [List.set_cons_zero])
        refine wpAnyH_take (i := 7) (oi := { dst := some 73, op := Op.move (Operand.tmp 12), type := 75, pos := "ref.go:51", after := #[{ on := 2, ground := Ground.guard }], guard := some (2, true) }) (v := ?vk25) rfl (by kernel_rfl) (by kernel_rfl) (by kernel_rfl) (fun _ _ _ h => h) (Or.inl ⟨by rfl, ?hk25⟩) (S3.old ((Old.refl w8).drew) HS8.out) ?rk25
        case hk25 => (intro wz hSw; (try dsimp only at hSw); go_simp; try with_reducible rfl)
        (try simp only [Act.put]); (try simp only [List.setIfInBounds_toArray]); (try simp only [List.set_cons_succ]); (try simp only [List.set_cons_zero])
        refine wpAnyH_take (i := 8) (oi := { dst := some 74, op := Op.indexAddr 75 (Operand.tmp 73) (Operand.const (Value.int IntKind.i64 1)), type := 0, pos := "ref.go:51", after := #[{ on := 7, ground := Ground.data }, { on := 2, ground := Ground.guard }], guard := some (2, true) }) (v := ?vk26) rfl (by kernel_rfl) (by kernel_rfl) (by kernel_rfl) (fun _ _ _ h => h) (Or.inl ⟨by rfl, ?hk26⟩) (S3.old ((Old.refl w8).drew) HS8.out) ?rk26
        case hk26 => (intro wz hSw; (try dsimp only at hSw); go_simp; try with_reducible rfl)
        (try simp only [Act.put]); (try simp only [List.setIfInBounds_toArray]); (try simp only [List.set_cons_succ]); (try simp only [List.set_cons_zero])
        refine wpAnyH_take (i := 9) (oi := { dst := some 75, op := Op.fieldAddr 82 (Operand.tmp 74) 1, type := 0, pos := "ref.go:51", after := #[{ on := 8, ground := Ground.data }, { on := 2, ground := Ground.guard }], guard := some (2, true) }) (v := ?vk27) rfl (by kernel_rfl) (by kernel_rfl) (by kernel_rfl) (fun _ _ _ h => h) (Or.inl ⟨by rfl, ?hk27⟩) (S3.old ((Old.refl w8).drew) HS8.out) ?rk27
        case hk27 => (intro wz hSw; (try dsimp only at hSw); go_simp; try with_reducible rfl)
        (try simp only [Act.put]); (try simp only [List.setIfInBounds_toArray]); (try simp only [List.set_cons_succ]); (try simp only [List.set_cons_zero])
        refine wpAnyH_take (i := 10) (oi := { dst := some 76, op := Op.load 2 (Operand.tmp 75), type := 2, pos := "ref.go:51", after := #[{ on := 9, ground := Ground.data }, { on := 2, ground := Ground.guard }], guard := some (2, true) }) (v := ?vk28) rfl (by kernel_rfl) (by kernel_rfl) (by kernel_rfl) (fun _ _ _ h => h) (Or.inl ⟨by rfl, ?hk28⟩) (S3.old ((Old.refl w8).drew) HS8.out) ?rk28
        case hk28 => (intro wz hSw; (try dsimp only at hSw); go_simp; try with_reducible rfl)
        (try simp only [Act.put]); (try simp only [List.setIfInBounds_toArray]); (try simp only [List.set_cons_succ]); (try simp only [List.set_cons_zero])
        refine wpAnyH_ready (rs := [11]) (by kernel_rfl) (by simp) ?_
        refine AllReadyH.cons (o := { dst := some 77, op := Op.call { callee := Callee.value (Operand.func 26), args := #[Operand.tmp 72, Operand.tmp 76], argTypes := #[2, 2] }, type := 4, pos := "ref.go:51", after := #[{ on := 6, ground := Ground.data }, { on := 10, ground := Ground.data }, { on := 2, ground := Ground.chain }, { on := 2, ground := Ground.guard }], guard := some (2, true) }) rfl (fun K hK => ?_) AllReadyH.nil
        refine wantCall2 ?_ 26 (.tmp 72) (.tmp 76) #[2, 2] ?_ (.int .i64 t) (.int .i64 v) ?_ ?_ ?_ ((enters_of Tryz.func26 (by kernel_rfl) rfl) _ _) ?_
        · rfl
        · rfl
        · rfl
        · rfl
        · rfl
        refine (HRt.out _ ((Old.refl w8).drew)).mono ?_
        rintro o w9 ⟨rfl, ux⟩
        have UX := hid (UD.out.trans ux)
        have SB := S3.old UX.out HS8.out
        clear ux
        refine ⟨_, rfl, ?_⟩
        refine hK.out _ _ SB (fun _ => ?_)
        clear hK K
        (try simp only [Act.put]); (try simp only [List.setIfInBounds_toArray]); (try simp only [List.set_cons_succ]); (try simp only [List.set_cons_zero])
        refine wpAnyH_take (i := 12) (oi := { dst := some 78, op := Op.pick (Operand.tmp 68) (Operand.tmp 77) (Operand.const (Value.bool false)), type := 4, pos := "ref.go:51", after := #[{ on := 2, ground := Ground.data }, { on := 11, ground := Ground.data }], guard := none }) (v := ?vk30) rfl (by kernel_rfl) (by kernel_rfl) (by kernel_rfl) (fun _ _ _ h => h) (Or.inl ⟨by rfl, ?hk30⟩) SB ?rk30
        case hk30 => (intro wz hSw; (try dsimp only at hSw); go_simp; try with_reducible rfl)
        (try simp only [Act.put]); (try simp only [List.setIfInBounds_toArray]); (try simp only [List.set_cons_succ]); (try simp only [List.set_cons_zero])
        refine wpAnyH_done (by kernel_rfl) ?_ _
        refine NoPanic.normal ?_
        have HS9 := hid SB
        clear SB HS8 HRt UD
        have HV := hid (HV.out.trans UX.out)
        have HZ := hid (HZ.out.old UX.out)
        have C2 := hid (UX.out.block C2.out)
        have C4 := hid (UX.out.block C4.out)
        obtain ⟨s1, s2, s3⟩ := HS9.out
        obtain ⟨y0, y1, y2, y3, y4⟩ := box5 C4.out
        obtain ⟨yf0, yf1, yf2, yf3, yf4⟩ := box5f C4.out
        go_upto_region 19 with (fail)
        have D2 := hid (show ((w9.setCell ⟨g4, 3, none⟩ (.int .i64 t)).setCell ⟨g4, 4, none⟩ (.int .i64 v)).heap[g2]? = _ from set_other (set_other C2.out n24) n24)
        have D4 := hid (show ((w9.setCell ⟨g4, 3, none⟩ (.int .i64 t)).setCell ⟨g4, 4, none⟩ (.int .i64 v)).heap[g4]? = some (.cells #[.slice ya n yc, .bool false, .int .i64 0, .int .i64 t, .int .i64 v] 34 (0, 0)) from Go.Joins.block_setCell (Go.Joins.block_setCell C4.out (.int .i64 t) (i := 3)) (.int .i64 v) (i := 4))
        have CH := hid (show Chg [g4] w9 ((w9.setCell ⟨g4, 3, none⟩ (.int .i64 t)).setCell ⟨g4, 4, none⟩ (.int .i64 v)) from (Chg.set (S := [g4]) w9 ⟨g4, 3, none⟩ _ (by simp)).trans (Chg.set (S := [g4]) _ ⟨g4, 4, none⟩ _ (by simp)))
        have HZ := hid (HZ.out.chgH CH.out C4.out)
        have HV := hid (CH.out.oldOf HV.out (fun k hk => by rw [List.mem_singleton.1 hk]; have := HLt.out; omega))
        clear y0 y1 y2 y3 y4 yf0 yf1 yf2 yf3 yf4 s1 s2 s3 C2 C4 CH HS9
        generalize ((w9.setCell ⟨g4, 3, none⟩ (.int .i64 t)).setCell ⟨g4, 4, none⟩ (.int .i64 v)) = w10 at *
        have C2 := hid D2.out
        have C4 := hid D4.out
        clear D2 D4
        have HFin := hid (HF.out w10 ya n yc Y t v _ HV.out C2.out HZ.out HZn.out HZB.out HZP.out HRR.out)
        obtain ⟨F0, F1, F2, F3, F4⟩ := box5 (box5_set C2.out (.slice ya n yc) (.bool false) (.int .i64 0) (.int .i64 t) (.int .i64 v))
        unfold set5 at HFin F0 F1 F2 F3 F4
        obtain ⟨r0, r1, r2, r3, r4⟩ := box5 C2.out
        obtain ⟨rf0, rf1, rf2, rf3, rf4⟩ := box5f C2.out
        obtain ⟨y0, y1, y2, y3, y4⟩ := box5 C4.out
        go_wp2
        refine bodyPost_ret (v := .tuple #[.agg #[.slice ya n yc, .bool false, .int .i64 0, .int .i64 t, .int .i64 v], .int .i64 0]) (by simp [results, Tryz.results7, go_sem, F0, F1, F2, F3, F4]) rfl ?_
        exact HFin.out
  have HZT := hid zT
  clear zT
  have HGT := hid (show (getP (Y.map Fi.p) sT).isSome = true from by cases e : getP (Y.map Fi.p) sT with | some x => rfl | none => exact absurd (fun y hy => getP_of_none e y.p (List.mem_map.2 ⟨y, hy, rfl⟩)) HZT.out)
  have HDo := hid (fun (W' : World) (u : Old W W') => show Calls Tryz.prog 22 #[.agg #[.slice ya n yc, .bool false, .int .i64 0], .agg #[.int .i64 2, .string sT, .string ByteArray.empty, .int .i64 0, .slice none 0 0]] W' (RP W' (docB (.slice ya n yc) Y) (delP (Y.map Fi.p) sT) false 0 0) from by have hn := HN.out; have hd := HD.out.old u; have hle := HLe.out; subst hn; have q := rdo_any W' ya yc Y false 0 ⟨2, sT, ByteArray.empty, 0, .slice none 0 0, [], .slice none 0 0, []⟩ hd hle HNd.out (by omega) (.inl ⟨rfl, none, 0, rfl, fun _ => rfl⟩) (by simp); rw [show stD false 0 = false from rfl, show stF false 0 = 0 from rfl, (do_two HGT.out).1, (do_two HGT.out).2] at q; exact q)
  go_upto_region 5 with (go_at_call 21; refine (HFi.out _ ya n yc Y false 0 sT (HD.out.old HU.out).row HN.out (by have := HLe.out; have := HN.out; omega)).mono ?_; rintro e w1 ⟨r, rfl, fr, u1⟩; obtain ⟨q, hr⟩ := fr.pos HZT.out; subst hr; clear fr; have hqn : (0 : Int) ≤ (q : Int) := (by omega); have U1 := hid u1; clear u1)
  clear hqn
  have k0 := U1.out.keep x0
  have k1 := U1.out.keep x1
  have k2 := U1.out.keep x2
  have C2 := hid (U1.out.block B2.out)
  have C4 := hid (U1.out.block B4.out)
  have HV := hid (HU.out.trans U1.out)
  clear x0 x1 x2 HZT B0 B2 B4 HU
  go_upto_region 6 with (go_at_call 22; refine (HDo.out _ HV.out).mono ?_; rintro e w2 ⟨za, zc, Z, rfl, dz, pz, u2, bz⟩; obtain ⟨zn, hzn⟩ : ∃ zn, zn = Z.length := ⟨_, rfl⟩; rw [← hzn] at dz bz ⊢; have HZn := hid hzn; have HZ0 := hid dz; have HPz := hid pz; have U2 := hid u2; have HBz := hid bz; clear dz pz u2 bz hzn)
  clear k0 k1 k2 HDo
  have HZB := hid (show ∀ g ∈ docB (.slice za zn zc) Z, g ∈ BB ∨ W.heap.size ≤ g from fun g hg => by rcases HBz.out g hg with k | k; exact .inl (HBB.out g k); exact .inr (by have := HV.out.size; omega))
  have HZP := hid (show Z.map Fi.p = opF (Y.map Fi.p) from by unfold opF; rw [if_pos HGT.out]; exact HPz.out)
  have HZl := hid (show Z.length ≤ 256 from by have e1 := congrArg List.length HPz.out; have e2 : (delP (Y.map Fi.p) sT).length ≤ (Y.map Fi.p).length := List.length_filter_le _ _; rw [List.length_map] at e1 e2; have := HLe.out; have := HN.out; omega)
  have HZd := hid (show ((Z.map Fi.p).map (·.1)).Nodup from by rw [HPz.out]; exact List.Nodup.sublist (List.Sublist.map _ List.filter_sublist) HNd.out)
  have B5 := hid (alloc_at w2 (.cells #[.slice za zn zc, .bool false, .int .i64 0] 32))
  have U3 := hid (show Old w2 (w2.alloc (.cells #[.slice za zn zc, .bool false, .int .i64 0] 32)) from (Old.refl w2).alloc _)
  generalize (w2.alloc (.cells #[.slice za zn zc, .bool false, .int .i64 0] 32)) = w3 at *
  obtain ⟨g5, hg5⟩ : ∃ g5, g5 = w2.heap.size := ⟨_, rfl⟩
  rw [← hg5] at B5 ⊢
  clear hg5
  have HV := hid ((HV.out.trans U2.out).trans U3.out)
  have C2 := hid (U3.out.block (U2.out.block C2.out))
  have C4 := hid (U3.out.block (U2.out.block C4.out))
  have HZ0 := hid (HZ0.out.old U3.out)
  clear HBz HPz U1 U2 U3 HD HLe HNd HBB HN HGT
  obtain ⟨x0, x1, x2, -, -, -⟩ := box3 B5.out
  obtain ⟨y0, y1, y2, y3, y4⟩ := box5 C4.out
  obtain ⟨yf0, yf1, yf2, yf3, yf4⟩ := box5f C4.out
  go_upto_region 9 with (fail)
  have D2 := hid (show (((w3.setCell ⟨g4, 0, none⟩ (.slice za zn zc)).setCell ⟨g4, 1, none⟩ (.bool false)).setCell ⟨g4, 2, none⟩ (.int .i64 0)).heap[g2]? = _ from set_other (set_other (set_other C2.out n24) n24) n24)
  have D4 := hid (show (((w3.setCell ⟨g4, 0, none⟩ (.slice za zn zc)).setCell ⟨g4, 1, none⟩ (.bool false)).setCell ⟨g4, 2, none⟩ (.int .i64 0)).heap[g4]? = some (.cells #[.slice za zn zc, .bool false, .int .i64 0, .int .i64 0, .int .i64 0] 34 (0, 0)) from Go.Joins.block_setCell (Go.Joins.block_setCell (Go.Joins.block_setCell C4.out (.slice za zn zc) (i := 0)) (.bool false) (i := 1)) (.int .i64 0) (i := 2))
  have CH := hid (show Chg [g4] w3 (((w3.setCell ⟨g4, 0, none⟩ (.slice za zn zc)).setCell ⟨g4, 1, none⟩ (.bool false)).setCell ⟨g4, 2, none⟩ (.int .i64 0)) from ((Chg.set (S := [g4]) w3 ⟨g4, 0, none⟩ _ (by simp)).trans (Chg.set (S := [g4]) _ ⟨g4, 1, none⟩ _ (by simp))).trans (Chg.set (S := [g4]) _ ⟨g4, 2, none⟩ _ (by simp)))
  have HZ := hid (HZ0.out.chgH CH.out C4.out)
  have HV := hid (CH.out.oldOf HV.out (fun k hk => by rw [List.mem_singleton.1 hk]; have := HLt.out; omega))
  clear x0 x1 x2 y0 y1 y2 y3 y4 yf0 yf1 yf2 yf3 yf4 C2 C4 CH HZ0 B5
  generalize (((w3.setCell ⟨g4, 0, none⟩ (.slice za zn zc)).setCell ⟨g4, 1, none⟩ (.bool false)).setCell ⟨g4, 2, none⟩ (.int .i64 0)) = w4 at *
  have C2 := hid D2.out
  have C4 := hid D4.out
  clear D2 D4
  by_cases zH : ∀ z ∈ Z, z.nm ≠ sH
  · skip
    have HRR := hid (show rdP (nowOf (getP (Y.map Fi.p) sH)) = (0, 0) from by rw [← opF_H, ← HZP.out, getP_none (fun q hq => by obtain ⟨z, hz, rfl⟩ := List.mem_map.1 hq; exact zH z hz)]; exact rd_nil)
    have HZH := hid zH
    clear zH
    obtain ⟨y0, y1, y2, -, -⟩ := box5 C4.out
    go_upto_region 10 with (go_at_call 21; refine (HFi.out _ za zn zc Z false 0 sH HZ.out.row HZn.out (by have := HZl.out; omega)).mono ?_; rintro e w5 ⟨r, rfl, fr, u5⟩; rcases fr with ⟨hr, -⟩ | ⟨q, -, hq, hq2⟩; rotate_left; exact absurd hq2 (HZH.out _ (List.getElem_mem hq)); subst hr; have U5 := hid u5; clear u5)
    clear y0 y1 y2
    have HV := hid (HV.out.trans U5.out)
    have HZ := hid (HZ.out.old U5.out)
    have C2 := hid (U5.out.block C2.out)
    have C4 := hid (U5.out.block C4.out)
    have HFin := hid (HF.out w5 za zn zc Z 0 0 _ HV.out C2.out HZ.out HZn.out HZB.out HZP.out HRR.out)
    obtain ⟨F0, F1, F2, F3, F4⟩ := box5 (box5_set C2.out (.slice za zn zc) (.bool false) (.int .i64 0) (.int .i64 0) (.int .i64 0))
    unfold set5 at HFin F0 F1 F2 F3 F4
    obtain ⟨r0, r1, r2, r3, r4⟩ := box5 C2.out
    obtain ⟨rf0, rf1, rf2, rf3, rf4⟩ := box5f C2.out
    obtain ⟨y0, y1, y2, y3, y4⟩ := box5 C4.out
    go_wp2
    refine bodyPost_ret (v := .tuple #[.agg #[.slice za zn zc, .bool false, .int .i64 0, .int .i64 0, .int .i64 0], .int .i64 0]) (by simp [results, Tryz.results7, go_sem, F0, F1, F2, F3, F4]) rfl ?_
    exact HFin.out
  obtain ⟨z, hz, hzn⟩ : ∃ z ∈ Z, z.nm = sH := by simpa using zH
  clear zH
  have HGt := hid (show getP (Z.map Fi.p) sH = some ⟨z.now, z.safe⟩ from by have := getP_mem HZd.out (q := z.p) (List.mem_map.2 ⟨z, hz, rfl⟩); rw [show z.p.1 = sH from hzn] at this; exact this)
  have HRc := hid (show readC ⟨Z.map Fi.p, false, 0⟩ sH = 0 from by rw [readC1, mH, HGt.out]; simp)
  have HRl := hid (show readL ⟨Z.map Fi.p, false, 0⟩ sH = z.now from by unfold readL; rw [HRc.out, if_pos rfl]; unfold fileAt; rw [HGt.out]; rfl)
  have HnL := hid (show rdP (nowOf (getP (Y.map Fi.p) sH)) = rdP z.now from by rw [← opF_H, ← HZP.out, HGt.out]; rfl)
  have HZH := hid (show ¬ ∀ y ∈ Z, y.nm ≠ sH from fun k => k z hz hzn)
  clear hz hzn HGt
  generalize z.now = L at *
  clear z
  obtain ⟨y0, y1, y2, -, -⟩ := box5 C4.out
  go_upto_region 11 with (go_at_call 21; refine (HFi.out _ za zn zc Z false 0 sH HZ.out.row HZn.out (by have := HZl.out; omega)).mono ?_; rintro e w5 ⟨r, rfl, fr, u5⟩; obtain ⟨q, hr⟩ := fr.pos HZH.out; subst hr; clear fr; have hqn : ¬ (q : Int) < 0 := (by omega); have U5 := hid u5; clear u5)
  clear y0 y1 y2 hqn HZH
  have HV := hid (HV.out.trans U5.out)
  have HZ := hid (HZ.out.old U5.out)
  have C2 := hid (U5.out.block C2.out)
  have C4 := hid (U5.out.block C4.out)
  obtain ⟨y0, y1, y2, -, -⟩ := box5 C4.out
  go_upto_region 12 with (go_at_call 23; refine (HRd.out _ za zn zc Z sH HZ.out HZn.out HZl.out HZd.out).mono ?_; rintro e w6 ⟨v6, rfl, o6, u6, -⟩; rw [HRc.out]; rw [HRl.out] at o6; obtain ⟨a6, c6, rfl⟩ := o6.len; have O6 := hid o6; have U6 := hid u6; clear o6 u6)
  clear y0 y1 y2 HRc HRl HRd HFi
  have HV := hid (HV.out.trans U6.out)
  have HZ := hid (HZ.out.old U6.out)
  have C2 := hid (U6.out.block C2.out)
  have C4 := hid (U6.out.block C4.out)
  have HUn := hid (fun (W' : World) (u : Old w6 W') => Pk.refUnframe_any (.slice a6 L.length c6) L.length (gd L) W' (O6.out.row.old u))
  by_cases cE : Pk.unfE L.length (gd L) = 0
  rotate_left
  · skip
    have HRR := hid (show rdP (nowOf (getP (Y.map Fi.p) sH)) = (0, 0) from by rw [HnL.out, rd_tk2, if_neg (fun e => cE e.1)])
    generalize Pk.unfE L.length (gd L) = E at *
    generalize Pk.unfM L.length (gd L) = M at *
    have d1 : ((E : Int) == 0) = false := by rw [beq_eq_false_iff_ne]; omega
    have d2 : ¬ (E : Int) = 0 := by omega
    go_upto_region 14 with (go_at_call 24; refine (HUn.out _ (Old.refl _)).mono ?_; rintro e w7 ⟨v7, rfl, o7, u7⟩; have O7 := hid o7; have U7 := hid (show Old w6 w7 from u7); clear o7 u7)
    clear d1 d2
    have HV := hid (HV.out.trans U7.out)
    have HZ := hid (HZ.out.old U7.out)
    have C2 := hid (U7.out.block C2.out)
    have C4 := hid (U7.out.block C4.out)
    have HFin := hid (HF.out w7 za zn zc Z 0 0 _ HV.out C2.out HZ.out HZn.out HZB.out HZP.out HRR.out)
    obtain ⟨F0, F1, F2, F3, F4⟩ := box5 (box5_set C2.out (.slice za zn zc) (.bool false) (.int .i64 0) (.int .i64 0) (.int .i64 0))
    unfold set5 at HFin F0 F1 F2 F3 F4
    obtain ⟨r0, r1, r2, r3, r4⟩ := box5 C2.out
    obtain ⟨rf0, rf1, rf2, rf3, rf4⟩ := box5f C2.out
    obtain ⟨y0, y1, y2, y3, y4⟩ := box5 C4.out
    go_wp2
    refine bodyPost_ret (v := .tuple #[.agg #[.slice za zn zc, .bool false, .int .i64 0, .int .i64 0, .int .i64 0], .int .i64 0]) (by simp [results, Tryz.results7, go_sem, F0, F1, F2, F3, F4]) rfl ?_
    exact HFin.out
  obtain ⟨eM, eL⟩ := unf_yes cE
  rw [cE, eM, eL] at HUn
  by_cases cM : 8 + Pk.w32 (gd L) = L.length
  rotate_left
  · skip
    have HRR := hid (show rdP (nowOf (getP (Y.map Fi.p) sH)) = (0, 0) from by rw [HnL.out, rd_tk2, if_neg (fun e => cM e.2)])
    generalize 8 + Pk.w32 (gd L) = M at *
    have d1 : ((M : Int) == (L.length : Int)) = false := by rw [beq_eq_false_iff_ne]; omega
    have d2 : ¬ (M : Int) = (L.length : Int) := by omega
    go_upto_region 14 with (go_at_call 24; refine (HUn.out _ (Old.refl _)).mono ?_; rintro e w7 ⟨v7, rfl, o7, u7⟩; have O7 := hid o7; have U7 := hid (show Old w6 w7 from u7); clear o7 u7)
    clear d1 d2
    have HV := hid (HV.out.trans U7.out)
    have HZ := hid (HZ.out.old U7.out)
    have C2 := hid (U7.out.block C2.out)
    have C4 := hid (U7.out.block C4.out)
    have HFin := hid (HF.out w7 za zn zc Z 0 0 _ HV.out C2.out HZ.out HZn.out HZB.out HZP.out HRR.out)
    obtain ⟨F0, F1, F2, F3, F4⟩ := box5 (box5_set C2.out (.slice za zn zc) (.bool false) (.int .i64 0) (.int .i64 0) (.int .i64 0))
    unfold set5 at HFin F0 F1 F2 F3 F4
    obtain ⟨r0, r1, r2, r3, r4⟩ := box5 C2.out
    obtain ⟨rf0, rf1, rf2, rf3, rf4⟩ := box5f C2.out
    obtain ⟨y0, y1, y2, y3, y4⟩ := box5 C4.out
    go_wp2
    refine bodyPost_ret (v := .tuple #[.agg #[.slice za zn zc, .bool false, .int .i64 0, .int .i64 0, .int .i64 0], .int .i64 0]) (by simp [results, Tryz.results7, go_sem, F0, F1, F2, F3, F4]) rfl ?_
    exact HFin.out
  have HRR0 := hid (show rdP (nowOf (getP (Y.map Fi.p) sH)) = pick2 (tk2 (L.drop 8)) from by rw [HnL.out, rd_tk2, if_pos ⟨cE, cM⟩])
  have HPl := hid (show (L.drop 8).length = Pk.w32 (gd L) from by rw [List.length_drop]; omega)
  have HPg := hid (gd_drop L 8)
  rw [cM] at HUn
  obtain ⟨P, hP⟩ : ∃ P, L.drop 8 = P := ⟨_, rfl⟩
  rw [hP] at HRR0 HPl HPg
  clear hP cE cM eM eL HnL
  go_upto_region 15 with (go_at_call 24; refine (HUn.out _ (Old.refl _)).mono ?_; rintro e w7 ⟨v7, rfl, o7, u7⟩; have o8 : Own w7 v7 P := (by unfold Own; rw [HPl.out, HPg.out]; exact o7.mono (Nat.zero_le _)); obtain ⟨a7, c7, rfl⟩ := o8.len; have O8 := hid o8; have U7 := hid (show Old w6 w7 from u7); clear o7 o8 u7)
  clear HUn HPl HPg O6
  have HV := hid (HV.out.trans U7.out)
  have HZ := hid (HZ.out.old U7.out)
  have C2 := hid (U7.out.block C2.out)
  have C4 := hid (U7.out.block C4.out)
  have HGet := hid (fun (W' : World) (g : Nat) (u : Old w7 W') (hg : W'.heap[g]? = some (.cells #[.int .i64 1, .int .i64 1] 3 (0, 0))) => get2_any a7 c7 g P W' (O8.out.row.old u) hg)
  generalize P.length = pl at *
  cases hT : tk2 P with
  | none =>
    have HRR := hid (show rdP (nowOf (getP (Y.map Fi.p) sH)) = (0, 0) from by rw [HRR0.out, hT]; rfl)
    go_upto_region 16 with (go_at_call 25; refine (HGet.out _ _ ((Old.refl w7).alloc _) (alloc_at w7 _)).mono ?_; rintro e w8 ⟨u8, q8⟩; have q9 := q8.resolve_right (fun k => (by obtain ⟨t, v, b, off, cap, k1, -⟩ := k; rw [hT] at k1; cases k1)); obtain ⟨-, rfl⟩ := q9; have U8 := hid (show Old w7 w8 from ((Old.refl w7).alloc _).trans u8); clear u8 q8)
    clear HGet O8 hT HRR0
    have HV := hid (HV.out.trans U8.out)
    have HZ := hid (HZ.out.old U8.out)
    have C2 := hid (U8.out.block C2.out)
    have C4 := hid (U8.out.block C4.out)
    have UD := hid ((Old.refl w8).drew)
    refine wp_region_noPanic ?_
    refine wp_region_held_drew (S := fun wz => Old w8 wz) (by kernel_rfl) ?_ (fun hHeld => ?_)
    · exact ((Old.refl w8).drew)
    (try simp only [Act.put]); (try simp only [List.setIfInBounds_toArray]); (try simp only [List.set_cons_succ]); (try simp only [List.set_cons_zero])
    clear hHeld
    refine wpAnyH_take (i := 0) (oi := { dst := some 66, op := Op.move (Operand.tmp 13), type := 3, pos := "ref.go:51", after := #[], guard := none }) (v := ?vk31) rfl (by kernel_rfl) (by kernel_rfl) (by kernel_rfl) (fun _ _ _ h => h) (Or.inl ⟨by rfl, ?hk31⟩) ((Old.refl w8).drew) ?rk31
    case hk31 => (intro wz hSw; (try dsimp only at hSw); go_simp; try with_reducible rfl)
    (try simp only [Act.put]); (try simp only [List.setIfInBounds_toArray]); (try simp only [List.set_cons_succ]); (try simp only [List.set_cons_zero])
    refine wpAnyH_take (i := 1) (oi := { dst := some 67, op := Op.binOp BinOp.eql 3 (Operand.tmp 66) (Operand.const (Value.int IntKind.i64 0)) 3, type := 4, pos := "ref.go:51", after := #[{ on := 0, ground := Ground.data }], guard := none }) (v := ?vk32) rfl (by kernel_rfl) (by kernel_rfl) (by kernel_rfl) (fun _ _ _ h => h) (Or.inl ⟨by rfl, ?hk32⟩) ((Old.refl w8).drew) ?rk32
    case hk32 => (intro wz hSw; (try dsimp only at hSw); go_simp; try with_reducible rfl)
    (try simp only [Act.put]); (try simp only [List.setIfInBounds_toArray]); (try simp only [List.set_cons_succ]); (try simp only [List.set_cons_zero])
    refine wpAnyH_take (i := 2) (oi := { dst := some 68, op := Op.move (Operand.tmp 67), type := 4, pos := "ref.go:51", after := #[{ on := 1, ground := Ground.data }], guard := none }) (v := ?vk33) rfl (by kernel_rfl) (by kernel_rfl) (by kernel_rfl) (fun _ _ _ h => h) (Or.inl ⟨by rfl, ?hk33⟩) ((Old.refl w8).drew) ?rk33
    case hk33 => (intro wz hSw; (try dsimp only at hSw); go_simp; try with_reducible rfl)
    (try simp only [Act.put]); (try simp only [List.setIfInBounds_toArray]); (try simp only [List.set_cons_succ]); (try simp only [List.set_cons_zero])
    refine wpAnyH_take (i := 3) (oi := { dst := some 69, op := Op.move (Operand.tmp 12), type := 75, pos := "ref.go:51", after := #[{ on := 2, ground := Ground.guard }], guard := some (2, true) }) (v := undef) rfl (by kernel_rfl) (by kernel_rfl) (by kernel_rfl) (fun _ _ _ h => h) (Or.inr ⟨by rfl, rfl⟩) ((Old.refl w8).drew) ?_
    (try simp only [Act.put]); (try simp only [List.setIfInBounds_toArray]); (try simp only [List.set_cons_succ]); (try simp only [List.set_cons_zero])
    refine wpAnyH_take (i := 4) (oi := { dst := some 70, op := Op.indexAddr 75 (Operand.tmp 69) (Operand.const (Value.int IntKind.i64 0)), type := 0, pos := "ref.go:51", after := #[{ on := 3, ground := Ground.data }, { on := 2, ground := Ground.guard }], guard := some (2, true) }) (v := undef) rfl (by kernel_rfl) (by kernel_rfl) (by kernel_rfl) (fun _ _ _ h => h) (Or.inr ⟨by rfl, rfl⟩) ((Old.refl w8).drew) ?_
    (try simp only [Act.put]); (try simp only [List.setIfInBounds_toArray]); (try simp only [List.set_cons_succ]); (try simp only [List.set_cons_zero])
    refine wpAnyH_take (i := 5) (oi := { dst := some 71, op := Op.fieldAddr 82 (Operand.tmp 70) 1, type := 0, pos := "ref.go:51", after := #[{ on := 4, ground := Ground.data }, { on := 2, ground := Ground.guard }], guard := some (2, true) }) (v := undef) rfl (by kernel_rfl) (by kernel_rfl) (by kernel_rfl) (fun _ _ _ h => h) (Or.inr ⟨by rfl, rfl⟩) ((Old.refl w8).drew) ?_
    (try simp only [Act.put]); (try simp only [List.setIfInBounds_toArray]); (try simp only [List.set_cons_succ]); (try simp only [List.set_cons_zero])
    refine wpAnyH_take (i := 6) (oi := { dst := some 72, op := Op.load 2 (Operand.tmp 71), type := 2, pos := "ref.go:51", after := #[{ on := 5, ground := Ground.data }, { on := 2, ground := Ground.guard }], guard := some (2, true) }) (v := undef) rfl (by kernel_rfl) (by kernel_rfl) (by kernel_rfl) (fun _ _ _ h => h) (Or.inr ⟨by rfl, rfl⟩) ((Old.refl w8).drew) ?_
    (try simp only [Act.put]); (try simp only [List.setIfInBounds_toArray]); (try simp only [List.set_cons_succ]); (try simp only [List.set_cons_zero])
    refine wpAnyH_take (i := 7) (oi := { dst := some 73, op := Op.move (Operand.tmp 12), type := 75, pos := "ref.go:51", after := #[{ on := 2, ground := Ground.guard }], guard := some (2, true) }) (v := undef) rfl (by kernel_rfl) (by kernel_rfl) (by kernel_rfl) (fun _ _ _ h => h) (Or.inr ⟨by rfl, rfl⟩) ((Old.refl w8).drew) ?_
    (try simp only [Act.put]); (try simp only [List.setIfInBounds_toArray]); (try simp only [List.set_cons_succ]); (try simp only [List.set_cons_zero])
    refine wpAnyH_take (i := 8) (oi := { dst := some 74, op := Op.indexAddr 75 (Operand.tmp 73) (Operand.const (Value.int IntKind.i64 1)), type := 0, pos := "ref.go:51", after := #[{ on := 7, ground := Ground.data }, { on := 2, ground := Ground.guard }], guard := some (2, true) }) (v := undef) rfl (by kernel_rfl) (by kernel_rfl) (by kernel_rfl) (fun _ _ _ h => h) (Or.inr ⟨by rfl, rfl⟩) ((Old.refl w8).drew) ?_
    (try simp only [Act.put]); (try simp only [List.setIfInBounds_toArray]); (try simp only [List.set_cons_succ]); (try simp only [List.set_cons_zero])
    refine wpAnyH_take (i := 9) (oi := { dst := some 75, op := Op.fieldAddr 82 (Operand.tmp 74) 1, type := 0, pos := "ref.go:51", after := #[{ on := 8, ground := Ground.data }, { on := 2, ground := Ground.guard }], guard := some (2, true) }) (v := undef) rfl (by kernel_rfl) (by kernel_rfl) (by kernel_rfl) (fun _ _ _ h => h) (Or.inr ⟨by rfl, rfl⟩) ((Old.refl w8).drew) ?_
    (try simp only [Act.put]); (try simp only [List.setIfInBounds_toArray]); (try simp only [List.set_cons_succ]); (try simp only [List.set_cons_zero])
    refine wpAnyH_take (i := 10) (oi := { dst := some 76, op := Op.load 2 (Operand.tmp 75), type := 2, pos := "ref.go:51", after := #[{ on := 9, ground := Ground.data }, { on := 2, ground := Ground.guard }], guard := some (2, true) }) (v := undef) rfl (by kernel_rfl) (by kernel_rfl) (by kernel_rfl) (fun _ _ _ h => h) (Or.inr ⟨by rfl, rfl⟩) ((Old.refl w8).drew) ?_
    (try simp only [Act.put]); (try simp only [List.setIfInBounds_toArray]); (try simp only [List.set_cons_succ]); (try simp only [List.set_cons_zero])
    refine wpAnyH_take (i := 11) (oi := { dst := some 77, op := Op.call { callee := Callee.value (Operand.func 26), args := #[Operand.tmp 72, Operand.tmp 76], argTypes := #[2, 2] }, type := 4, pos := "ref.go:51", after := #[{ on := 6, ground := Ground.data }, { on := 10, ground := Ground.data }, { on := 2, ground := Ground.chain }, { on := 2, ground := Ground.guard }], guard := some (2, true) }) (v := undef) rfl (by kernel_rfl) (by kernel_rfl) (by kernel_rfl) (fun _ _ _ h => h) (Or.inr ⟨by rfl, rfl⟩) ((Old.refl w8).drew) ?_
    (try simp only [Act.put]); (try simp only [List.setIfInBounds_toArray]); (try simp only [List.set_cons_succ]); (try simp only [List.set_cons_zero])
    refine wpAnyH_take (i := 12) (oi := { dst := some 78, op := Op.pick (Operand.tmp 68) (Operand.tmp 77) (Operand.const (Value.bool false)), type := 4, pos := "ref.go:51", after := #[{ on := 2, ground := Ground.data }, { on := 11, ground := Ground.data }], guard := none }) (v := ?vk34) rfl (by kernel_rfl) (by kernel_rfl) (by kernel_rfl) (fun _ _ _ h => h) (Or.inl ⟨by rfl, ?hk34⟩) ((Old.refl w8).drew) ?rk34
    case hk34 => (intro wz hSw; (try dsimp only at hSw); go_simp; try with_reducible rfl)
    (try simp only [Act.put]); (try simp only [List.setIfInBounds_toArray]); (try simp only [List.set_cons_succ]); (try simp only [List.set_cons_zero])
    refine wpAnyH_done (by kernel_rfl) ?_ _
    refine NoPanic.normal ?_
    generalize World.drew w8 = w9 at *
    have HV := hid (HV.out.trans UD.out)
    have HZ := hid (HZ.out.old UD.out)
    have C2 := hid (UD.out.block C2.out)
    have C4 := hid (UD.out.block C4.out)
    have HFin := hid (HF.out w9 za zn zc Z 0 0 _ HV.out C2.out HZ.out HZn.out HZB.out HZP.out HRR.out)
    obtain ⟨F0, F1, F2, F3, F4⟩ := box5 (box5_set C2.out (.slice za zn zc) (.bool false) (.int .i64 0) (.int .i64 0) (.int .i64 0))
    unfold set5 at HFin F0 F1 F2 F3 F4
    obtain ⟨r0, r1, r2, r3, r4⟩ := box5 C2.out
    obtain ⟨rf0, rf1, rf2, rf3, rf4⟩ := box5f C2.out
    obtain ⟨y0, y1, y2, y3, y4⟩ := box5 C4.out
    go_wp2
    refine bodyPost_ret (v := .tuple #[.agg #[.slice za zn zc, .bool false, .int .i64 0, .int .i64 0, .int .i64 0], .int .i64 0]) (by simp [results, Tryz.results7, go_sem, F0, F1, F2, F3, F4]) rfl ?_
    exact HFin.out
  | some q =>
    obtain ⟨t, v⟩ := q
    go_upto_region 16 with (go_at_call 25; refine (HGet.out _ _ ((Old.refl w7).alloc _) (alloc_at w7 _)).mono ?_; rintro e w8 ⟨u8, q8⟩; have q9 := q8.resolve_left (fun k => (by rw [hT] at k; cases k.1)); obtain ⟨t2, v2, b, off, cap, k1, rfl, lo, c1, c2⟩ := q9; have k2 : t = t2 ∧ v = v2 := (by rw [hT] at k1; simpa using k1); obtain ⟨rfl, rfl⟩ := k2; have U8 := hid (show Old w7 w8 from ((Old.refl w7).alloc _).trans u8); have nb : b ≠ g4 := (by have := heap_lt C4.out; simp at lo; omega); have HS8 := hid (And.intro c1 (And.intro c2 (show w8.cell? ⟨b, off + 5 + 1, none⟩ = some (.int .i64 v) from c2))); clear u8 q8 k1 lo c1 c2)
    clear HGet O8
    have HV := hid (HV.out.trans U8.out)
    have HZ := hid (HZ.out.old U8.out)
    have C2 := hid (U8.out.block C2.out)
    have C4 := hid (U8.out.block C4.out)
    cases hr : rgt t v with
    | false =>
      have HRR := hid (show rdP (nowOf (getP (Y.map Fi.p) sH)) = (0, 0) from by rw [HRR0.out, hT]; unfold pick2; dsimp only; rw [hr]; rfl)
      have HRt := hid (fun (W' : World) (u : Old w8 W') => show Calls Tryz.prog 26 #[.int .i64 t, .int .i64 v] W' fun e w' => e = .returned (.bool false) ∧ Old W' w' from by have q := rright_any t v W'; rw [hr] at q; exact q)
      clear hT hr HRR0
      have UD := hid ((Old.refl w8).drew)
      refine wp_region_noPanic ?_
      refine wp_region_held_drew (S := fun wz => wz.cell? ⟨b, off + 1, none⟩ = some (.int .i64 t) ∧ wz.cell? ⟨b, off + 6, none⟩ = some (.int .i64 v) ∧ wz.cell? ⟨b, off + 5 + 1, none⟩ = some (.int .i64 v)) (by kernel_rfl) ?_ (fun hHeld => ?_)
      · exact (S3.old ((Old.refl w8).drew) HS8.out)
      (try simp only [Act.put]); (try simp only [List.setIfInBounds_toArray]); (try simp only [List.set_cons_succ]); (try simp only [List.set_cons_zero])
      clear hHeld
      refine wpAnyH_take (i := 0) (oi := { dst := some 66, op := Op.move (Operand.tmp 13), type := 3, pos := "ref.go:51", after := #[], guard := none }) (v := ?vk35) rfl (by kernel_rfl) (by kernel_rfl) (by kernel_rfl) (fun _ _ _ h => h) (Or.inl ⟨by rfl, ?hk35⟩) (S3.old ((Old.refl w8).drew) HS8.out) ?rk35
      case hk35 => (intro wz hSw; (try dsimp only at hSw); go_simp; try with_reducible rfl)
      (try simp only [Act.put]); (try simp only [List.setIfInBounds_toArray]); (try simp only [List.set_cons_succ]); (try simp only [List.set_cons_zero])
      refine wpAnyH_take (i := 1) (oi := { dst := some 67, op := Op.binOp BinOp.eql 3 (Operand.tmp 66) (Operand.const (Value.int IntKind.i64 0)) 3, type := 4, pos := "ref.go:51", after := #[{ on := 0, ground := Ground.data }], guard := none }) (v := ?vk36) rfl (by kernel_rfl) (by kernel_rfl) (by kernel_rfl) (fun _ _ _ h => h) (Or.inl ⟨by rfl, ?hk36⟩) (S3.old ((Old.refl w8).drew) HS8.out) ?rk36
      case hk36 => (intro wz hSw; (try dsimp only at hSw); go_simp; try with_reducible rfl)
      (try simp only [Act.put]); (try simp only [List.setIfInBounds_toArray]); (try simp only [List.set_cons_succ]); (try simp only [List.set_cons_zero])
      refine wpAnyH_take (i := 2) (oi := { dst := some 68, op := Op.move (Operand.tmp 67), type := 4, pos := "ref.go:51", after := #[{ on := 1, ground := Ground.data }], guard := none }) (v := ?vk37) rfl (by kernel_rfl) (by kernel_rfl) (by kernel_rfl) (fun _ _ _ h => h) (Or.inl ⟨by rfl, ?hk37⟩) (S3.old ((Old.refl w8).drew) HS8.out) ?rk37
      case hk37 => (intro wz hSw; (try dsimp only at hSw); go_simp; try with_reducible rfl)
      (try simp only [Act.put]); (try simp only [List.setIfInBounds_toArray]); (try simp only [List.set_cons_succ]); (try simp only [List.set_cons_zero])
      refine wpAnyH_take (i := 3) (oi := { dst := some 69, op := Op.move (Operand.tmp 12), type := 75, pos := "ref.go:51", after := #[{ on := 2, ground := Ground.guard }], guard := some (2, true) }) (v := ?vk38) rfl (by kernel_rfl) (by kernel_rfl) (by kernel_rfl) (fun _ _ _ h => h) (Or.inl ⟨by rfl, ?hk38⟩) (S3.old ((Old.refl w8).drew) HS8.out) ?rk38
      case hk38 => (intro wz hSw; (try dsimp only at hSw); go_simp; try with_reducible rfl)
      (try simp only [Act.put]); (try simp only [List.setIfInBounds_toArray]); (try simp only [List.set_cons_succ]); (try simp only [List.set_cons_zero])
      refine wpAnyH_take (i := 4) (oi := { dst := some 70, op := Op.indexAddr 75 (Operand.tmp 69) (Operand.const (Value.int IntKind.i64 0)), type := 0, pos := "ref.go:51", after := #[{ on := 3, ground := Ground.data }, { on := 2, ground := Ground.guard }], guard := some (2, true) }) (v := ?vk39) rfl (by kernel_rfl) (by kernel_rfl) (by kernel_rfl) (fun _ _ _ h => h) (Or.inl ⟨by rfl, ?hk39⟩) (S3.old ((Old.refl w8).drew) HS8.out) ?rk39
      case hk39 => (intro wz hSw; (try dsimp only at hSw); go_simp; try with_reducible rfl)
      (try simp only [Act.put]); (try simp only [List.setIfInBounds_toArray]); (try simp only [List.set_cons_succ]); (try simp only [List.set_cons_zero])
      refine wpAnyH_take (i := 5) (oi := { dst := some 71, op := Op.fieldAddr 82 (Operand.tmp 70) 1, type := 0, pos := "ref.go:51", after := #[{ on := 4, ground := Ground.data }, { on := 2, ground := Ground.guard }], guard := some (2, true) }) (v := ?vk40) rfl (by kernel_rfl) (by kernel_rfl) (by kernel_rfl) (fun _ _ _ h => h) (Or.inl ⟨by rfl, ?hk40⟩) (S3.old ((Old.refl w8).drew) HS8.out) ?rk40
      case hk40 => (intro wz hSw; (try dsimp only at hSw); go_simp; try with_reducible rfl)
      (try simp only [Act.put]); (try simp only [List.setIfInBounds_toArray]); (try simp only [List.set_cons_succ]); (try simp only [List.set_cons_zero])
      refine wpAnyH_take (i := 6) (oi := { dst := some 72, op := Op.load 2 (Operand.tmp 71), type := 2, pos := "ref.go:51", after := #[{ on := 5, ground := Ground.data }, { on := 2, ground := Ground.guard }], guard := some (2, true) }) (v := ?vk41) rfl (by kernel_rfl) (by kernel_rfl) (by kernel_rfl) (fun _ _ _ h => h) (Or.inl ⟨by rfl, ?hk41⟩) (S3.old ((Old.refl w8).drew) HS8.out) ?rk41
      case hk41 => (intro wz hSw; (try dsimp only at hSw); go_simp; try with_reducible rfl)
      (try simp only [Act.put]); (try simp only [List.setIfInBounds_toArray]); (try simp only [List.set_cons_succ]); (try simp only [List.set_cons_zero])
      refine wpAnyH_take (i := 7) (oi := { dst := some 73, op := Op.move (Operand.tmp 12), type := 75, pos := "ref.go:51", after := #[{ on := 2, ground := Ground.guard }], guard := some (2, true) }) (v := ?vk42) rfl (by kernel_rfl) (by kernel_rfl) (by kernel_rfl) (fun _ _ _ h => h) (Or.inl ⟨by rfl, ?hk42⟩) (S3.old ((Old.refl w8).drew) HS8.out) ?rk42
      case hk42 => (intro wz hSw; (try dsimp only at hSw); go_simp; try with_reducible rfl)
      (try simp only [Act.put]); (try simp only [List.setIfInBounds_toArray]); (try simp only [List.set_cons_succ]); (try simp only [List.set_cons_zero])
      refine wpAnyH_take (i := 8) (oi := { dst := some 74, op := Op.indexAddr 75 (Operand.tmp 73) (Operand.const (Value.int IntKind.i64 1)), type := 0, pos := "ref.go:51", after := #[{ on := 7, ground := Ground.data }, { on := 2, ground := Ground.guard }], guard := some (2, true) }) (v := ?vk43) rfl (by kernel_rfl) (by kernel_rfl) (by kernel_rfl) (fun _ _ _ h => h) (Or.inl ⟨by rfl, ?hk43⟩) (S3.old ((Old.refl w8).drew) HS8.out) ?rk43
      case hk43 => (intro wz hSw; (try dsimp only at hSw); go_simp; try with_reducible rfl)
      (try simp only [Act.put]); (try simp only [List.setIfInBounds_toArray]); (try simp only [List.set_cons_succ]); (try simp only [List.set_cons_zero])
      refine wpAnyH_take (i := 9) (oi := { dst := some 75, op := Op.fieldAddr 82 (Operand.tmp 74) 1, type := 0, pos := "ref.go:51", after := #[{ on := 8, ground := Ground.data }, { on := 2, ground := Ground.guard }], guard := some (2, true) }) (v := ?vk44) rfl (by kernel_rfl) (by kernel_rfl) (by kernel_rfl) (fun _ _ _ h => h) (Or.inl ⟨by rfl, ?hk44⟩) (S3.old ((Old.refl w8).drew) HS8.out) ?rk44
      case hk44 => (intro wz hSw; (try dsimp only at hSw); go_simp; try with_reducible rfl)
      (try simp only [Act.put]); (try simp only [List.setIfInBounds_toArray]); (try simp only [List.set_cons_succ]); (try simp only [List.set_cons_zero])
      refine wpAnyH_take (i := 10) (oi := { dst := some 76, op := Op.load 2 (Operand.tmp 75), type := 2, pos := "ref.go:51", after := #[{ on := 9, ground := Ground.data }, { on := 2, ground := Ground.guard }], guard := some (2, true) }) (v := ?vk45) rfl (by kernel_rfl) (by kernel_rfl) (by kernel_rfl) (fun _ _ _ h => h) (Or.inl ⟨by rfl, ?hk45⟩) (S3.old ((Old.refl w8).drew) HS8.out) ?rk45
      case hk45 => (intro wz hSw; (try dsimp only at hSw); go_simp; try with_reducible rfl)
      (try simp only [Act.put]); (try simp only [List.setIfInBounds_toArray]); (try simp only [List.set_cons_succ]); (try simp only [List.set_cons_zero])
      refine wpAnyH_ready (rs := [11]) (by kernel_rfl) (by simp) ?_
      refine AllReadyH.cons (o := { dst := some 77, op := Op.call { callee := Callee.value (Operand.func 26), args := #[Operand.tmp 72, Operand.tmp 76], argTypes := #[2, 2] }, type := 4, pos := "ref.go:51", after := #[{ on := 6, ground := Ground.data }, { on := 10, ground := Ground.data }, { on := 2, ground := Ground.chain }, { on := 2, ground := Ground.guard }], guard := some (2, true) }) rfl (fun K hK => ?_) AllReadyH.nil
      refine wantCall2 ?_ 26 (.tmp 72) (.tmp 76) #[2, 2] ?_ (.int .i64 t) (.int .i64 v) ?_ ?_ ?_ ((enters_of Tryz.func26 (by kernel_rfl) rfl) _ _) ?_
      · rfl
      · rfl
      · rfl
      · rfl
      · rfl
      refine (HRt.out _ ((Old.refl w8).drew)).mono ?_
      rintro o w9 ⟨rfl, ux⟩
      have UX := hid (UD.out.trans ux)
      have SB := S3.old UX.out HS8.out
      clear ux
      refine ⟨_, rfl, ?_⟩
      refine hK.out _ _ SB (fun _ => ?_)
      clear hK K
      (try simp only [Act.put]); (try simp only [List.setIfInBounds_toArray]); (try simp only [List.set_cons_succ]); (try simp only [List.set_cons_zero])
      refine wpAnyH_take (i := 12) (oi := { dst := some 78, op := Op.pick (Operand.tmp 68) (Operand.tmp 77) (Operand.const (Value.bool false)), type := 4, pos := "ref.go:51", after := #[{ on := 2, ground := Ground.data }, { on := 11, ground := Ground.data }], guard := none }) (v := ?vk47) rfl (by kernel_rfl) (by kernel_rfl) (by kernel_rfl) (fun _ _ _ h => h) (Or.inl ⟨by rfl, ?hk47⟩) SB ?rk47
      case hk47 => (intro wz hSw; (try dsimp only at hSw); go_simp; try with_reducible rfl)
      (try simp only [Act.put]); (try simp only [List.setIfInBounds_toArray]); (try simp only [List.set_cons_succ]); (try simp only [List.set_cons_zero])
      refine wpAnyH_done (by kernel_rfl) ?_ _
      refine NoPanic.normal ?_
      have HS9 := hid SB
      clear SB HS8 HRt UD
      have HV := hid (HV.out.trans UX.out)
      have HZ := hid (HZ.out.old UX.out)
      have C2 := hid (UX.out.block C2.out)
      have C4 := hid (UX.out.block C4.out)
      have HFin := hid (HF.out w9 za zn zc Z 0 0 _ HV.out C2.out HZ.out HZn.out HZB.out HZP.out HRR.out)
      obtain ⟨F0, F1, F2, F3, F4⟩ := box5 (box5_set C2.out (.slice za zn zc) (.bool false) (.int .i64 0) (.int .i64 0) (.int .i64 0))
      unfold set5 at HFin F0 F1 F2 F3 F4
      obtain ⟨r0, r1, r2, r3, r4⟩ := box5 C2.out
      obtain ⟨rf0, rf1, rf2, rf3, rf4⟩ := box5f C2.out
      obtain ⟨y0, y1, y2, y3, y4⟩ := box5 C4.out
      go_wp2
      refine bodyPost_ret (v := .tuple #[.agg #[.slice za zn zc, .bool false, .int .i64 0, .int .i64 0, .int .i64 0], .int .i64 0]) (by simp [results, Tryz.results7, go_sem, F0, F1, F2, F3, F4]) rfl ?_
      exact HFin.out
    | true =>
      have HRR := hid (show rdP (nowOf (getP (Y.map Fi.p) sH)) = (t, v) from by rw [HRR0.out, hT]; unfold pick2; dsimp only; rw [hr]; rfl)
      have HRt := hid (fun (W' : World) (u : Old w8 W') => show Calls Tryz.prog 26 #[.int .i64 t, .int .i64 v] W' fun e w' => e = .returned (.bool true) ∧ Old W' w' from by have q := rright_any t v W'; rw [hr] at q; exact q)
      clear hT hr HRR0
      have UD := hid ((Old.refl w8).drew)
      refine wp_region_noPanic ?_
      refine wp_region_held_drew (S := fun wz => wz.cell? ⟨b, off + 1, none⟩ = some (.int .i64 t) ∧ wz.cell? ⟨b, off + 6, none⟩ = some (.int .i64 v) ∧ wz.cell? ⟨b, off + 5 + 1, none⟩ = some (.int .i64 v)) (by kernel_rfl) ?_ (fun hHeld => ?_)
      · exact (S3.old ((Old.refl w8).drew) HS8.out)
      (try simp only [Act.put]); (try simp only [List.setIfInBounds_toArray]); (try simp only [List.set_cons_succ]); (try simp only [List.set_cons_zero])
      clear hHeld
      refine wpAnyH_take (i := 0) (oi := { dst := some 66, op := Op.move (Operand.tmp 13), type := 3, pos := "ref.go:51", after := #[], guard := none }) (v := ?vk48) rfl (by kernel_rfl) (by kernel_rfl) (by kernel_rfl) (fun _ _ _ h => h) (Or.inl ⟨by rfl, ?hk48⟩) (S3.old ((Old.refl w8).drew) HS8.out) ?rk48
      case hk48 => (intro wz hSw; (try dsimp only at hSw); go_simp; try with_reducible rfl)
      (try simp only [Act.put]); (try simp only [List.setIfInBounds_toArray]); (try simp only [List.set_cons_succ]); (try simp only [List.set_cons_zero])
      refine wpAnyH_take (i := 1) (oi := { dst := some 67, op := Op.binOp BinOp.eql 3 (Operand.tmp 66) (Operand.const (Value.int IntKind.i64 0)) 3, type := 4, pos := "ref.go:51", after := #[{ on := 0, ground := Ground.data }], guard := none }) (v := ?vk49) rfl (by kernel_rfl) (by kernel_rfl) (by kernel_rfl) (fun _ _ _ h => h) (Or.inl ⟨by rfl, ?hk49⟩) (S3.old ((Old.refl w8).drew) HS8.out) ?rk49
      case hk49 => (intro wz hSw; (try dsimp only at hSw); go_simp; try with_reducible rfl)
      (try simp only [Act.put]); (try simp only [List.setIfInBounds_toArray]); (try simp only [List.set_cons_succ]); (try simp only [List.set_cons_zero])
      refine wpAnyH_take (i := 2) (oi := { dst := some 68, op := Op.move (Operand.tmp 67), type := 4, pos := "ref.go:51", after := #[{ on := 1, ground := Ground.data }], guard := none }) (v := ?vk50) rfl (by kernel_rfl) (by kernel_rfl) (by kernel_rfl) (fun _ _ _ h => h) (Or.inl ⟨by rfl, ?hk50⟩) (S3.old ((Old.refl w8).drew) HS8.out) ?rk50
      case hk50 => (intro wz hSw; (try dsimp only at hSw); go_simp; try with_reducible rfl)
      (try simp only [Act.put]); (try simp only [List.setIfInBounds_toArray]); (try simp only [List.set_cons_succ]); (try simp only [List.set_cons_zero])
      refine wpAnyH_take (i := 3) (oi := { dst := some 69, op := Op.move (Operand.tmp 12), type := 75, pos := "ref.go:51", after := #[{ on := 2, ground := Ground.guard }], guard := some (2, true) }) (v := ?vk51) rfl (by kernel_rfl) (by kernel_rfl) (by kernel_rfl) (fun _ _ _ h => h) (Or.inl ⟨by rfl, ?hk51⟩) (S3.old ((Old.refl w8).drew) HS8.out) ?rk51
      case hk51 => (intro wz hSw; (try dsimp only at hSw); go_simp; try with_reducible rfl)
      (try simp only [Act.put]); (try simp only [List.setIfInBounds_toArray]); (try simp only [List.set_cons_succ]); (try simp only [List.set_cons_zero])
      refine wpAnyH_take (i := 4) (oi := { dst := some 70, op := Op.indexAddr 75 (Operand.tmp 69) (Operand.const (Value.int IntKind.i64 0)), type := 0, pos := "ref.go:51", after := #[{ on := 3, ground := Ground.data }, { on := 2, ground := Ground.guard }], guard := some (2, true) }) (v := ?vk52) rfl (by kernel_rfl) (by kernel_rfl) (by kernel_rfl) (fun _ _ _ h => h) (Or.inl ⟨by rfl, ?hk52⟩) (S3.old ((Old.refl w8).drew) HS8.out) ?rk52
      case hk52 => (intro wz hSw; (try dsimp only at hSw); go_simp; try with_reducible rfl)
      (try simp only [Act.put]); (try simp only [List.setIfInBounds_toArray]); (try simp only [List.set_cons_succ]); (try simp only [List.set_cons_zero])
      refine wpAnyH_take (i := 5) (oi := { dst := some 71, op := Op.fieldAddr 82 (Operand.tmp 70) 1, type := 0, pos := "ref.go:51", after := #[{ on := 4, ground := Ground.data }, { on := 2, ground := Ground.guard }], guard := some (2, true) }) (v := ?vk53) rfl (by kernel_rfl) (by kernel_rfl) (by kernel_rfl) (fun _ _ _ h => h) (Or.inl ⟨by rfl, ?hk53⟩) (S3.old ((Old.refl w8).drew) HS8.out) ?rk53
      case hk53 => (intro wz hSw; (try dsimp only at hSw); go_simp; try with_reducible rfl)
      (try simp only [Act.put]); (try simp only [List.setIfInBounds_toArray]); (try simp only [List.set_cons_succ]); (try simp only [List.set_cons_zero])
      refine wpAnyH_take (i := 6) (oi := { dst := some 72, op := Op.load 2 (Operand.tmp 71), type := 2, pos := "ref.go:51", after := #[{ on := 5, ground := Ground.data }, { on := 2, ground := Ground.guard }], guard := some (2, true) }) (v := ?vk54) rfl (by kernel_rfl) (by kernel_rfl) (by kernel_rfl) (fun _ _ _ h => h) (Or.inl ⟨by rfl, ?hk54⟩) (S3.old ((Old.refl w8).drew) HS8.out) ?rk54
      case hk54 => (intro wz hSw; (try dsimp only at hSw); go_simp; try with_reducible rfl)
      (try simp only [Act.put]); (try simp only [List.setIfInBounds_toArray]); (try simp only [List.set_cons_succ]); (try simp only [List.set_cons_zero])
      refine wpAnyH_take (i := 7) (oi := { dst := some 73, op := Op.move (Operand.tmp 12), type := 75, pos := "ref.go:51", after := #[{ on := 2, ground := Ground.guard }], guard := some (2, true) }) (v := ?vk55) rfl (by kernel_rfl) (by kernel_rfl) (by kernel_rfl) (fun _ _ _ h => h) (Or.inl ⟨by rfl, ?hk55⟩) (S3.old ((Old.refl w8).drew) HS8.out) ?rk55
      case hk55 => (intro wz hSw; (try dsimp only at hSw); go_simp; try with_reducible rfl)
      (try simp only [Act.put]); (try simp only [List.setIfInBounds_toArray]); (try simp only [List.set_cons_succ]); (try simp only [List.set_cons_zero])
      refine wpAnyH_take (i := 8) (oi := { dst := some 74, op := Op.indexAddr 75 (Operand.tmp 73) (Operand.const (Value.int IntKind.i64 1)), type := 0, pos := "ref.go:51", after := #[{ on := 7, ground := Ground.data }, { on := 2, ground := Ground.guard }], guard := some (2, true) }) (v := ?vk56) rfl (by kernel_rfl) (by kernel_rfl) (by kernel_rfl) (fun _ _ _ h => h) (Or.inl ⟨by rfl, ?hk56⟩) (S3.old ((Old.refl w8).drew) HS8.out) ?rk56
      case hk56 => (intro wz hSw; (try dsimp only at hSw); go_simp; try with_reducible rfl)
      (try simp only [Act.put]); (try simp only [List.setIfInBounds_toArray]); (try simp only [List.set_cons_succ]); (try simp only [List.set_cons_zero])
      refine wpAnyH_take (i := 9) (oi := { dst := some 75, op := Op.fieldAddr 82 (Operand.tmp 74) 1, type := 0, pos := "ref.go:51", after := #[{ on := 8, ground := Ground.data }, { on := 2, ground := Ground.guard }], guard := some (2, true) }) (v := ?vk57) rfl (by kernel_rfl) (by kernel_rfl) (by kernel_rfl) (fun _ _ _ h => h) (Or.inl ⟨by rfl, ?hk57⟩) (S3.old ((Old.refl w8).drew) HS8.out) ?rk57
      case hk57 => (intro wz hSw; (try dsimp only at hSw); go_simp; try with_reducible rfl)
      (try simp only [Act.put]); (try simp only [List.setIfInBounds_toArray]); (try simp only [List.set_cons_succ]); (try simp only [List.set_cons_zero])
      refine wpAnyH_take (i := 10) (oi := { dst := some 76, op := Op.load 2 (Operand.tmp 75), type := 2, pos := "ref.go:51", after := #[{ on := 9, ground := Ground.data }, { on := 2, ground := Ground.guard }], guard := some (2, true) }) (v := ?vk58) rfl (by kernel_rfl) (by kernel_rfl) (by kernel_rfl) (fun _ _ _ h => h) (Or.inl ⟨by rfl, ?hk58⟩) (S3.old ((Old.refl w8).drew) HS8.out) ?rk58
      case hk58 => (intro wz hSw; (try dsimp only at hSw); go_simp; try with_reducible rfl)
      (try simp only [Act.put]); (try simp only [List.setIfInBounds_toArray]); (try simp only [List.set_cons_succ]); (try simp only [List.set_cons_zero])
      refine wpAnyH_ready (rs := [11]) (by kernel_rfl) (by simp) ?_
      refine AllReadyH.cons (o := { dst := some 77, op := Op.call { callee := Callee.value (Operand.func 26), args := #[Operand.tmp 72, Operand.tmp 76], argTypes := #[2, 2] }, type := 4, pos := "ref.go:51", after := #[{ on := 6, ground := Ground.data }, { on := 10, ground := Ground.data }, { on := 2, ground := Ground.chain }, { on := 2, ground := Ground.guard }], guard := some (2, true) }) rfl (fun K hK => ?_) AllReadyH.nil
      refine wantCall2 ?_ 26 (.tmp 72) (.tmp 76) #[2, 2] ?_ (.int .i64 t) (.int .i64 v) ?_ ?_ ?_ ((enters_of Tryz.func26 (by kernel_rfl) rfl) _ _) ?_
      · rfl
      · rfl
      · rfl
      · rfl
      · rfl
      refine (HRt.out _ ((Old.refl w8).drew)).mono ?_
      rintro o w9 ⟨rfl, ux⟩
      have UX := hid (UD.out.trans ux)
      have SB := S3.old UX.out HS8.out
      clear ux
      refine ⟨_, rfl, ?_⟩
      refine hK.out _ _ SB (fun _ => ?_)
      clear hK K
      (try simp only [Act.put]); (try simp only [List.setIfInBounds_toArray]); (try simp only [List.set_cons_succ]); (try simp only [List.set_cons_zero])
      refine wpAnyH_take (i := 12) (oi := { dst := some 78, op := Op.pick (Operand.tmp 68) (Operand.tmp 77) (Operand.const (Value.bool false)), type := 4, pos := "ref.go:51", after := #[{ on := 2, ground := Ground.data }, { on := 11, ground := Ground.data }], guard := none }) (v := ?vk60) rfl (by kernel_rfl) (by kernel_rfl) (by kernel_rfl) (fun _ _ _ h => h) (Or.inl ⟨by rfl, ?hk60⟩) SB ?rk60
      case hk60 => (intro wz hSw; (try dsimp only at hSw); go_simp; try with_reducible rfl)
      (try simp only [Act.put]); (try simp only [List.setIfInBounds_toArray]); (try simp only [List.set_cons_succ]); (try simp only [List.set_cons_zero])
      refine wpAnyH_done (by kernel_rfl) ?_ _
      refine NoPanic.normal ?_
      have HS9 := hid SB
      clear SB HS8 HRt UD
      have HV := hid (HV.out.trans UX.out)
      have HZ := hid (HZ.out.old UX.out)
      have C2 := hid (UX.out.block C2.out)
      have C4 := hid (UX.out.block C4.out)
      obtain ⟨s1, s2, s3⟩ := HS9.out
      obtain ⟨y0, y1, y2, y3, y4⟩ := box5 C4.out
      obtain ⟨yf0, yf1, yf2, yf3, yf4⟩ := box5f C4.out
      go_upto_region 19 with (fail)
      have D2 := hid (show ((w9.setCell ⟨g4, 3, none⟩ (.int .i64 t)).setCell ⟨g4, 4, none⟩ (.int .i64 v)).heap[g2]? = _ from set_other (set_other C2.out n24) n24)
      have D4 := hid (show ((w9.setCell ⟨g4, 3, none⟩ (.int .i64 t)).setCell ⟨g4, 4, none⟩ (.int .i64 v)).heap[g4]? = some (.cells #[.slice za zn zc, .bool false, .int .i64 0, .int .i64 t, .int .i64 v] 34 (0, 0)) from Go.Joins.block_setCell (Go.Joins.block_setCell C4.out (.int .i64 t) (i := 3)) (.int .i64 v) (i := 4))
      have CH := hid (show Chg [g4] w9 ((w9.setCell ⟨g4, 3, none⟩ (.int .i64 t)).setCell ⟨g4, 4, none⟩ (.int .i64 v)) from (Chg.set (S := [g4]) w9 ⟨g4, 3, none⟩ _ (by simp)).trans (Chg.set (S := [g4]) _ ⟨g4, 4, none⟩ _ (by simp)))
      have HZ := hid (HZ.out.chgH CH.out C4.out)
      have HV := hid (CH.out.oldOf HV.out (fun k hk => by rw [List.mem_singleton.1 hk]; have := HLt.out; omega))
      clear y0 y1 y2 y3 y4 yf0 yf1 yf2 yf3 yf4 s1 s2 s3 C2 C4 CH HS9
      generalize ((w9.setCell ⟨g4, 3, none⟩ (.int .i64 t)).setCell ⟨g4, 4, none⟩ (.int .i64 v)) = w10 at *
      have C2 := hid D2.out
      have C4 := hid D4.out
      clear D2 D4
      have HFin := hid (HF.out w10 za zn zc Z t v _ HV.out C2.out HZ.out HZn.out HZB.out HZP.out HRR.out)
      obtain ⟨F0, F1, F2, F3, F4⟩ := box5 (box5_set C2.out (.slice za zn zc) (.bool false) (.int .i64 0) (.int .i64 t) (.int .i64 v))
      unfold set5 at HFin F0 F1 F2 F3 F4
      obtain ⟨r0, r1, r2, r3, r4⟩ := box5 C2.out
      obtain ⟨rf0, rf1, rf2, rf3, rf4⟩ := box5f C2.out
      obtain ⟨y0, y1, y2, y3, y4⟩ := box5 C4.out
      go_wp2
      refine bodyPost_ret (v := .tuple #[.agg #[.slice za zn zc, .bool false, .int .i64 0, .int .i64 t, .int .i64 v], .int .i64 0]) (by simp [results, Tryz.results7, go_sem, F0, F1, F2, F3, F4]) rfl ?_
      exact HFin.out
end Go.Proofs.YtfphopleniidfaaGreatDoor
