/- The document's Do of layer 19, at every net; conditions: the rows lie in memory. -/
import Derived.Test.YtejeihbcakojeaaNk
namespace Go.Proofs.Ytejeihbcakojeaa
open Go.RowKit Go.Lib
set_option linter.unusedVariables false
set_option linter.unusedSimpArgs false
set_option maxRecDepth 20000
theorem infoN2 : (Try.prog.info? 46).map (·.size) = some 2 := by kernel_rfl
theorem infoR3 : (Try.prog.info? 48).map (·.size) = some 3 := by kernel_rfl
theorem there2 {w : World} {b : Nat} {x y : Value} {T : TypeId} (h : w.heap[b]? = some (.cells #[x, y] T (0, 0))) : w.there b 0 2 := fun j hj => by
  refine ⟨?_, Go.Joins.unfrozen_of_block h _⟩
  rw [Nat.zero_add, Go.Joins.cell_of_block h]
  match j, hj with
  | 0, _ => rfl
  | 1, _ => rfl
theorem stepStoreN2 {ops : Array Oper} {o : Oper} {a : Act} {w : World} {K : Act → World → Prop} {Q : Exit → Act → World → Prop} {E : Prop} (hg : o.guard = none) (x y : Operand) (hop : o.op = Op.store 46 x y) (m : Nat) (p q : Value)
    (hx : a.eval x = .pointer (some ⟨m, 0, none⟩)) (hy : a.eval y = .agg #[p, q]) (ht : w.there m 0 2) (h1 : p.oneCell' = true ∧ q.oneCell' = true)
    (hK : K (a.put o.dst undef) ((w.setCell ⟨m, 0, none⟩ p).setCell ⟨m, 1, none⟩ q)) :
    if Region.wanted o (yielded ops a.tmps) = true then Oper.wp Try.prog o a w K Q else E := by
  have hw : Region.wanted o (yielded ops a.tmps) = true := by simp [Region.wanted, hg]
  rw [if_pos hw]
  exact wp_store_mid _ x y hop m 0 #[p, q] hx hy ht infoN2 (by simp [h1]) hK
theorem stepStoreR3 {ops : Array Oper} {o : Oper} {a : Act} {w : World} {K : Act → World → Prop} {Q : Exit → Act → World → Prop} {E : Prop} (hg : o.guard = none) (x y : Operand) (hop : o.op = Op.store 48 x y) (m : Nat) (p q r : Value)
    (hx : a.eval x = .pointer (some ⟨m, 0, none⟩)) (hy : a.eval y = .agg #[p, q, r]) (ht : w.there m 0 3) (h1 : p.oneCell' = true ∧ q.oneCell' = true ∧ r.oneCell' = true)
    (hK : K (a.put o.dst undef) (((w.setCell ⟨m, 0, none⟩ p).setCell ⟨m, 1, none⟩ q).setCell ⟨m, 2, none⟩ r)) :
    if Region.wanted o (yielded ops a.tmps) = true then Oper.wp Try.prog o a w K Q else E := by
  have hw : Region.wanted o (yielded ops a.tmps) = true := by simp [Region.wanted, hg]
  rw [if_pos hw]
  exact wp_store_mid _ x y hop m 0 #[p, q, r] hx hy ht infoR3 (by simp [h1]) hK
/-- The two results' boxes are written. -/
def rF (W : World) (b2 b3 : Nat) (p q x y z : Value) : World := ((((W.setCell ⟨b2, 0, none⟩ p).setCell ⟨b2, 1, none⟩ q).setCell ⟨b3, 0, none⟩ x).setCell ⟨b3, 1, none⟩ y).setCell ⟨b3, 2, none⟩ z
theorem chg2 (w : World) (b : Nat) (p q : Value) : Chg [b] w ((w.setCell ⟨b, 0, none⟩ p).setCell ⟨b, 1, none⟩ q) := (Chg.set (S := [b]) w ⟨b, 0, none⟩ p (by simp)).trans (Chg.set (S := [b]) _ ⟨b, 1, none⟩ q (by simp))
theorem rfin {W : World} {b2 b3 : Nat} {p0 q0 x0 y0 z0 p q x y z : Value} (h2 : W.heap[b2]? = some (.cells #[p0, q0] 46 (0, 0))) (h3 : W.heap[b3]? = some (.cells #[x0, y0, z0] 48 (0, 0))) : (rF W b2 b3 p q x y z).heap[b2]? = some (.cells #[p, q] 46 (0, 0)) ∧ (rF W b2 b3 p q x y z).heap[b3]? = some (.cells #[x, y, z] 48 (0, 0)) ∧ Chg [b2, b3] W (rF W b2 b3 p q x y z) := by
  have hne : b3 ≠ b2 := fun e => by rw [e, h2] at h3; simp at h3
  have s2 : ((W.setCell ⟨b2, 0, none⟩ p).setCell ⟨b2, 1, none⟩ q).heap[b2]? = some (.cells #[p, q] 46 (0, 0)) := Go.Joins.block_setCell (Go.Joins.block_setCell h2 p (i := 0)) q (i := 1)
  have s3 : ((W.setCell ⟨b2, 0, none⟩ p).setCell ⟨b2, 1, none⟩ q).heap[b3]? = some (.cells #[x0, y0, z0] 48 (0, 0)) := set_other (set_other h3 hne) hne
  refine ⟨?_, box3_set s3, ?_⟩
  · exact set_other (set_other (set_other s2 (Ne.symm hne)) (Ne.symm hne)) (Ne.symm hne)
  · exact ((chg2 W b2 p q).mono (fun k hk _ => by simp at hk; simp [hk])).trans ((chg3 _ b3 x y z).mono (fun k hk _ => by simp at hk; simp [hk]))
theorem Sr.chg2 {w0 W F : World} {b2 b3 : Nat} {c2 c3 : Array Value} {v : Value} {L : List Nat} (h : Sr w0 W v L) (ch : Chg [b2, b3] W F) (h2 : W.heap[b2]? = some (.cells c2 46 (0, 0))) (h3 : W.heap[b3]? = some (.cells c3 48 (0, 0))) : Sr w0 F v L := h.imp id (fun o => o.chg ch (fun g e k => by
  have k2 := o.offT h2 (by decide) g e
  have k3 := o.offT h3 (by decide) g e
  simp at k k2 k3
  omega))
theorem DocAt.chg2 {w0 W F : World} {b2 b3 B : Nat} {c2 c3 : Array Value} {v : Value} {Y : List Lt} (h : DocAt w0 W v Y) (ch : Chg [b2, b3] W F) (h2 : W.heap[b2]? = some (.cells c2 46 (0, 0))) (h3 : W.heap[b3]? = some (.cells c3 48 (0, 0))) (hB : ∀ g, v.ownBlock = some g → g ≠ b2 ∧ g ≠ b3) : DocAt w0 F v Y :=
  ⟨h.row.chg ch (fun g e k => by have := hB g e; simp at k; omega), fun y hy => ⟨(h.byt y hy).1.chg2 ch h2 h3, (h.byt y hy).2⟩⟩
theorem OwnR.one (w : World) (y : Lt) : OwnR w.heap.size (w.alloc (.cells #[.int .i64 y.f, .int .i64 y.t, .slice y.a y.L.length y.c] 48)) (.slice (some ⟨w.heap.size, 0, none⟩) 1 1) [y] :=
  ownR_of (X := [y]) (cap := 1) (Nat.le_refl _) (alloc_at w (.cells #[.int .i64 y.f, .int .i64 y.t, .slice y.a y.L.length y.c] 48)) (by simp) (by unfold maxLen; omega) rfl rfl
def ers (Y : List Lt) (k j : Nat) : List Lt := (Y.take j).eraseIdx k
theorem ers_eq (Y : List Lt) (k : Nat) (h : k < Y.length) : ers Y k (k + 1) = ers Y k k := by
  have e1 : (Y.take k).length = k := by rw [List.length_take]; omega
  unfold ers
  rw [(List.take_append_getElem h).symm, List.eraseIdx_append_of_length_le (by omega), e1, Nat.sub_self, List.eraseIdx_of_length_le (l := Y.take k) (by omega)]
  simp
theorem ers_ne (Y : List Lt) (k j : Nat) (h : j < Y.length) (hn : j ≠ k) : ers Y k (j + 1) = ers Y k j ++ [Y[j]] := by
  unfold ers
  rw [(List.take_append_getElem h).symm]
  by_cases c : k < j
  · rw [List.eraseIdx_append_of_lt_length (by rw [List.length_take]; omega)]
  · rw [List.eraseIdx_of_length_le (by simp; omega), List.eraseIdx_of_length_le (by rw [List.length_take]; omega)]
theorem ers_all (Y : List Lt) (k : Nat) : ers Y k Y.length = Y.eraseIdx k := by unfold ers; rw [List.take_length]
theorem ers_le (Y : List Lt) (k j : Nat) : (ers Y k j).length ≤ j := by
  unfold ers
  exact Nat.le_trans (List.length_eraseIdx_le _ _) (by rw [List.length_take]; omega)
theorem S5.old {b0 b7 : Nat} {x0 x1 y0 y1 y2 : Value} {w w' : World} (o : Old w w') (h : (w.cell? ⟨b0, 0, none⟩ = some x0 ∧ w.cell? ⟨b0, 1, none⟩ = some x1) ∧ w.cell? ⟨b7, 0, none⟩ = some y0 ∧ w.cell? ⟨b7, 1, none⟩ = some y1 ∧ w.cell? ⟨b7, 2, none⟩ = some y2) : (w'.cell? ⟨b0, 0, none⟩ = some x0 ∧ w'.cell? ⟨b0, 1, none⟩ = some x1) ∧ w'.cell? ⟨b7, 0, none⟩ = some y0 ∧ w'.cell? ⟨b7, 1, none⟩ = some y1 ∧ w'.cell? ⟨b7, 2, none⟩ = some y2 := ⟨⟨o.keep h.1.1, o.keep h.1.2⟩, o.keep h.2.1, o.keep h.2.2.1, o.keep h.2.2.2⟩
theorem S5.chg {S : List Nat} {b0 b7 : Nat} {x0 x1 y0 y1 y2 : Value} {w w' : World} (o : Chg S w w') (n0 : b0 ∉ S) (n7 : b7 ∉ S) (h : (w.cell? ⟨b0, 0, none⟩ = some x0 ∧ w.cell? ⟨b0, 1, none⟩ = some x1) ∧ w.cell? ⟨b7, 0, none⟩ = some y0 ∧ w.cell? ⟨b7, 1, none⟩ = some y1 ∧ w.cell? ⟨b7, 2, none⟩ = some y2) : (w'.cell? ⟨b0, 0, none⟩ = some x0 ∧ w'.cell? ⟨b0, 1, none⟩ = some x1) ∧ w'.cell? ⟨b7, 0, none⟩ = some y0 ∧ w'.cell? ⟨b7, 1, none⟩ = some y1 ∧ w'.cell? ⟨b7, 2, none⟩ = some y2 := ⟨⟨o.cell h.1.1 n0, o.cell h.1.2 n0⟩, o.cell h.2.1 n7, o.cell h.2.2.1 n7, o.cell h.2.2.2 n7⟩
theorem lst_in (Y : List Lt) (q : Nat) (l : Lt) (h : q < Y.length) : lstL Y (q : Int) l = Y.set q l := by unfold lstL; rw [if_pos (by omega), Int.toNat_natCast]
theorem do_out (most : Nat) (P : List PL) (o : Opn) (hk : 2 ≤ o.k ∧ o.k ≤ 6) (h : hasP P o.i = false) : doB most P o = false ∧ doP most P o = P ∧ doX P o = (0, 0, []) := by
  have hd : dropP P o.i = P := by unfold dropP; rw [h, if_neg (by simp)]
  have h4 : dblB most P o.i = false := by unfold dblB; rw [h]; rfl
  have h5 : swpB P o.i o.m = false := by unfold swpB; rw [h]; rfl
  have h6 : shtB P o.i = false := by unfold shtB; rw [h]; rfl
  have e4 : dblP most P o.i = P := by unfold dblP; rw [h4, if_neg (by simp)]
  have e5 : swpP P o.i o.m = P := by unfold swpP; rw [h5, if_neg (by simp)]
  have e6 : shtP P o.i = P := by unfold shtP; rw [h6, if_neg (by simp)]
  refine ⟨?_, ?_, ?_⟩
  · unfold doB; rw [if_neg (by omega), h, h4, h5, h6]; simp
  · unfold doP; rw [if_neg (by omega), hd, e4, e5, e6]; simp
  · unfold doX takeX; rw [h]; simp
theorem lst_neg (Y : List Lt) (l : Lt) : lstL Y (-1) l = Y := by unfold lstL; rw [if_neg (by omega)]
theorem Sr.chgT {w0 W F : World} {b : Nat} {cs : Array Value} {v : Value} {L : List Nat} (h : Sr w0 W v L) (ch : Chg [b] W F) (hb : W.heap[b]? = some (.cells cs 46 (0, 0))) : Sr w0 F v L := h.imp id (fun o => o.chg ch (o.offT hb (by decide)))
def RPost (w0 W : World) (v : Value) (most : Nat) (P' : List PL) (px : PL) (b : Bool) (e : Ending) (w' : World) : Prop := ∃ a c Z x, e = .returned (.tuple #[.agg #[.int .i64 (most : Nat), .slice a (List.length Z) c], .agg #[.int .i64 (Lt.f x), .int .i64 x.t, .slice x.a x.L.length x.c], .bool b]) ∧ DocAt w0 w' (.slice a Z.length c) Z ∧ Z.map Lt.p = P' ∧ x.p = px ∧ Sr w0 w' x.v x.L ∧ Old W w' ∧ ∀ g, (Value.slice a Z.length c).ownBlock = some g → v.ownBlock = some g ∨ W.heap.size ≤ g
set_option maxHeartbeats 80000000 in
set_option maxRecDepth 20000 in
theorem rdo_any (w0 W : World) (most : Nat) (ya : Option Addr) (yc : Nat) (Y : List Lt) (o : Opn) (h : DocAt w0 W (.slice ya Y.length yc) Y) (hle : Y.length ≤ most ∧ most ≤ 1000) (u0 : Old w0 W) (ho : o.Ok w0) (hk : 1 ≤ o.k ∧ o.k ≤ 6) : Calls Try.prog 16 #[.agg #[.int .i64 (most : Nat), .slice ya Y.length yc], .agg #[.int .i64 o.k, .int .i64 o.i, .int .i64 o.m, .int .i64 o.f, .int .i64 o.t, o.v]] W (RPost w0 W (.slice ya Y.length yc) most (doP most (Y.map Lt.p) o) (doX (Y.map Lt.p) o) (doB most (Y.map Lt.p) o)) := by
  obtain ⟨ok, oi, om, of, ot, ov, oL⟩ := o
  obtain ⟨hr, hL⟩ := ho
  obtain ⟨pa, pc, e⟩ := hr.len
  dsimp only at e hr hL hk ⊢
  subst e
  have HR := hid hr
  have HL := hid hL
  have HU0 := hid u0
  have HD := hid h
  have HK := hid hk
  have HLe := hid hle
  have HPl := hid (show (Y.map Lt.p).length = Y.length from List.length_map ..)
  clear h hle u0 hr hL hk
  obtain ⟨n, hn⟩ : ∃ n, n = Y.length := ⟨_, rfl⟩
  have HN := hid hn
  rw [← hn] at HD HLe HPl ⊢
  obtain ⟨pl, hpl⟩ : ∃ pl, pl = oL.length := ⟨_, rfl⟩
  have HPL := hid hpl
  rw [← hpl] at HR ⊢
  clear hn hpl
  go_enter Try.func16, Try.ntmps16
  go_upto_region 1 with (fail)
  have HU := hid (show Old W ((((W.alloc (.cells #[.int .i64 (most : Nat), .slice ya n yc] 46)).alloc (.cells #[.int .i64 ok, .int .i64 oi, .int .i64 om, .int .i64 of, .int .i64 ot, .slice pa pl pc] 53)).alloc (.cells #[.int .i64 0, .slice none 0 0] 46)).alloc (.cells #[.int .i64 0, .int .i64 0, .slice none 0 0] 48)) from ((((Old.refl W).alloc _).alloc _).alloc _).alloc _)
  have HB0 := hid (show ((((W.alloc (.cells #[.int .i64 (most : Nat), .slice ya n yc] 46)).alloc (.cells #[.int .i64 ok, .int .i64 oi, .int .i64 om, .int .i64 of, .int .i64 ot, .slice pa pl pc] 53)).alloc (.cells #[.int .i64 0, .slice none 0 0] 46)).alloc (.cells #[.int .i64 0, .int .i64 0, .slice none 0 0] 48)).heap[W.heap.size]? = some (.cells #[.int .i64 (most : Nat), .slice ya n yc] 46 (0, 0)) from alloc_keep (alloc_keep (alloc_keep (alloc_at W _))))
  have HB1 := hid (show ((((W.alloc (.cells #[.int .i64 (most : Nat), .slice ya n yc] 46)).alloc (.cells #[.int .i64 ok, .int .i64 oi, .int .i64 om, .int .i64 of, .int .i64 ot, .slice pa pl pc] 53)).alloc (.cells #[.int .i64 0, .slice none 0 0] 46)).alloc (.cells #[.int .i64 0, .int .i64 0, .slice none 0 0] 48)).heap[W.heap.size + 1]? = some (.cells #[.int .i64 ok, .int .i64 oi, .int .i64 om, .int .i64 of, .int .i64 ot, .slice pa pl pc] 53 (0, 0)) from by have := alloc_keep (q := (.cells #[.int .i64 0, .int .i64 0, .slice none 0 0] 48)) (alloc_keep (q := (.cells #[.int .i64 0, .slice none 0 0] 46)) (alloc_at (W.alloc (.cells #[.int .i64 (most : Nat), .slice ya n yc] 46)) (.cells #[.int .i64 ok, .int .i64 oi, .int .i64 om, .int .i64 of, .int .i64 ot, .slice pa pl pc] 53))); simpa using this)
  have HB2 := hid (show ((((W.alloc (.cells #[.int .i64 (most : Nat), .slice ya n yc] 46)).alloc (.cells #[.int .i64 ok, .int .i64 oi, .int .i64 om, .int .i64 of, .int .i64 ot, .slice pa pl pc] 53)).alloc (.cells #[.int .i64 0, .slice none 0 0] 46)).alloc (.cells #[.int .i64 0, .int .i64 0, .slice none 0 0] 48)).heap[W.heap.size + 1 + 1]? = some (.cells #[.int .i64 0, .slice none 0 0] 46 (0, 0)) from by have := alloc_keep (q := (.cells #[.int .i64 0, .int .i64 0, .slice none 0 0] 48)) (alloc_at ((W.alloc (.cells #[.int .i64 (most : Nat), .slice ya n yc] 46)).alloc (.cells #[.int .i64 ok, .int .i64 oi, .int .i64 om, .int .i64 of, .int .i64 ot, .slice pa pl pc] 53)) (.cells #[.int .i64 0, .slice none 0 0] 46)); simpa using this)
  have HB3 := hid (show ((((W.alloc (.cells #[.int .i64 (most : Nat), .slice ya n yc] 46)).alloc (.cells #[.int .i64 ok, .int .i64 oi, .int .i64 om, .int .i64 of, .int .i64 ot, .slice pa pl pc] 53)).alloc (.cells #[.int .i64 0, .slice none 0 0] 46)).alloc (.cells #[.int .i64 0, .int .i64 0, .slice none 0 0] 48)).heap[W.heap.size + 1 + 1 + 1]? = some (.cells #[.int .i64 0, .int .i64 0, .slice none 0 0] 48 (0, 0)) from by have := alloc_at (((W.alloc (.cells #[.int .i64 (most : Nat), .slice ya n yc] 46)).alloc (.cells #[.int .i64 ok, .int .i64 oi, .int .i64 om, .int .i64 of, .int .i64 ot, .slice pa pl pc] 53)).alloc (.cells #[.int .i64 0, .slice none 0 0] 46)) (.cells #[.int .i64 0, .int .i64 0, .slice none 0 0] 48); simpa using this)
  have HSz := hid (show ((((W.alloc (.cells #[.int .i64 (most : Nat), .slice ya n yc] 46)).alloc (.cells #[.int .i64 ok, .int .i64 oi, .int .i64 om, .int .i64 of, .int .i64 ot, .slice pa pl pc] 53)).alloc (.cells #[.int .i64 0, .slice none 0 0] 46)).alloc (.cells #[.int .i64 0, .int .i64 0, .slice none 0 0] 48)).heap.size = W.heap.size + 1 + 1 + 1 + 1 from by simp)
  generalize (((W.alloc (.cells #[.int .i64 (most : Nat), .slice ya n yc] 46)).alloc (.cells #[.int .i64 ok, .int .i64 oi, .int .i64 om, .int .i64 of, .int .i64 ot, .slice pa pl pc] 53)).alloc (.cells #[.int .i64 0, .slice none 0 0] 46)).alloc (.cells #[.int .i64 0, .int .i64 0, .slice none 0 0] 48) = w4 at *
  obtain ⟨b0, e0⟩ : ∃ b0, b0 = W.heap.size := ⟨_, rfl⟩
  obtain ⟨b1, e1⟩ : ∃ b1, b1 = W.heap.size + 1 := ⟨_, rfl⟩
  obtain ⟨b2, e2⟩ : ∃ b2, b2 = W.heap.size + 1 + 1 := ⟨_, rfl⟩
  obtain ⟨b3, e3⟩ : ∃ b3, b3 = W.heap.size + 1 + 1 + 1 := ⟨_, rfl⟩
  have HS := hid (show W.heap.size ≤ b0 ∧ b0 < b1 ∧ b1 < b2 ∧ b2 < b3 ∧ b3 < w4.heap.size from by have := HSz.out; omega)
  rw [← e0] at HB0
  rw [← e1] at HB1
  rw [← e2] at HB2
  rw [← e3] at HB3
  rw [← e3, ← e2, ← e1, ← e0]
  clear e0 e1 e2 e3 HSz
  have HLs := hid (show ∀ (W' : World) (za : Option Addr) (zn zc : Nat) (Q : List Lt) (at_ : Int) (l : Lt) (vm : Value) (M Z : List Lt) (c1 c2 : Nat), lstL Q at_ l ++ M = Z → OwnR c1 W' (.slice za zn zc) Q → zn = Q.length → OwnR c2 W' vm M → Q.length ≤ 1000 → M.length ≤ 1 → Calls Try.prog 26 #[.agg #[.int .i64 (most : Nat), .slice za zn zc], .int .i64 at_, .agg #[.int .i64 l.f, .int .i64 l.t, .slice l.a l.L.length l.c], vm] W' (LstPost W' Z) from fun W' za zn zc Q at_ l vm M Z c1 c2 eZ h1 h2 h3 h4 h5 => by
    subst eZ h2
    exact rlist_any _ za zc Q at_ l vm M c1 c2 W' h1 h3 h4 h5)
  have HF := hid (show ∀ (w6 : World) (a : Option Addr) (c : Nat) (Z : List Lt) (x : Lt) (b : Bool) (P' : List PL) (px : PL) (p0 q0 y0 y1 y2 : Value), Old W w6 → w6.heap[b2]? = some (.cells #[p0, q0] 46 (0, 0)) → w6.heap[b3]? = some (.cells #[y0, y1, y2] 48 (0, 0)) → DocAt w0 w6 (.slice a Z.length c) Z → (∀ g, (Value.slice a Z.length c).ownBlock = some g → (g ≠ b2 ∧ g ≠ b3) ∧ ((Value.slice ya n yc).ownBlock = some g ∨ W.heap.size ≤ g)) → Z.map Lt.p = P' → x.p = px → Sr w0 w6 x.v x.L → RPost w0 W (.slice ya n yc) most P' px b (.returned (.tuple #[.agg #[.int .i64 (most : Nat), .slice a Z.length c], .agg #[.int .i64 x.f, .int .i64 x.t, .slice x.a x.L.length x.c], .bool b])) (rF w6 b2 b3 (.int .i64 (most : Nat)) (.slice a Z.length c) (.int .i64 x.f) (.int .i64 x.t) (.slice x.a x.L.length x.c)) from fun w6 a c Z x b P' px p0 q0 y0 y1 y2 u h2 h3 hD hB hP hx hS => by
    obtain ⟨-, -, FC⟩ := rfin (p := .int .i64 (most : Nat)) (q := .slice a Z.length c) (x := .int .i64 x.f) (y := .int .i64 x.t) (z := .slice x.a x.L.length x.c) h2 h3
    exact ⟨a, c, Z, x, rfl, hD.chg2 (B := 0) FC h2 h3 (fun g e => (hB g e).1), hP, hx, hS.chg2 FC h2 h3, FC.oldOf u (fun k hk => by have := HS.out; simp at hk; omega), fun g e => (hB g e).2⟩)
  have HYB := hid (show ∀ g, (Value.slice ya n yc).ownBlock = some g → (g ≠ b2 ∧ g ≠ b3) ∧ ((Value.slice ya n yc).ownBlock = some g ∨ W.heap.size ≤ g) from fun g e => ⟨by have := (HD.out.row.lt g e).2; have := HS.out; omega, .inl e⟩)
  have HYl := hid (show Y.length ≤ 1000 from by have := HLe.out; have := HN.out; omega)
  obtain ⟨z0, z1, z2, z3, z4, z5⟩ := box6 HB1.out
  have n23 : b2 ≠ b3 := by have := HS.out; omega
  have n32 : b3 ≠ b2 := by have := HS.out; omega
  by_cases c1 : ok = 1
  · subst c1
    have EX := hid (show doX (Y.map Lt.p) ⟨1, oi, om, of, ot, .slice pa pl pc, oL⟩ = (0, 0, []) from rfl)
    have EP := hid (show doP most (Y.map Lt.p) ⟨1, oi, om, of, ot, .slice pa pl pc, oL⟩ = sendP most (Y.map Lt.p) (of, ot, oL) from rfl)
    have EB := hid (show doB most (Y.map Lt.p) ⟨1, oi, om, of, ot, .slice pa pl pc, oL⟩ = decide ((Y.map Lt.p).length < most) from rfl)
    by_cases hc : n < most
    · have ES := hid (show (Y.map Lt.p) ++ [(of, ot, oL)] = sendP most (Y.map Lt.p) (of, ot, oL) from by unfold sendP; rw [HPl.out, if_pos hc])
      have EBv := hid (show doB most (Y.map Lt.p) ⟨1, oi, om, of, ot, .slice pa pl pc, oL⟩ = true from by rw [EB.out, HPl.out, decide_eq_true hc])
      have l1 : ¬ (most : Int) ≤ (n : Int) := by omega
      obtain ⟨x0, x1, xf0, xf1⟩ := box2 HB0.out
      obtain ⟨Z, hZ⟩ : ∃ Z, lstL Y (-1) zLt ++ [(⟨of, ot, pa, pc, oL⟩ : Lt)] = Z := ⟨_, rfl⟩
      have HOne := hid (show OwnR w4.heap.size (w4.alloc (.cells #[.int .i64 of, .int .i64 ot, .slice pa pl pc] 48)) (.slice (some ⟨w4.heap.size, 0, none⟩) 1 1) [⟨of, ot, pa, pc, oL⟩] from by rw [HPL.out]; exact OwnR.one w4 ⟨of, ot, pa, pc, oL⟩)
      have HV4 := hid (show Old w4 (w4.alloc (.cells #[.int .i64 of, .int .i64 ot, .slice pa pl pc] 48)) from (Old.refl w4).alloc _)
      have HCl := hid (HLs.out _ ya n yc Y (-1) zLt _ [⟨of, ot, pa, pc, oL⟩] Z _ _ hZ (HD.out.row.old (HU.out.trans HV4.out)) HN.out HOne.out HYl.out (by simp))
      have HZ := hid hZ
      clear hZ hc
      go_upto_region 5 with (go_at_call 26; refine HCl.out.mono ?_; rintro e w5 ⟨a5, c5, rfl, o5, u5⟩; have O5 := hid o5; have U5 := hid (HV4.out.trans u5); have k1 := U5.out.keep x1; have k2 := U5.out.keepF x1 xf1; clear o5 u5)
      have C0 := hid (show (w5.setCell ⟨b0, 1, none⟩ (.slice a5 Z.length c5)).heap[b0]? = some (.cells #[.int .i64 (most : Nat), (.slice a5 Z.length c5)] 46 (0, 0)) from Go.Joins.block_setCell (U5.out.block HB0.out) (.slice a5 Z.length c5) (i := 1))
      have C2 := hid (show (w5.setCell ⟨b0, 1, none⟩ (.slice a5 Z.length c5)).heap[b2]? = some (.cells #[.int .i64 0, .slice none 0 0] 46 (0, 0)) from set_other (U5.out.block HB2.out) (by have := HS.out; omega))
      have C3 := hid (show (w5.setCell ⟨b0, 1, none⟩ (.slice a5 Z.length c5)).heap[b3]? = some (.cells #[.int .i64 0, .int .i64 0, .slice none 0 0] 48 (0, 0)) from set_other (U5.out.block HB3.out) (by have := HS.out; omega))
      have CC := hid (Chg.set (S := [b0]) w5 ⟨b0, 1, none⟩ (.slice a5 Z.length c5) (by simp))
      have CU := hid (show Old W (w5.setCell ⟨b0, 1, none⟩ (.slice a5 Z.length c5)) from (HU.out.trans U5.out).setCell (p := ⟨b0, 1, none⟩) HS.out.1 _)
      have HB5 := hid (show w4.heap.size ≤ (w4.alloc (.cells #[.int .i64 of, .int .i64 ot, .slice pa pl pc] 48)).heap.size from HV4.out.size)
      generalize w5.setCell ⟨b0, 1, none⟩ (.slice a5 Z.length c5) = w6 at *
      clear k1 k2 x0 x1 xf0 xf1
      have HSr := hid (show ∀ y ∈ Z, Sr w0 w6 y.v y.L ∧ y.L.length ≤ 140737488355328 from fun y hy => by
        rw [← HZ.out, lst_neg] at hy
        rcases List.mem_append.1 hy with q | q
        · exact ⟨((HD.out.byt y q).1.old (HU.out.trans U5.out)).chgT CC.out (U5.out.block HB0.out), (HD.out.byt y q).2⟩
        · rw [List.mem_singleton.1 q]; exact ⟨.inl (by unfold Lt.v; dsimp only; rw [← HPL.out]; exact HR.out), HL.out⟩)
      have HDZ := hid (show DocAt w0 w6 (.slice a5 Z.length c5) Z from ⟨(O5.out.chg CC.out (fun g e k => by have := (O5.out.lt g e).1; have := HB5.out; have := HS.out; simp at k; omega)).mono (by have := HB5.out; have := HS.out; have := HU0.out.size; omega), fun y hy => HSr.out y hy⟩)
      obtain ⟨x0, x1, -, -⟩ := box2 C0.out
      obtain ⟨p0, p1, pf0, pf1⟩ := box2 C2.out
      obtain ⟨q0, q1, q2, qf0, qf1, qf2⟩ := box3 C3.out
      have HFin := hid (HF.out w6 a5 c5 Z zLt true (sendP most (Y.map Lt.p) (of, ot, oL)) (0, 0, []) _ _ _ _ _ CU.out C2.out C3.out HDZ.out (fun g e => by have := (O5.out.lt g e).1; have := HB5.out; have := HS.out; exact ⟨by omega, .inr (by omega)⟩) (by rw [← HZ.out, lst_neg, List.map_append, ← ES.out]; rfl) rfl (Sr.nil _ _))
      go_wp2
      obtain ⟨F2, F3, -⟩ := rfin (p := .int .i64 (most : Nat)) (q := .slice a5 Z.length c5) (x := .int .i64 0) (y := .int .i64 0) (z := .slice none 0 0) C2.out C3.out
      obtain ⟨r0, r1, -, -⟩ := box2 F2
      obtain ⟨s0, s1, s2, -, -, -⟩ := box3 F3
      unfold rF at r0 r1 s0 s1 s2
      clear F2 F3
      refine bodyPost_ret (v := .tuple #[.agg #[.int .i64 (most : Nat), .slice a5 Z.length c5], .agg #[.int .i64 0, .int .i64 0, .slice none 0 0], .bool true]) (by simp [results, Try.results16, go_sem, r0, r1, s0, s1, s2]) rfl ?_
      rw [EX.out, EP.out, EBv.out]
      exact HFin.out
    · have ES := hid (show (Y.map Lt.p) = sendP most (Y.map Lt.p) (of, ot, oL) from by unfold sendP; rw [HPl.out, if_neg hc])
      have EBv := hid (show doB most (Y.map Lt.p) ⟨1, oi, om, of, ot, .slice pa pl pc, oL⟩ = false from by rw [EB.out, HPl.out, decide_eq_false hc])
      have l1 : (most : Int) ≤ (n : Int) := by omega
      clear hc
      obtain ⟨x0, x1, -, -⟩ := box2 HB0.out
      obtain ⟨p0, p1, pf0, pf1⟩ := box2 HB2.out
      obtain ⟨q0, q1, q2, qf0, qf1, qf2⟩ := box3 HB3.out
      have HFin := hid (HF.out w4 ya yc Y zLt false (sendP most (Y.map Lt.p) (of, ot, oL)) (0, 0, []) _ _ _ _ _ HU.out HB2.out HB3.out (by rw [← HN.out]; exact HD.out.old HU.out) (by rw [← HN.out]; exact HYB.out) ES.out rfl (Sr.nil _ _))
      rw [← HN.out] at HFin
      go_wp2
      obtain ⟨F2, F3, -⟩ := rfin (p := .int .i64 (most : Nat)) (q := .slice ya n yc) (x := .int .i64 0) (y := .int .i64 0) (z := .slice none 0 0) HB2.out HB3.out
      obtain ⟨r0, r1, -, -⟩ := box2 F2
      obtain ⟨s0, s1, s2, -, -, -⟩ := box3 F3
      unfold rF at r0 r1 s0 s1 s2
      clear F2 F3
      refine bodyPost_ret (v := .tuple #[.agg #[.int .i64 (most : Nat), .slice ya n yc], .agg #[.int .i64 0, .int .i64 0, .slice none 0 0], .bool false]) (by simp [results, Try.results16, go_sem, r0, r1, s0, s1, s2]) rfl ?_
      rw [EX.out, EP.out, EBv.out]
      exact HFin.out
  have c1b : (ok == 1) = false := by rw [beq_eq_false_iff_ne]; exact c1
  by_cases hrng : 0 ≤ oi ∧ oi < (n : Int)
  · obtain ⟨q, hq⟩ : ∃ q : Nat, oi = (q : Int) := ⟨oi.toNat, by omega⟩
    subst hq
    have hqn : q < n := by omega
    have hqY : q < Y.length := by rw [← HN.out]; exact hqn
    have HH := hid (show hasP (Y.map Lt.p) (q : Int) = true from by unfold hasP; rw [HPl.out]; simp; omega)
    have HGt := hid (show (Y.map Lt.p).getD (q : Int).toNat (0, 0, []) = Y[q].p from by rw [Int.toNat_natCast, List.getD_eq_getElem?_getD, List.getElem?_map, List.getElem?_eq_getElem hqY]; rfl)
    obtain ⟨gy, cy, qy, -, -, ⟨y0, y1, y2⟩, -⟩ := HD.out.row.at q hqY
    obtain ⟨ey, -, -⟩ := Value.slice.inj qy
    subst ey
    have HBq := hid (HD.out.byt _ (List.getElem_mem hqY))
    have HQY := hid hqY
    have k0 := HU.out.keep y0
    have k1 := HU.out.keep y1
    have k2 := HU.out.keep y2
    unfold Lt.v at k2 HBq
    have l1 : (0 : Int) ≤ (q : Int) := by omega
    have l2 : (q : Int) < (n : Int) := by omega
    have d1 : decide ((q : Int) < 0) = false := by rw [decide_eq_false_iff_not]; omega
    have d2 : decide ((n : Int) ≤ (q : Int)) = false := by rw [decide_eq_false_iff_not]; omega
    have d3 : decide (n ≤ q) = false := by rw [decide_eq_false_iff_not]; omega
    obtain ⟨x0, x1, xf0, xf1⟩ := box2 HB0.out
    clear y0 y1 y2 qy hrng
    obtain ⟨lx, hlx⟩ : ∃ lx, Y[q]'hqY = lx := ⟨_, rfl⟩
    have HLx := hid hlx
    rw [hlx] at k0 k1 k2 HBq HGt
    clear hlx
    go_upto_region 9 with (fail)
    have HV5 := hid (show Old w4 (w4.alloc (.cells #[.int .i64 lx.f, .int .i64 lx.t, .slice lx.a lx.L.length lx.c] 48)) from (Old.refl w4).alloc _)
    have HB7 := hid (alloc_at w4 (.cells #[.int .i64 lx.f, .int .i64 lx.t, .slice lx.a lx.L.length lx.c] 48))
    have HSz := hid (show (w4.alloc (.cells #[.int .i64 lx.f, .int .i64 lx.t, .slice lx.a lx.L.length lx.c] 48)).heap.size = w4.heap.size + 1 from by simp)
    clear k0 k1 k2
    generalize w4.alloc (.cells #[.int .i64 lx.f, .int .i64 lx.t, .slice lx.a lx.L.length lx.c] 48) = w5 at *
    obtain ⟨b7, hb7⟩ : ∃ b7, b7 = w4.heap.size := ⟨_, rfl⟩
    have HS7 := hid (show b3 < b7 ∧ b7 < w5.heap.size ∧ w4.heap.size ≤ b7 from by have := HS.out; have := HSz.out; omega)
    rw [← hb7] at HB7 ⊢
    clear hb7 HSz
    have HU5 := hid (HU.out.trans HV5.out)
    have D0 := hid (HV5.out.block HB0.out)
    have D1 := hid (HV5.out.block HB1.out)
    have D2 := hid (HV5.out.block HB2.out)
    have D3 := hid (HV5.out.block HB3.out)
    clear z0 z1 z2 z3 z4 z5 x0 x1 xf0 xf1
    obtain ⟨z0, z1, z2, z3, z4, z5⟩ := box6 D1.out
    obtain ⟨x0, x1, xf0, xf1⟩ := box2 D0.out
    obtain ⟨t0, t1, t2, tf0, tf1, tf2⟩ := box3 HB7.out
    by_cases c4 : ok = 4
    · subst c4
      have EX := hid (show doX (Y.map Lt.p) ⟨4, (q : Int), om, of, ot, .slice pa pl pc, oL⟩ = (0, 0, []) from rfl)
      have EP := hid (show doP most (Y.map Lt.p) ⟨4, (q : Int), om, of, ot, .slice pa pl pc, oL⟩ = dblP most (Y.map Lt.p) (q : Int) from rfl)
      have EB := hid (show doB most (Y.map Lt.p) ⟨4, (q : Int), om, of, ot, .slice pa pl pc, oL⟩ = dblB most (Y.map Lt.p) (q : Int) from rfl)
      clear c1 c1b
      by_cases hc : n < most
      · have l3 : ¬ (most : Int) ≤ (n : Int) := by omega
        have EBd := hid (show dblB most (Y.map Lt.p) (q : Int) = true from by unfold dblB; rw [HH.out, HPl.out]; simpa using hc)
        have EBv := hid (show doB most (Y.map Lt.p) ⟨4, (q : Int), om, of, ot, .slice pa pl pc, oL⟩ = true from by rw [EB.out, EBd.out])
        have ES := hid (show (Y.map Lt.p) ++ [lx.p] = dblP most (Y.map Lt.p) (q : Int) from by unfold dblP; rw [if_pos EBd.out, HGt.out])
        obtain ⟨Z, hZ⟩ : ∃ Z, lstL Y (-1) zLt ++ [lx] = Z := ⟨_, rfl⟩
        have HOne := hid (OwnR.one w5 lx)
        have HVa := hid (show Old w5 (w5.alloc (.cells #[.int .i64 lx.f, .int .i64 lx.t, .slice lx.a lx.L.length lx.c] 48)) from (Old.refl w5).alloc _)
        have HCl := hid (HLs.out _ (some ⟨gy, 0, none⟩) n yc Y (-1) zLt _ [lx] Z _ _ hZ (HD.out.row.old (HU5.out.trans HVa.out)) HN.out HOne.out HYl.out (by simp))
        have HZ := hid hZ
        clear hZ hc
        go_upto_region 37 with (go_at_call 26; refine HCl.out.mono ?_; rintro e w6 ⟨a5, c5, rfl, o5, u5⟩; have O5 := hid o5; have U5 := hid (HV5.out.trans (HVa.out.trans u5)); have k1 := (HVa.out.trans u5).keep x1; have k2 := (HVa.out.trans u5).keepF x1 xf1; clear o5 u5)
        have C0 := hid (show (w6.setCell ⟨b0, 1, none⟩ (.slice a5 Z.length c5)).heap[b0]? = some (.cells #[.int .i64 (most : Nat), (.slice a5 Z.length c5)] 46 (0, 0)) from Go.Joins.block_setCell (U5.out.block HB0.out) (.slice a5 Z.length c5) (i := 1))
        have C2 := hid (show (w6.setCell ⟨b0, 1, none⟩ (.slice a5 Z.length c5)).heap[b2]? = some (.cells #[.int .i64 0, .slice none 0 0] 46 (0, 0)) from set_other (U5.out.block HB2.out) (by have := HS.out; omega))
        have C3 := hid (show (w6.setCell ⟨b0, 1, none⟩ (.slice a5 Z.length c5)).heap[b3]? = some (.cells #[.int .i64 0, .int .i64 0, .slice none 0 0] 48 (0, 0)) from set_other (U5.out.block HB3.out) (by have := HS.out; omega))
        have CC := hid (Chg.set (S := [b0]) w6 ⟨b0, 1, none⟩ (.slice a5 Z.length c5) (by simp))
        have CU := hid (show Old W (w6.setCell ⟨b0, 1, none⟩ (.slice a5 Z.length c5)) from (HU.out.trans U5.out).setCell (p := ⟨b0, 1, none⟩) HS.out.1 _)
        have HB5 := hid (show w4.heap.size ≤ (w5.alloc (.cells #[.int .i64 lx.f, .int .i64 lx.t, .slice lx.a lx.L.length lx.c] 48)).heap.size from (HV5.out.trans HVa.out).size)
        generalize w6.setCell ⟨b0, 1, none⟩ (.slice a5 Z.length c5) = w7 at *
        clear k1 k2
        clear z0 z1 z2 z3 z4 z5 x0 x1 xf0 xf1 t0 t1 t2 tf0 tf1 tf2
        have HSr := hid (show ∀ y ∈ Z, Sr w0 w7 y.v y.L ∧ y.L.length ≤ 140737488355328 from fun y hy => by rw [← HZ.out, lst_neg] at hy; rcases List.mem_append.1 hy with z | z; exact ⟨((HD.out.byt y z).1.old (HU.out.trans U5.out)).chgT CC.out (U5.out.block HB0.out), (HD.out.byt y z).2⟩; rw [List.mem_singleton.1 z]; exact ⟨(HBq.out.1.old (HU.out.trans U5.out)).chgT CC.out (U5.out.block HB0.out), HBq.out.2⟩)
        have HDZ := hid (show DocAt w0 w7 (.slice a5 Z.length c5) Z from ⟨(O5.out.chg CC.out (fun g e k => by have := (O5.out.lt g e).1; have := HB5.out; have := HS.out; simp at k; omega)).mono (by have := HB5.out; have := HS.out; have := HU0.out.size; omega), HSr.out⟩)
        obtain ⟨x0, x1, -, -⟩ := box2 C0.out
        obtain ⟨p0, p1, pf0, pf1⟩ := box2 C2.out
        obtain ⟨q0, q1, q2, qf0, qf1, qf2⟩ := box3 C3.out
        have HFin := hid (HF.out w7 a5 c5 Z zLt true (dblP most (Y.map Lt.p) (q : Int)) (0, 0, []) _ _ _ _ _ CU.out C2.out C3.out HDZ.out (fun g e => by have := (O5.out.lt g e).1; have := HB5.out; have := HS.out; exact ⟨by omega, .inr (by omega)⟩) (by rw [← HZ.out, lst_neg, List.map_append, ← ES.out]; rfl) rfl (Sr.nil _ _))
        go_wp2
        obtain ⟨F2, F3, -⟩ := rfin (p := .int .i64 (most : Nat)) (q := .slice a5 Z.length c5) (x := .int .i64 0) (y := .int .i64 0) (z := .slice none 0 0) C2.out C3.out
        obtain ⟨r0, r1, -, -⟩ := box2 F2
        obtain ⟨s0, s1, s2, -, -, -⟩ := box3 F3
        unfold rF at r0 r1 s0 s1 s2
        clear F2 F3
        refine bodyPost_ret (v := .tuple #[.agg #[.int .i64 (most : Nat), .slice a5 Z.length c5], .agg #[.int .i64 0, .int .i64 0, .slice none 0 0], .bool true]) (by simp [results, Try.results16, go_sem, r0, r1, s0, s1, s2]) rfl ?_
        rw [EX.out, EP.out, EBv.out]
        exact HFin.out
      · have l3 : (most : Int) ≤ (n : Int) := by omega
        have EBd := hid (show dblB most (Y.map Lt.p) (q : Int) = false from by unfold dblB; rw [HH.out, HPl.out]; simpa using hc)
        have EBv := hid (show doB most (Y.map Lt.p) ⟨4, (q : Int), om, of, ot, .slice pa pl pc, oL⟩ = false from by rw [EB.out, EBd.out])
        have ES := hid (show (Y.map Lt.p) = dblP most (Y.map Lt.p) (q : Int) from by unfold dblP; rw [EBd.out, if_neg (by simp)])
        clear hc
        obtain ⟨x0, x1, -, -⟩ := box2 D0.out
        obtain ⟨p0, p1, pf0, pf1⟩ := box2 D2.out
        obtain ⟨q0, q1, q2, qf0, qf1, qf2⟩ := box3 D3.out
        have HFin := hid (HF.out w5 (some ⟨gy, 0, none⟩) yc Y zLt false (dblP most (Y.map Lt.p) (q : Int)) (0, 0, []) _ _ _ _ _ HU5.out D2.out D3.out (by rw [← HN.out]; exact HD.out.old HU5.out) (by rw [← HN.out]; exact HYB.out) ES.out rfl (Sr.nil _ _))
        rw [← HN.out] at HFin
        go_wp2
        obtain ⟨F2, F3, -⟩ := rfin (p := .int .i64 (most : Nat)) (q := .slice (some ⟨gy, 0, none⟩) n yc) (x := .int .i64 0) (y := .int .i64 0) (z := .slice none 0 0) D2.out D3.out
        obtain ⟨r0, r1, -, -⟩ := box2 F2
        obtain ⟨s0, s1, s2, -, -, -⟩ := box3 F3
        unfold rF at r0 r1 s0 s1 s2
        clear F2 F3
        refine bodyPost_ret (v := .tuple #[.agg #[.int .i64 (most : Nat), .slice (some ⟨gy, 0, none⟩) n yc], .agg #[.int .i64 0, .int .i64 0, .slice none 0 0], .bool false]) (by simp [results, Try.results16, go_sem, r0, r1, s0, s1, s2]) rfl ?_
        rw [EX.out, EP.out, EBv.out]
        exact HFin.out
    by_cases c5 : ok = 5
    · subst c5
      have EX := hid (show doX (Y.map Lt.p) ⟨5, (q : Int), om, of, ot, .slice pa pl pc, oL⟩ = (0, 0, []) from rfl)
      have EP := hid (show doP most (Y.map Lt.p) ⟨5, (q : Int), om, of, ot, .slice pa pl pc, oL⟩ = swpP (Y.map Lt.p) (q : Int) om from rfl)
      have EB := hid (show doB most (Y.map Lt.p) ⟨5, (q : Int), om, of, ot, .slice pa pl pc, oL⟩ = swpB (Y.map Lt.p) (q : Int) om from rfl)
      clear c1 c1b c4
      by_cases hr2 : 0 ≤ om ∧ om < (n : Int)
      · obtain ⟨r, hr⟩ : ∃ r : Nat, om = (r : Int) := ⟨om.toNat, by omega⟩
        subst hr
        have hrY : r < Y.length := by rw [← HN.out]; omega
        have HH2 := hid (show hasP (Y.map Lt.p) (r : Int) = true from by unfold hasP; rw [HPl.out]; simp; omega)
        have HGt2 := hid (show (Y.map Lt.p).getD (r : Int).toNat (0, 0, []) = (Y[r]'hrY).p from by rw [Int.toNat_natCast, List.getD_eq_getElem?_getD, List.getElem?_map, List.getElem?_eq_getElem hrY]; rfl)
        have HRY := hid hrY
        obtain ⟨gy2, cy2, qy2, -, -, ⟨y0, y1, y2⟩, -⟩ := HD.out.row.at r hrY
        cases (Value.slice.inj qy2).1
        have HBr := hid (HD.out.byt _ (List.getElem_mem hrY))
        have k0 := HU5.out.keep y0
        have k1 := HU5.out.keep y1
        have k2 := HU5.out.keep y2
        unfold Lt.v at k2 HBr
        have l3 : (0 : Int) ≤ (r : Int) := by omega
        have l4 : (r : Int) < (n : Int) := by omega
        clear y0 y1 y2 qy2 hr2
        obtain ⟨ly, hly⟩ : ∃ ly, Y[r]'hrY = ly := ⟨_, rfl⟩
        rw [hly] at k0 k1 k2 HBr HGt2
        clear hly
        have EBd := hid (show swpB (Y.map Lt.p) (q : Int) (r : Int) = true from by unfold swpB; rw [HH.out, HH2.out]; rfl)
        have EBv := hid (show doB most (Y.map Lt.p) ⟨5, (q : Int), (r : Int), of, ot, .slice pa pl pc, oL⟩ = true from by rw [EB.out, EBd.out])
        have ES := hid (show ((Y.map Lt.p).set q ly.p).set r lx.p = swpP (Y.map Lt.p) (q : Int) (r : Int) from by unfold swpP; rw [if_pos EBd.out, HGt.out, HGt2.out, Int.toNat_natCast, Int.toNat_natCast])
        go_upto_region 30 with (fail)
        have HV6 := hid (show Old w5 (w5.alloc (.cells #[.int .i64 ly.f, .int .i64 ly.t, .slice ly.a ly.L.length ly.c] 48)) from (Old.refl w5).alloc _)
        obtain ⟨v0, v1, v2, -, -, -⟩ := box3 (alloc_at w5 (.cells #[.int .i64 ly.f, .int .i64 ly.t, .slice ly.a ly.L.length ly.c] 48))
        have m0 := HV6.out.keep x0
        have m1 := HV6.out.keep x1
        have m2 := HV6.out.keepF x1 xf1
        have m3 := HV6.out.keep z1
        have m4 := HV6.out.keep z2
        have m5 := HV6.out.keep t0
        have m6 := HV6.out.keep t1
        have m7 := HV6.out.keep t2
        clear k0 k1 k2
        generalize w5.alloc (.cells #[.int .i64 ly.f, .int .i64 ly.t, .slice ly.a ly.L.length ly.c] 48) = w6 at *
        generalize w5.heap.size = b10 at *
        clear z0 z1 z2 z3 z4 z5 x0 x1 xf0 xf1 t0 t1 t2 tf0 tf1 tf2
        obtain ⟨Z1, hZ1⟩ : ∃ Z1, lstL Y (q : Int) ly ++ [] = Z1 := ⟨_, rfl⟩
        have HCl := hid (HLs.out w6 (some ⟨gy, 0, none⟩) n yc Y (q : Int) ly (.slice none 0 0) [] Z1 _ 0 hZ1 (HD.out.row.old (HU5.out.trans HV6.out)) HN.out (OwnR.nil 0 w6) HYl.out (by simp))
        have HZ1 := hid (show Z1 = Y.set q ly from by rw [← hZ1, lst_in Y q ly HQY.out, List.append_nil])
        clear hZ1
        go_upto_region 31 with (go_at_call 26; refine HCl.out.mono ?_; rintro e w7 ⟨a5, c5, rfl, o5, u5⟩; have O5 := hid o5; have U5 := hid (HV5.out.trans (HV6.out.trans u5)); have U7 := hid u5; have k1 := u5.keep m1; have k2 := u5.keepF m1 m2; clear o5 u5)
        have n0 := U7.out.keep m0
        have n3 := U7.out.keep m3
        have n4 := U7.out.keep m4
        have n5 := U7.out.keep m5
        have n6 := U7.out.keep m6
        have n7 := U7.out.keep m7
        have C0 := hid (show (w7.setCell ⟨b0, 1, none⟩ (.slice a5 Z1.length c5)).heap[b0]? = some (.cells #[.int .i64 (most : Nat), (.slice a5 Z1.length c5)] 46 (0, 0)) from Go.Joins.block_setCell (U5.out.block HB0.out) (.slice a5 Z1.length c5) (i := 1))
        have C2 := hid (show (w7.setCell ⟨b0, 1, none⟩ (.slice a5 Z1.length c5)).heap[b2]? = some (.cells #[.int .i64 0, .slice none 0 0] 46 (0, 0)) from set_other (U5.out.block HB2.out) (by have := HS.out; omega))
        have C3 := hid (show (w7.setCell ⟨b0, 1, none⟩ (.slice a5 Z1.length c5)).heap[b3]? = some (.cells #[.int .i64 0, .int .i64 0, .slice none 0 0] 48 (0, 0)) from set_other (U5.out.block HB3.out) (by have := HS.out; omega))
        have CC := hid (Chg.set (S := [b0]) w7 ⟨b0, 1, none⟩ (.slice a5 Z1.length c5) (by simp))
        have CU := hid (show Old W (w7.setCell ⟨b0, 1, none⟩ (.slice a5 Z1.length c5)) from (HU.out.trans U5.out).setCell (p := ⟨b0, 1, none⟩) HS.out.1 _)
        have HB5 := hid (show w4.heap.size ≤ w6.heap.size from (HV5.out.trans HV6.out).size)
        have o4 := CC.out.cell n4 (by have := HS.out; simp; omega)
        have o5 := CC.out.cell n5 (by have := HS.out; have := HS7.out; simp; omega)
        have o6 := CC.out.cell n6 (by have := HS.out; have := HS7.out; simp; omega)
        have o7 := CC.out.cell n7 (by have := HS.out; have := HS7.out; simp; omega)
        have HSr1 := hid (show ∀ y ∈ Z1, Sr w0 (w7.setCell ⟨b0, 1, none⟩ (.slice a5 Z1.length c5)) y.v y.L ∧ y.L.length ≤ 140737488355328 from fun y hy => by rw [HZ1.out] at hy; rcases List.mem_or_eq_of_mem_set hy with z | z; exact ⟨((HD.out.byt y z).1.old (HU.out.trans U5.out)).chgT CC.out (U5.out.block HB0.out), (HD.out.byt y z).2⟩; rw [z]; exact ⟨(HBr.out.1.old (HU.out.trans U5.out)).chgT CC.out (U5.out.block HB0.out), HBr.out.2⟩)
        have HSx := hid ((HBq.out.1.old (HU.out.trans U5.out)).chgT CC.out (U5.out.block HB0.out))
        have OZ1 := hid (O5.out.chg CC.out (fun g e k => by have := (O5.out.lt g e).1; have := HB5.out; have := HS.out; simp at k; omega))
        have HSz7 := hid (show w6.heap.size ≤ (w7.setCell ⟨b0, 1, none⟩ (.slice a5 Z1.length c5)).heap.size from by have := U7.out.size; simpa using this)
        have E0 := hid C0.out
        have E2 := hid C2.out
        have E3 := hid C3.out
        have EU := hid CU.out
        clear C0 C2 C3 CC CU k1 k2 m0 m1 m2 m3 m4 m5 m6 m7 n0 n3 n4 n5 n6 n7 v0 v1 v2
        generalize w7.setCell ⟨b0, 1, none⟩ (.slice a5 Z1.length c5) = w8 at *
        obtain ⟨x0, x1, xf0, xf1⟩ := box2 E0.out
        have hZl : Z1.length = n := by rw [HZ1.out, List.length_set, HN.out]
        obtain ⟨Z, hZ⟩ : ∃ Z, lstL Z1 (r : Int) lx ++ [] = Z := ⟨_, rfl⟩
        have HCl2 := hid (HLs.out w8 a5 Z1.length c5 Z1 (r : Int) lx (.slice none 0 0) [] Z _ 0 hZ OZ1.out rfl (OwnR.nil 0 w8) (by rw [hZl, HN.out]; exact HYl.out) (by simp))
        have HZ := hid (show Z = (Y.set q ly).set r lx from by rw [← hZ, lst_in Z1 r lx (by rw [hZl]; omega), List.append_nil, HZ1.out])
        clear hZ hZl
        go_upto_region 37 with (go_at_call 26; refine HCl2.out.mono ?_; rintro e w9 ⟨a6, c6, rfl, p6, u6⟩; have O6 := hid p6; have U9 := hid u6; have k1 := u6.keep x1; have k2 := u6.keepF x1 xf1; clear p6 u6)
        have C0 := hid (show (w9.setCell ⟨b0, 1, none⟩ (.slice a6 Z.length c6)).heap[b0]? = some (.cells #[.int .i64 (most : Nat), (.slice a6 Z.length c6)] 46 (0, 0)) from Go.Joins.block_setCell (U9.out.block E0.out) (.slice a6 Z.length c6) (i := 1))
        have C2 := hid (show (w9.setCell ⟨b0, 1, none⟩ (.slice a6 Z.length c6)).heap[b2]? = some (.cells #[.int .i64 0, .slice none 0 0] 46 (0, 0)) from set_other (U9.out.block E2.out) (by have := HS.out; omega))
        have C3 := hid (show (w9.setCell ⟨b0, 1, none⟩ (.slice a6 Z.length c6)).heap[b3]? = some (.cells #[.int .i64 0, .int .i64 0, .slice none 0 0] 48 (0, 0)) from set_other (U9.out.block E3.out) (by have := HS.out; omega))
        have CC := hid (Chg.set (S := [b0]) w9 ⟨b0, 1, none⟩ (.slice a6 Z.length c6) (by simp))
        have CU := hid (show Old W (w9.setCell ⟨b0, 1, none⟩ (.slice a6 Z.length c6)) from (EU.out.trans U9.out).setCell (p := ⟨b0, 1, none⟩) HS.out.1 _)
        have HB6 := hid (show w4.heap.size ≤ w8.heap.size from by have := HB5.out; have := HSz7.out; omega)
        have HSrB := hid (show ∀ y ∈ Z, Sr w0 (w9.setCell ⟨b0, 1, none⟩ (.slice a6 Z.length c6)) y.v y.L ∧ y.L.length ≤ 140737488355328 from fun y hy => by rw [HZ.out, ← HZ1.out] at hy; rcases List.mem_or_eq_of_mem_set hy with z | z; exact ⟨((HSr1.out y z).1.old U9.out).chgT CC.out (U9.out.block E0.out), (HSr1.out y z).2⟩; rw [z]; exact ⟨(HSx.out.old U9.out).chgT CC.out (U9.out.block E0.out), HBq.out.2⟩)
        generalize w9.setCell ⟨b0, 1, none⟩ (.slice a6 Z.length c6) = w10 at *
        clear k1 k2 x0 x1 xf0 xf1 o4 o5 o6 o7
        have HSr := hid (show ∀ y ∈ Z, Sr w0 w10 y.v y.L ∧ y.L.length ≤ 140737488355328 from HSrB.out)
        have HDZ := hid (show DocAt w0 w10 (.slice a6 Z.length c6) Z from ⟨(O6.out.chg CC.out (fun g e k => by have := (O6.out.lt g e).1; have := HB6.out; have := HS.out; simp at k; omega)).mono (by have := HB6.out; have := HS.out; have := HU0.out.size; omega), HSr.out⟩)
        obtain ⟨x0, x1, -, -⟩ := box2 C0.out
        obtain ⟨p0, p1, pf0, pf1⟩ := box2 C2.out
        obtain ⟨q0, q1, q2, qf0, qf1, qf2⟩ := box3 C3.out
        have HFin := hid (HF.out w10 a6 c6 Z zLt true (swpP (Y.map Lt.p) (q : Int) (r : Int)) (0, 0, []) _ _ _ _ _ CU.out C2.out C3.out HDZ.out (fun g e => by have := (O6.out.lt g e).1; have := HB6.out; have := HS.out; exact ⟨by omega, .inr (by omega)⟩) (by rw [HZ.out, List.map_set, List.map_set, ES.out]) rfl (Sr.nil _ _))
        go_wp2
        obtain ⟨F2, F3, -⟩ := rfin (p := .int .i64 (most : Nat)) (q := .slice a6 Z.length c6) (x := .int .i64 0) (y := .int .i64 0) (z := .slice none 0 0) C2.out C3.out
        obtain ⟨r0, r1, -, -⟩ := box2 F2
        obtain ⟨s0, s1, s2, -, -, -⟩ := box3 F3
        unfold rF at r0 r1 s0 s1 s2
        clear F2 F3
        refine bodyPost_ret (v := .tuple #[.agg #[.int .i64 (most : Nat), .slice a6 Z.length c6], .agg #[.int .i64 0, .int .i64 0, .slice none 0 0], .bool true]) (by simp [results, Try.results16, go_sem, r0, r1, s0, s1, s2]) rfl ?_
        rw [EX.out, EP.out, EBv.out]
        exact HFin.out
      · have hf2 : hasP (Y.map Lt.p) om = false := by unfold hasP; rw [HPl.out]; simpa using hr2
        have EBd := hid (show swpB (Y.map Lt.p) (q : Int) om = false from by unfold swpB; rw [hf2]; simp)
        have EBv := hid (show doB most (Y.map Lt.p) ⟨5, (q : Int), om, of, ot, .slice pa pl pc, oL⟩ = false from by rw [EB.out, EBd.out])
        have ES := hid (show (Y.map Lt.p) = swpP (Y.map Lt.p) (q : Int) om from by unfold swpP; rw [EBd.out, if_neg (by simp)])
        clear hf2
        by_cases cn : om < 0
        · clear hr2
          obtain ⟨x0, x1, -, -⟩ := box2 D0.out
          obtain ⟨p0, p1, pf0, pf1⟩ := box2 D2.out
          obtain ⟨q0, q1, q2, qf0, qf1, qf2⟩ := box3 D3.out
          have HFin := hid (HF.out w5 (some ⟨gy, 0, none⟩) yc Y zLt false (swpP (Y.map Lt.p) (q : Int) om) (0, 0, []) _ _ _ _ _ HU5.out D2.out D3.out (by rw [← HN.out]; exact HD.out.old HU5.out) (by rw [← HN.out]; exact HYB.out) ES.out rfl (Sr.nil _ _))
          rw [← HN.out] at HFin
          go_wp2
          obtain ⟨F2, F3, -⟩ := rfin (p := .int .i64 (most : Nat)) (q := .slice (some ⟨gy, 0, none⟩) n yc) (x := .int .i64 0) (y := .int .i64 0) (z := .slice none 0 0) D2.out D3.out
          obtain ⟨r0, r1, -, -⟩ := box2 F2
          obtain ⟨s0, s1, s2, -, -, -⟩ := box3 F3
          unfold rF at r0 r1 s0 s1 s2
          clear F2 F3
          refine bodyPost_ret (v := .tuple #[.agg #[.int .i64 (most : Nat), .slice (some ⟨gy, 0, none⟩) n yc], .agg #[.int .i64 0, .int .i64 0, .slice none 0 0], .bool false]) (by simp [results, Try.results16, go_sem, r0, r1, s0, s1, s2]) rfl ?_
          rw [EX.out, EP.out, EBv.out]
          exact HFin.out
        · have cn2 : (n : Int) ≤ om := by omega
          clear hr2
          obtain ⟨x0, x1, -, -⟩ := box2 D0.out
          obtain ⟨p0, p1, pf0, pf1⟩ := box2 D2.out
          obtain ⟨q0, q1, q2, qf0, qf1, qf2⟩ := box3 D3.out
          have HFin := hid (HF.out w5 (some ⟨gy, 0, none⟩) yc Y zLt false (swpP (Y.map Lt.p) (q : Int) om) (0, 0, []) _ _ _ _ _ HU5.out D2.out D3.out (by rw [← HN.out]; exact HD.out.old HU5.out) (by rw [← HN.out]; exact HYB.out) ES.out rfl (Sr.nil _ _))
          rw [← HN.out] at HFin
          go_wp2
          obtain ⟨F2, F3, -⟩ := rfin (p := .int .i64 (most : Nat)) (q := .slice (some ⟨gy, 0, none⟩) n yc) (x := .int .i64 0) (y := .int .i64 0) (z := .slice none 0 0) D2.out D3.out
          obtain ⟨r0, r1, -, -⟩ := box2 F2
          obtain ⟨s0, s1, s2, -, -, -⟩ := box3 F3
          unfold rF at r0 r1 s0 s1 s2
          clear F2 F3
          refine bodyPost_ret (v := .tuple #[.agg #[.int .i64 (most : Nat), .slice (some ⟨gy, 0, none⟩) n yc], .agg #[.int .i64 0, .int .i64 0, .slice none 0 0], .bool false]) (by simp [results, Try.results16, go_sem, r0, r1, s0, s1, s2]) rfl ?_
          rw [EX.out, EP.out, EBv.out]
          exact HFin.out
    by_cases c2 : ok = 2
    · subst c2
      have EX := hid (show doX (Y.map Lt.p) ⟨2, (q : Int), om, of, ot, .slice pa pl pc, oL⟩ = lx.p from by show takeX _ _ = _; unfold takeX; rw [if_pos HH.out, HGt.out])
      have EP := hid (show doP most (Y.map Lt.p) ⟨2, (q : Int), om, of, ot, .slice pa pl pc, oL⟩ = (Y.map Lt.p).eraseIdx q from by show dropP _ _ = _; unfold dropP; rw [if_pos HH.out, Int.toNat_natCast])
      have EBv := hid (show doB most (Y.map Lt.p) ⟨2, (q : Int), om, of, ot, .slice pa pl pc, oL⟩ = true from HH.out)
      clear c1 c1b c4 c5
      go_upto_region 13 with (fail)
      have HO := hid (OwnR.empty w5 _ rfl)
      have HUa := hid (show Old w5 (w5.alloc (.cells #[] 48)) from (Old.refl w5).alloc _)
      generalize w5.alloc (.cells #[] 48) = wa at *
      generalize hg8 : w5.heap.size = g8 at HO ⊢
      have HG8 := hid hg8
      clear hg8
      have X0 := hid x0
      have X1 := hid x1
      have XF := hid xf1
      have Z1 := hid z1
      have Z0 := hid z0
      clear z0 z1 z2 z3 z4 z5 x0 x1 xf0 xf1 t0 t1 t2 tf0 tf1 tf2
      go_wp2
      go_loopw [8, 9] (fun us c wr => ∃ (j : Nat) (a : Option Addr) (cp : Nat) (E : List Lt), j ≤ n ∧ c = .int .i64 (j : Nat) ∧ us = .slice a E.length cp ∧ E = ers Y q j ∧ OwnR g8 wr (.slice a E.length cp) E ∧ Old w5 wr) (fun _ c _ => n - (intOf c).toNat)
      case atStart => exact ⟨0, _, _, [], Nat.zero_le _, rfl, rfl, rfl, HO.out, HUa.out⟩
      case round =>
        obtain ⟨j, a, cp, E, hj, rfl, rfl, hE, hO, hU⟩ := hrel
        have HE := hid hE
        have HO1 := hid hO
        have HU1 := hid hU
        clear hE hO hU HO HUa
        have x1 := HU1.out.keep X1.out
        have z1 := HU1.out.keep Z1.out
        have l9 : (n : Int) ≤ 1000 := by have := HLe.out; omega
        by_cases hlt : j < n
        · have hjl : j < Y.length := by rw [← HN.out]; exact hlt
          have l3 : (0 : Int) ≤ (j : Int) := by omega
          have l4 : (j : Int) < (n : Int) := by omega
          by_cases cj : j = q
          · subst cj
            have HE2 := hid (ers_eq Y j hjl)
            clear hjl
            go_wp2
            go_roundw
            case rel => exact ⟨j + 1, a, cp, E, hlt, by go_num, rfl, by rw [HE2.out]; exact HE.out, HO1.out, HU1.out⟩
            case measure => simp [intOf]; omega
          · have cj2 : ((j : Int) == (q : Int)) = false := by rw [beq_eq_false_iff_ne]; omega
            have cj3 : ¬ (j : Int) = (q : Int) := by omega
            have HE2 := hid (ers_ne Y q j hjl cj)
            obtain ⟨gy3, cy3, qy3, -, -, ⟨y0, y1, y2⟩, -⟩ := HD.out.row.at j hjl
            have eg : gy3 = gy := by have h := (Value.slice.inj qy3).1; simp at h; exact h.symm
            rw [eg] at y0 y1 y2
            clear eg
            have k0 := (HU5.out.trans HU1.out).keep y0
            have k1 := (HU5.out.trans HU1.out).keep y1
            have k2 := (HU5.out.trans HU1.out).keep y2
            unfold Lt.v at k2
            have HEl := hid (show E.length ≤ j from by rw [HE.out]; exact ers_le Y q j)
            clear y0 y1 y2 qy3 cj
            generalize Y[j] = y at *
            clear hjl
            go_wp2_with (at_builtin; refine wp_appR rfl (.tmp 67) (.tmp 73) rfl g8 _ E _ y rfl rfl (HO1.out.old ((Old.refl wr).alloc _)) (alloc_at wr _) (by have := HEl.out; have := HLe.out; omega) (by have := HU1.out.size; have := HG8.out; simp; omega) ?_; intro v6 w6 o6 ch6 at6; have O6 := hid o6; have C6 := hid ch6; clear o6 ch6 at6)
            obtain ⟨E2, hE2⟩ : ∃ E2, E ++ [y] = E2 := ⟨_, rfl⟩
            have HEE := hid hE2
            rw [hE2] at O6
            clear hE2
            obtain ⟨a6, c6, e6⟩ := O6.out.len
            subst e6
            go_roundw
            case rel => exact ⟨j + 1, a6, c6, E2, hlt, by go_num, rfl, by rw [HE2.out, ← HE.out]; exact HEE.out.symm, O6.out, C6.out.oldOf (HU1.out.alloc _) (fun k hk => by have := (HO1.out.lt k (Option.mem_toList.1 hk)).1; have := HG8.out; omega)⟩
            case measure => simp [intOf]; omega
        · obtain rfl : j = n := by omega
          have l4 : ¬ (j : Int) < (j : Int) := by omega
          have HEf := hid (show E = Y.eraseIdx q from by rw [HE.out, HN.out]; exact ers_all Y q)
          have HSr := hid (show ∀ y ∈ E, Sr w0 wr y.v y.L ∧ y.L.length ≤ 140737488355328 from fun y hy => by rw [HEf.out] at hy; have hm := List.mem_of_mem_eraseIdx hy; exact ⟨(HD.out.byt y hm).1.old (HU5.out.trans HU1.out), (HD.out.byt y hm).2⟩)
          have f1 := HU1.out.keepF X1.out XF.out
          have z0 := HU1.out.keep Z0.out
          clear hlt hj z1 HE
          go_upto_region 19 with (fail)
          have C0 := hid (show (wr.setCell ⟨b0, 1, none⟩ (.slice a E.length cp)).heap[b0]? = some (.cells #[.int .i64 (most : Nat), (.slice a E.length cp)] 46 (0, 0)) from Go.Joins.block_setCell (HU1.out.block D0.out) (.slice a E.length cp) (i := 1))
          have C1 := hid (show (wr.setCell ⟨b0, 1, none⟩ (.slice a E.length cp)).heap[b1]? = some (.cells #[.int .i64 2, .int .i64 (q : Int), .int .i64 om, .int .i64 of, .int .i64 ot, .slice pa pl pc] 53 (0, 0)) from set_other (HU1.out.block D1.out) (by have := HS.out; omega))
          have C2 := hid (show (wr.setCell ⟨b0, 1, none⟩ (.slice a E.length cp)).heap[b2]? = some (.cells #[.int .i64 0, .slice none 0 0] 46 (0, 0)) from set_other (HU1.out.block D2.out) (by have := HS.out; omega))
          have C3 := hid (show (wr.setCell ⟨b0, 1, none⟩ (.slice a E.length cp)).heap[b3]? = some (.cells #[.int .i64 0, .int .i64 0, .slice none 0 0] 48 (0, 0)) from set_other (HU1.out.block D3.out) (by have := HS.out; omega))
          have C7 := hid (show (wr.setCell ⟨b0, 1, none⟩ (.slice a E.length cp)).heap[b7]? = some (.cells #[.int .i64 lx.f, .int .i64 lx.t, .slice lx.a lx.L.length lx.c] 48 (0, 0)) from set_other (HU1.out.block HB7.out) (by have := HS.out; have := HS7.out; omega))
          have CC := hid (Chg.set (S := [b0]) wr ⟨b0, 1, none⟩ (.slice a E.length cp) (by simp))
          have CU := hid (show Old W (wr.setCell ⟨b0, 1, none⟩ (.slice a E.length cp)) from (HU5.out.trans HU1.out).setCell (p := ⟨b0, 1, none⟩) HS.out.1 _)
          have OE := hid (show OwnR g8 (wr.setCell ⟨b0, 1, none⟩ (.slice a E.length cp)) (.slice a E.length cp) E from HO1.out.chg CC.out (fun g e k => by have := (HO1.out.lt g e).1; have := HG8.out; have := HS.out; have := HS7.out; simp at k; omega))
          have SE := hid (show ∀ y ∈ E, Sr w0 (wr.setCell ⟨b0, 1, none⟩ (.slice a E.length cp)) y.v y.L ∧ y.L.length ≤ 140737488355328 from fun y hy => ⟨(HSr.out y hy).1.chgT CC.out (HU1.out.block D0.out), (HSr.out y hy).2⟩)
          have SX := hid (show Sr w0 (wr.setCell ⟨b0, 1, none⟩ (.slice a E.length cp)) lx.v lx.L from (HBq.out.1.old (HU5.out.trans HU1.out)).chgT CC.out (HU1.out.block D0.out))
          clear x1 f1 z0 HSr CC
          generalize wr.setCell ⟨b0, 1, none⟩ (.slice a E.length cp) = w7 at *
          obtain ⟨x0, x1, -, -⟩ := box2 C0.out
          obtain ⟨z0, -, -, -, -, -⟩ := box6 C1.out
          go_upto_region 21 with (fail)
          clear x0 x1 z0
          have H0 := box2 C0.out
          have H7 := box3 C7.out
          have HSS := hid (show (fun wz : World => (wz.cell? ⟨b0, 0, none⟩ = some (.int .i64 (most : Nat)) ∧ wz.cell? ⟨b0, 1, none⟩ = some (.slice a E.length cp)) ∧ wz.cell? ⟨b7, 0, none⟩ = some (.int .i64 lx.f) ∧ wz.cell? ⟨b7, 1, none⟩ = some (.int .i64 lx.t) ∧ wz.cell? ⟨b7, 2, none⟩ = some (.slice lx.a lx.L.length lx.c)) w7 from ⟨⟨H0.1, H0.2.1⟩, H7.1, H7.2.1, H7.2.2.1⟩)
          clear H0 H7
          have HFin := hid (HF.out w7.drew a cp E lx true ((Y.map Lt.p).eraseIdx q) lx.p _ _ _ _ _ (CU.out.drew) (((Old.refl w7).drew).block C2.out) (((Old.refl w7).drew).block C3.out) ⟨(OE.out.old ((Old.refl w7).drew)).mono (by have := HG8.out; have := HU5.out.size; have := HU0.out.size; omega), fun y hy => ⟨(SE.out y hy).1.old ((Old.refl w7).drew), (SE.out y hy).2⟩⟩ (fun g e => by have := (OE.out.lt g e).1; have := HG8.out; have := HS.out; have := HS7.out; exact ⟨by omega, .inr (by omega)⟩) (by rw [HEf.out, map_erase]) rfl (SX.out.old ((Old.refl w7).drew)))
          have T2 := hid (((Old.refl w7).drew).block C2.out)
          have T3 := hid (((Old.refl w7).drew).block C3.out)
          refine wp_region_noPanic ?_
          refine wp_region_held_drew (S := fun wz => (wz.cell? ⟨b0, 0, none⟩ = some (.int .i64 (most : Nat)) ∧ wz.cell? ⟨b0, 1, none⟩ = some (.slice a E.length cp)) ∧ wz.cell? ⟨b7, 0, none⟩ = some (.int .i64 lx.f) ∧ wz.cell? ⟨b7, 1, none⟩ = some (.int .i64 lx.t) ∧ wz.cell? ⟨b7, 2, none⟩ = some (.slice lx.a lx.L.length lx.c)) (by kernel_rfl) ?_ (fun hHeld => ?_)
          · exact S5.old ((Old.refl w7).drew) HSS.out
          (try simp only [Act.put]); (try simp only [List.setIfInBounds_toArray]); (try simp only [List.set_cons_succ]); (try simp only [List.set_cons_zero])
          clear hHeld
          refine wpAnyH_take (i := 0) (oi := { dst := some 81, op := Op.load 46 (Operand.tmp 2), type := 46, pos := "ref.go:55", after := #[], guard := none }) (v := ?vk1) rfl (by kernel_rfl) (by kernel_rfl) (by kernel_rfl) (fun _ _ _ h => h) (Or.inl ⟨by rfl, ?hk1⟩) (S5.old ((Old.refl w7).drew) HSS.out) ?rk1
          case hk1 => (intro wz hSw; (try dsimp only at hSw); go_simp; try with_reducible rfl)
          (try simp only [Act.put]); (try simp only [List.setIfInBounds_toArray]); (try simp only [List.set_cons_succ]); (try simp only [List.set_cons_zero])
          refine wpAnyH_take (i := 1) (oi := { dst := some 82, op := Op.load 48 (Operand.tmp 7), type := 48, pos := "ref.go:55", after := #[{ on := 2, ground := Ground.gcOnly Departure.lateStores }], guard := none }) (v := ?vk2) rfl (by kernel_rfl) (by kernel_rfl) (by kernel_rfl) (fun _ _ _ h => h) (Or.inl ⟨by rfl, ?hk2⟩) (S5.old ((Old.refl w7).drew) HSS.out) ?rk2
          case hk2 => (intro wz hSw; (try dsimp only at hSw); go_simp; try with_reducible rfl)
          (try simp only [Act.put]); (try simp only [List.setIfInBounds_toArray]); (try simp only [List.set_cons_succ]); (try simp only [List.set_cons_zero])
          refine wpAnyH_ready (rs := [2]) (by kernel_rfl) (by simp) ?_
          refine AllReadyH.cons (o := { dst := none, op := Op.store 46 (Operand.tmp 4) (Operand.tmp 81), type := 0, pos := "ref.go:55", after := #[{ on := 0, ground := Ground.data }, { on := 0, ground := Ground.phase }, { on := 1, ground := Ground.textOnly Departure.lateStores }], guard := none }) rfl (fun K hK => ?_) AllReadyH.nil
          · skip
            refine stepStoreN2 ?_ (.tmp 4) (.tmp 81) ?_ b2 (.int .i64 (most : Nat)) (.slice a E.length cp) ?_ ?_ (there2 T2.out) ⟨rfl, rfl⟩ ?_
            · rfl
            · rfl
            · rfl
            · rfl
            have Sa := S5.chg (chg2 w7.drew b2 (.int .i64 (most : Nat)) (.slice a E.length cp)) (by have := HS.out; simp; omega) (by have := HS.out; have := HS7.out; simp; omega) (S5.old ((Old.refl w7).drew) HSS.out)
            have T3b := (chg2 w7.drew b2 (.int .i64 (most : Nat)) (.slice a E.length cp)).heapAt T3.out (by have := HS.out; simp; omega)
            refine hK.out _ _ Sa (fun _ => ?_)
            clear hK K
            (try simp only [Act.put]); (try simp only [List.setIfInBounds_toArray]); (try simp only [List.set_cons_succ]); (try simp only [List.set_cons_zero])
            refine wpAnyH_ready (rs := [3]) (by kernel_rfl) (by simp) ?_
            refine AllReadyH.cons (o := { dst := none, op := Op.store 48 (Operand.tmp 5) (Operand.tmp 82), type := 0, pos := "ref.go:55", after := #[{ on := 1, ground := Ground.data }, { on := 2, ground := Ground.chain }, { on := 0, ground := Ground.phase }, { on := 1, ground := Ground.phase }, { on := 2, ground := Ground.phase }], guard := none }) rfl (fun K hK => ?_) AllReadyH.nil
            · skip
              refine stepStoreR3 ?_ (.tmp 5) (.tmp 82) ?_ b3 (.int .i64 lx.f) (.int .i64 lx.t) (.slice lx.a lx.L.length lx.c) ?_ ?_ (there3 T3b) ⟨rfl, rfl, rfl⟩ ?_
              · rfl
              · rfl
              · rfl
              · rfl
              have Sb := S5.chg (chg3 ((w7.drew.setCell ⟨b2, 0, none⟩ (.int .i64 (most : Nat))).setCell ⟨b2, 1, none⟩ (.slice a E.length cp)) b3 (.int .i64 lx.f) (.int .i64 lx.t) (.slice lx.a lx.L.length lx.c)) (by have := HS.out; simp; omega) (by have := HS.out; have := HS7.out; simp; omega) Sa
              refine hK.out _ _ Sb (fun _ => ?_)
              clear hK K
              (try simp only [Act.put]); (try simp only [List.setIfInBounds_toArray]); (try simp only [List.set_cons_succ]); (try simp only [List.set_cons_zero])
              refine wpAnyH_ready (rs := [4]) (by kernel_rfl) (by simp) ?_
              refine AllReadyH.cons (o := { dst := some 6, op := Op.assign (Operand.const (Value.bool true)), type := 4, pos := "ref.go:55", after := #[{ on := 3, ground := Ground.chain }, { on := 0, ground := Ground.phase }, { on := 1, ground := Ground.phase }, { on := 2, ground := Ground.phase }, { on := 3, ground := Ground.phase }], guard := none }) rfl (fun K hK => ?_) AllReadyH.nil
              · skip
                go_simp
                refine hK.out _ _ Sb (fun _ => ?_)
                clear hK K
                (try simp only [Act.put]); (try simp only [List.setIfInBounds_toArray]); (try simp only [List.set_cons_succ]); (try simp only [List.set_cons_zero])
                refine wpAnyH_done (by kernel_rfl) ?_ _
                refine NoPanic.normal ?_
                go_wp2
                obtain ⟨F2, F3, -⟩ := rfin (p := .int .i64 (most : Nat)) (q := (.slice a E.length cp)) (x := .int .i64 lx.f) (y := .int .i64 lx.t) (z := .slice lx.a lx.L.length lx.c) C2.out C3.out
                obtain ⟨r0, r1, -, -⟩ := box2 F2
                obtain ⟨s0, s1, s2, -, -, -⟩ := box3 F3
                unfold rF at r0 r1 s0 s1 s2
                clear F2 F3
                refine bodyPost_ret (v := .tuple #[.agg #[.int .i64 (most : Nat), (.slice a E.length cp)], .agg #[.int .i64 lx.f, .int .i64 lx.t, .slice lx.a lx.L.length lx.c], .bool true]) (by simp [results, Try.results16, go_sem, r0, r1, s0, s1, s2]) rfl ?_
                rw [EX.out, EP.out, EBv.out]
                exact HFin.out
    by_cases c3 : ok = 3
    · subst c3
      have EX := hid (show doX (Y.map Lt.p) ⟨3, (q : Int), om, of, ot, .slice pa pl pc, oL⟩ = (0, 0, []) from rfl)
      have EP := hid (show doP most (Y.map Lt.p) ⟨3, (q : Int), om, of, ot, .slice pa pl pc, oL⟩ = (Y.map Lt.p).eraseIdx q from by show dropP _ _ = _; unfold dropP; rw [if_pos HH.out, Int.toNat_natCast])
      have EBv := hid (show doB most (Y.map Lt.p) ⟨3, (q : Int), om, of, ot, .slice pa pl pc, oL⟩ = true from HH.out)
      clear c1 c1b c4 c5 c2
      go_upto_region 13 with (fail)
      have HO := hid (OwnR.empty w5 _ rfl)
      have HUa := hid (show Old w5 (w5.alloc (.cells #[] 48)) from (Old.refl w5).alloc _)
      generalize w5.alloc (.cells #[] 48) = wa at *
      generalize hg8 : w5.heap.size = g8 at HO ⊢
      have HG8 := hid hg8
      clear hg8
      have X0 := hid x0
      have X1 := hid x1
      have XF := hid xf1
      have Z1 := hid z1
      have Z0 := hid z0
      clear z0 z1 z2 z3 z4 z5 x0 x1 xf0 xf1 t0 t1 t2 tf0 tf1 tf2
      go_wp2
      go_loopw [8, 9] (fun us c wr => ∃ (j : Nat) (a : Option Addr) (cp : Nat) (E : List Lt), j ≤ n ∧ c = .int .i64 (j : Nat) ∧ us = .slice a E.length cp ∧ E = ers Y q j ∧ OwnR g8 wr (.slice a E.length cp) E ∧ Old w5 wr) (fun _ c _ => n - (intOf c).toNat)
      case atStart => exact ⟨0, _, _, [], Nat.zero_le _, rfl, rfl, rfl, HO.out, HUa.out⟩
      case round =>
        obtain ⟨j, a, cp, E, hj, rfl, rfl, hE, hO, hU⟩ := hrel
        have HE := hid hE
        have HO1 := hid hO
        have HU1 := hid hU
        clear hE hO hU HO HUa
        have x1 := HU1.out.keep X1.out
        have z1 := HU1.out.keep Z1.out
        have l9 : (n : Int) ≤ 1000 := by have := HLe.out; omega
        by_cases hlt : j < n
        · have hjl : j < Y.length := by rw [← HN.out]; exact hlt
          have l3 : (0 : Int) ≤ (j : Int) := by omega
          have l4 : (j : Int) < (n : Int) := by omega
          by_cases cj : j = q
          · subst cj
            have HE2 := hid (ers_eq Y j hjl)
            clear hjl
            go_wp2
            go_roundw
            case rel => exact ⟨j + 1, a, cp, E, hlt, by go_num, rfl, by rw [HE2.out]; exact HE.out, HO1.out, HU1.out⟩
            case measure => simp [intOf]; omega
          · have cj2 : ((j : Int) == (q : Int)) = false := by rw [beq_eq_false_iff_ne]; omega
            have cj3 : ¬ (j : Int) = (q : Int) := by omega
            have HE2 := hid (ers_ne Y q j hjl cj)
            obtain ⟨gy3, cy3, qy3, -, -, ⟨y0, y1, y2⟩, -⟩ := HD.out.row.at j hjl
            have eg : gy3 = gy := by have h := (Value.slice.inj qy3).1; simp at h; exact h.symm
            rw [eg] at y0 y1 y2
            clear eg
            have k0 := (HU5.out.trans HU1.out).keep y0
            have k1 := (HU5.out.trans HU1.out).keep y1
            have k2 := (HU5.out.trans HU1.out).keep y2
            unfold Lt.v at k2
            have HEl := hid (show E.length ≤ j from by rw [HE.out]; exact ers_le Y q j)
            clear y0 y1 y2 qy3 cj
            generalize Y[j] = y at *
            clear hjl
            go_wp2_with (at_builtin; refine wp_appR rfl (.tmp 67) (.tmp 73) rfl g8 _ E _ y rfl rfl (HO1.out.old ((Old.refl wr).alloc _)) (alloc_at wr _) (by have := HEl.out; have := HLe.out; omega) (by have := HU1.out.size; have := HG8.out; simp; omega) ?_; intro v6 w6 o6 ch6 at6; have O6 := hid o6; have C6 := hid ch6; clear o6 ch6 at6)
            obtain ⟨E2, hE2⟩ : ∃ E2, E ++ [y] = E2 := ⟨_, rfl⟩
            have HEE := hid hE2
            rw [hE2] at O6
            clear hE2
            obtain ⟨a6, c6, e6⟩ := O6.out.len
            subst e6
            go_roundw
            case rel => exact ⟨j + 1, a6, c6, E2, hlt, by go_num, rfl, by rw [HE2.out, ← HE.out]; exact HEE.out.symm, O6.out, C6.out.oldOf (HU1.out.alloc _) (fun k hk => by have := (HO1.out.lt k (Option.mem_toList.1 hk)).1; have := HG8.out; omega)⟩
            case measure => simp [intOf]; omega
        · obtain rfl : j = n := by omega
          have l4 : ¬ (j : Int) < (j : Int) := by omega
          have HEf := hid (show E = Y.eraseIdx q from by rw [HE.out, HN.out]; exact ers_all Y q)
          have HSr := hid (show ∀ y ∈ E, Sr w0 wr y.v y.L ∧ y.L.length ≤ 140737488355328 from fun y hy => by rw [HEf.out] at hy; have hm := List.mem_of_mem_eraseIdx hy; exact ⟨(HD.out.byt y hm).1.old (HU5.out.trans HU1.out), (HD.out.byt y hm).2⟩)
          have f1 := HU1.out.keepF X1.out XF.out
          have z0 := HU1.out.keep Z0.out
          clear hlt hj z1 HE
          go_upto_region 19 with (fail)
          have C0 := hid (show (wr.setCell ⟨b0, 1, none⟩ (.slice a E.length cp)).heap[b0]? = some (.cells #[.int .i64 (most : Nat), (.slice a E.length cp)] 46 (0, 0)) from Go.Joins.block_setCell (HU1.out.block D0.out) (.slice a E.length cp) (i := 1))
          have C1 := hid (show (wr.setCell ⟨b0, 1, none⟩ (.slice a E.length cp)).heap[b1]? = some (.cells #[.int .i64 3, .int .i64 (q : Int), .int .i64 om, .int .i64 of, .int .i64 ot, .slice pa pl pc] 53 (0, 0)) from set_other (HU1.out.block D1.out) (by have := HS.out; omega))
          have C2 := hid (show (wr.setCell ⟨b0, 1, none⟩ (.slice a E.length cp)).heap[b2]? = some (.cells #[.int .i64 0, .slice none 0 0] 46 (0, 0)) from set_other (HU1.out.block D2.out) (by have := HS.out; omega))
          have C3 := hid (show (wr.setCell ⟨b0, 1, none⟩ (.slice a E.length cp)).heap[b3]? = some (.cells #[.int .i64 0, .int .i64 0, .slice none 0 0] 48 (0, 0)) from set_other (HU1.out.block D3.out) (by have := HS.out; omega))
          have C7 := hid (show (wr.setCell ⟨b0, 1, none⟩ (.slice a E.length cp)).heap[b7]? = some (.cells #[.int .i64 lx.f, .int .i64 lx.t, .slice lx.a lx.L.length lx.c] 48 (0, 0)) from set_other (HU1.out.block HB7.out) (by have := HS.out; have := HS7.out; omega))
          have CC := hid (Chg.set (S := [b0]) wr ⟨b0, 1, none⟩ (.slice a E.length cp) (by simp))
          have CU := hid (show Old W (wr.setCell ⟨b0, 1, none⟩ (.slice a E.length cp)) from (HU5.out.trans HU1.out).setCell (p := ⟨b0, 1, none⟩) HS.out.1 _)
          have OE := hid (show OwnR g8 (wr.setCell ⟨b0, 1, none⟩ (.slice a E.length cp)) (.slice a E.length cp) E from HO1.out.chg CC.out (fun g e k => by have := (HO1.out.lt g e).1; have := HG8.out; have := HS.out; have := HS7.out; simp at k; omega))
          have SE := hid (show ∀ y ∈ E, Sr w0 (wr.setCell ⟨b0, 1, none⟩ (.slice a E.length cp)) y.v y.L ∧ y.L.length ≤ 140737488355328 from fun y hy => ⟨(HSr.out y hy).1.chgT CC.out (HU1.out.block D0.out), (HSr.out y hy).2⟩)
          have SX := hid (show Sr w0 (wr.setCell ⟨b0, 1, none⟩ (.slice a E.length cp)) lx.v lx.L from (HBq.out.1.old (HU5.out.trans HU1.out)).chgT CC.out (HU1.out.block D0.out))
          clear x1 f1 z0 HSr CC
          generalize wr.setCell ⟨b0, 1, none⟩ (.slice a E.length cp) = w7 at *
          obtain ⟨x0, x1, -, -⟩ := box2 C0.out
          obtain ⟨z0, -, -, -, -, -⟩ := box6 C1.out
          obtain ⟨t0, t1, t2, tf0, tf1, tf2⟩ := box3 C7.out
          go_upto_region 21 with (fail)
          have E7 := hid (show (((w7.setCell ⟨b7, 0, none⟩ (.int .i64 0)).setCell ⟨b7, 1, none⟩ (.int .i64 0)).setCell ⟨b7, 2, none⟩ (.slice none 0 0)).heap[b7]? = some (.cells #[.int .i64 0, .int .i64 0, .slice none 0 0] 48 (0, 0)) from box3_set C7.out)
          have ch7 := chg3 w7 b7 (.int .i64 0) (.int .i64 0) (.slice none 0 0)
          have E0 := hid (ch7.heapAt C0.out (by have := HS.out; have := HS7.out; simp; omega))
          have E2 := hid (ch7.heapAt C2.out (by have := HS.out; have := HS7.out; simp; omega))
          have E3 := hid (ch7.heapAt C3.out (by have := HS.out; have := HS7.out; simp; omega))
          have EU := hid (ch7.oldOf CU.out (fun k hk => by have := HS.out; have := HS7.out; simp at hk; omega))
          have OE2 := hid (OE.out.chg ch7 (fun g e k => by have := (OE.out.lt g e).1; have := HG8.out; have := HS7.out; simp at k; omega))
          have SE2 := hid (show ∀ y ∈ E, Sr w0 (((w7.setCell ⟨b7, 0, none⟩ (.int .i64 0)).setCell ⟨b7, 1, none⟩ (.int .i64 0)).setCell ⟨b7, 2, none⟩ (.slice none 0 0)) y.v y.L ∧ y.L.length ≤ 140737488355328 from fun y hy => ⟨(SE.out y hy).1.imp id (fun o => o.chg ch7 (o.offT C7.out (by decide))), (SE.out y hy).2⟩)
          clear ch7 x0 x1 z0 t0 t1 t2 tf0 tf1 tf2 C0 C1 C2 C3 C7 CU OE SE SX
          generalize ((w7.setCell ⟨b7, 0, none⟩ (.int .i64 0)).setCell ⟨b7, 1, none⟩ (.int .i64 0)).setCell ⟨b7, 2, none⟩ (.slice none 0 0) = w8 at *
          have H0 := box2 E0.out
          have H7 := box3 E7.out
          have HSS := hid (show (fun wz : World => (wz.cell? ⟨b0, 0, none⟩ = some (.int .i64 (most : Nat)) ∧ wz.cell? ⟨b0, 1, none⟩ = some (.slice a E.length cp)) ∧ wz.cell? ⟨b7, 0, none⟩ = some (.int .i64 0) ∧ wz.cell? ⟨b7, 1, none⟩ = some (.int .i64 0) ∧ wz.cell? ⟨b7, 2, none⟩ = some (.slice none 0 0)) w8 from ⟨⟨H0.1, H0.2.1⟩, H7.1, H7.2.1, H7.2.2.1⟩)
          clear H0 H7
          have HFin := hid (HF.out w8.drew a cp E zLt true ((Y.map Lt.p).eraseIdx q) (0, 0, []) _ _ _ _ _ (EU.out.drew) (((Old.refl w8).drew).block E2.out) (((Old.refl w8).drew).block E3.out) ⟨(OE2.out.old ((Old.refl w8).drew)).mono (by have := HG8.out; have := HU5.out.size; have := HU0.out.size; omega), fun y hy => ⟨(SE2.out y hy).1.old ((Old.refl w8).drew), (SE2.out y hy).2⟩⟩ (fun g e => by have := (OE2.out.lt g e).1; have := HG8.out; have := HS.out; have := HS7.out; exact ⟨by omega, .inr (by omega)⟩) (by rw [HEf.out, map_erase]) rfl (Sr.nil _ _))
          have T2 := hid (((Old.refl w8).drew).block E2.out)
          have T3 := hid (((Old.refl w8).drew).block E3.out)
          refine wp_region_noPanic ?_
          refine wp_region_held_drew (S := fun wz => (wz.cell? ⟨b0, 0, none⟩ = some (.int .i64 (most : Nat)) ∧ wz.cell? ⟨b0, 1, none⟩ = some (.slice a E.length cp)) ∧ wz.cell? ⟨b7, 0, none⟩ = some (.int .i64 0) ∧ wz.cell? ⟨b7, 1, none⟩ = some (.int .i64 0) ∧ wz.cell? ⟨b7, 2, none⟩ = some (.slice none 0 0)) (by kernel_rfl) ?_ (fun hHeld => ?_)
          · exact S5.old ((Old.refl w8).drew) HSS.out
          (try simp only [Act.put]); (try simp only [List.setIfInBounds_toArray]); (try simp only [List.set_cons_succ]); (try simp only [List.set_cons_zero])
          clear hHeld
          refine wpAnyH_take (i := 0) (oi := { dst := some 81, op := Op.load 46 (Operand.tmp 2), type := 46, pos := "ref.go:55", after := #[], guard := none }) (v := ?vk3) rfl (by kernel_rfl) (by kernel_rfl) (by kernel_rfl) (fun _ _ _ h => h) (Or.inl ⟨by rfl, ?hk3⟩) (S5.old ((Old.refl w8).drew) HSS.out) ?rk3
          case hk3 => (intro wz hSw; (try dsimp only at hSw); go_simp; try with_reducible rfl)
          (try simp only [Act.put]); (try simp only [List.setIfInBounds_toArray]); (try simp only [List.set_cons_succ]); (try simp only [List.set_cons_zero])
          refine wpAnyH_take (i := 1) (oi := { dst := some 82, op := Op.load 48 (Operand.tmp 7), type := 48, pos := "ref.go:55", after := #[{ on := 2, ground := Ground.gcOnly Departure.lateStores }], guard := none }) (v := ?vk4) rfl (by kernel_rfl) (by kernel_rfl) (by kernel_rfl) (fun _ _ _ h => h) (Or.inl ⟨by rfl, ?hk4⟩) (S5.old ((Old.refl w8).drew) HSS.out) ?rk4
          case hk4 => (intro wz hSw; (try dsimp only at hSw); go_simp; try with_reducible rfl)
          (try simp only [Act.put]); (try simp only [List.setIfInBounds_toArray]); (try simp only [List.set_cons_succ]); (try simp only [List.set_cons_zero])
          refine wpAnyH_ready (rs := [2]) (by kernel_rfl) (by simp) ?_
          refine AllReadyH.cons (o := { dst := none, op := Op.store 46 (Operand.tmp 4) (Operand.tmp 81), type := 0, pos := "ref.go:55", after := #[{ on := 0, ground := Ground.data }, { on := 0, ground := Ground.phase }, { on := 1, ground := Ground.textOnly Departure.lateStores }], guard := none }) rfl (fun K hK => ?_) AllReadyH.nil
          · skip
            refine stepStoreN2 ?_ (.tmp 4) (.tmp 81) ?_ b2 (.int .i64 (most : Nat)) (.slice a E.length cp) ?_ ?_ (there2 T2.out) ⟨rfl, rfl⟩ ?_
            · rfl
            · rfl
            · rfl
            · rfl
            have Sa := S5.chg (chg2 w8.drew b2 (.int .i64 (most : Nat)) (.slice a E.length cp)) (by have := HS.out; simp; omega) (by have := HS.out; have := HS7.out; simp; omega) (S5.old ((Old.refl w8).drew) HSS.out)
            have T3b := (chg2 w8.drew b2 (.int .i64 (most : Nat)) (.slice a E.length cp)).heapAt T3.out (by have := HS.out; simp; omega)
            refine hK.out _ _ Sa (fun _ => ?_)
            clear hK K
            (try simp only [Act.put]); (try simp only [List.setIfInBounds_toArray]); (try simp only [List.set_cons_succ]); (try simp only [List.set_cons_zero])
            refine wpAnyH_ready (rs := [3]) (by kernel_rfl) (by simp) ?_
            refine AllReadyH.cons (o := { dst := none, op := Op.store 48 (Operand.tmp 5) (Operand.tmp 82), type := 0, pos := "ref.go:55", after := #[{ on := 1, ground := Ground.data }, { on := 2, ground := Ground.chain }, { on := 0, ground := Ground.phase }, { on := 1, ground := Ground.phase }, { on := 2, ground := Ground.phase }], guard := none }) rfl (fun K hK => ?_) AllReadyH.nil
            · skip
              refine stepStoreR3 ?_ (.tmp 5) (.tmp 82) ?_ b3 (.int .i64 0) (.int .i64 0) (.slice none 0 0) ?_ ?_ (there3 T3b) ⟨rfl, rfl, rfl⟩ ?_
              · rfl
              · rfl
              · rfl
              · rfl
              have Sb := S5.chg (chg3 ((w8.drew.setCell ⟨b2, 0, none⟩ (.int .i64 (most : Nat))).setCell ⟨b2, 1, none⟩ (.slice a E.length cp)) b3 (.int .i64 0) (.int .i64 0) (.slice none 0 0)) (by have := HS.out; simp; omega) (by have := HS.out; have := HS7.out; simp; omega) Sa
              refine hK.out _ _ Sb (fun _ => ?_)
              clear hK K
              (try simp only [Act.put]); (try simp only [List.setIfInBounds_toArray]); (try simp only [List.set_cons_succ]); (try simp only [List.set_cons_zero])
              refine wpAnyH_ready (rs := [4]) (by kernel_rfl) (by simp) ?_
              refine AllReadyH.cons (o := { dst := some 6, op := Op.assign (Operand.const (Value.bool true)), type := 4, pos := "ref.go:55", after := #[{ on := 3, ground := Ground.chain }, { on := 0, ground := Ground.phase }, { on := 1, ground := Ground.phase }, { on := 2, ground := Ground.phase }, { on := 3, ground := Ground.phase }], guard := none }) rfl (fun K hK => ?_) AllReadyH.nil
              · skip
                go_simp
                refine hK.out _ _ Sb (fun _ => ?_)
                clear hK K
                (try simp only [Act.put]); (try simp only [List.setIfInBounds_toArray]); (try simp only [List.set_cons_succ]); (try simp only [List.set_cons_zero])
                refine wpAnyH_done (by kernel_rfl) ?_ _
                refine NoPanic.normal ?_
                go_wp2
                obtain ⟨F2, F3, -⟩ := rfin (p := .int .i64 (most : Nat)) (q := (.slice a E.length cp)) (x := .int .i64 0) (y := .int .i64 0) (z := .slice none 0 0) E2.out E3.out
                obtain ⟨r0, r1, -, -⟩ := box2 F2
                obtain ⟨s0, s1, s2, -, -, -⟩ := box3 F3
                unfold rF at r0 r1 s0 s1 s2
                clear F2 F3
                refine bodyPost_ret (v := .tuple #[.agg #[.int .i64 (most : Nat), (.slice a E.length cp)], .agg #[.int .i64 0, .int .i64 0, .slice none 0 0], .bool true]) (by simp [results, Try.results16, go_sem, r0, r1, s0, s1, s2]) rfl ?_
                rw [EX.out, EP.out, EBv.out]
                exact HFin.out
    obtain rfl : ok = 6 := by have := HK.out; omega
    clear c1 c1b c2 c3 c4 c5
    have EX := hid (show doX (Y.map Lt.p) ⟨6, (q : Int), om, of, ot, .slice pa pl pc, oL⟩ = (0, 0, []) from rfl)
    have EP := hid (show doP most (Y.map Lt.p) ⟨6, (q : Int), om, of, ot, .slice pa pl pc, oL⟩ = shtP (Y.map Lt.p) (q : Int) from rfl)
    have EB := hid (show doB most (Y.map Lt.p) ⟨6, (q : Int), om, of, ot, .slice pa pl pc, oL⟩ = shtB (Y.map Lt.p) (q : Int) from rfl)
    by_cases hL0 : lx.L = []
    · have e0 : lx.L.length = 0 := by rw [hL0]; rfl
      have EBd := hid (show shtB (Y.map Lt.p) (q : Int) = false from by unfold shtB; rw [HGt.out]; simp [Lt.p, hL0])
      have EBv := hid (show doB most (Y.map Lt.p) ⟨6, (q : Int), om, of, ot, .slice pa pl pc, oL⟩ = false from by rw [EB.out, EBd.out])
      have ES := hid (show (Y.map Lt.p) = shtP (Y.map Lt.p) (q : Int) from by unfold shtP; rw [EBd.out, if_neg (by simp)])
      rw [e0] at t2
      clear hL0 e0
      obtain ⟨x0, x1, -, -⟩ := box2 D0.out
      obtain ⟨p0, p1, pf0, pf1⟩ := box2 D2.out
      obtain ⟨q0, q1, q2, qf0, qf1, qf2⟩ := box3 D3.out
      have HFin := hid (HF.out w5 (some ⟨gy, 0, none⟩) yc Y zLt false (shtP (Y.map Lt.p) (q : Int)) (0, 0, []) _ _ _ _ _ HU5.out D2.out D3.out (by rw [← HN.out]; exact HD.out.old HU5.out) (by rw [← HN.out]; exact HYB.out) ES.out rfl (Sr.nil _ _))
      rw [← HN.out] at HFin
      go_wp2
      obtain ⟨F2, F3, -⟩ := rfin (p := .int .i64 (most : Nat)) (q := .slice (some ⟨gy, 0, none⟩) n yc) (x := .int .i64 0) (y := .int .i64 0) (z := .slice none 0 0) D2.out D3.out
      obtain ⟨r0, r1, -, -⟩ := box2 F2
      obtain ⟨s0, s1, s2, -, -, -⟩ := box3 F3
      unfold rF at r0 r1 s0 s1 s2
      clear F2 F3
      refine bodyPost_ret (v := .tuple #[.agg #[.int .i64 (most : Nat), .slice (some ⟨gy, 0, none⟩) n yc], .agg #[.int .i64 0, .int .i64 0, .slice none 0 0], .bool false]) (by simp [results, Try.results16, go_sem, r0, r1, s0, s1, s2]) rfl ?_
      rw [EX.out, EP.out, EBv.out]
      exact HFin.out
    · have EBd := hid (show shtB (Y.map Lt.p) (q : Int) = true from by unfold shtB; rw [HGt.out, HH.out]; simp [Lt.p, hL0])
      have EBv := hid (show doB most (Y.map Lt.p) ⟨6, (q : Int), om, of, ot, .slice pa pl pc, oL⟩ = true from by rw [EB.out, EBd.out])
      obtain ⟨m, hm⟩ : ∃ m, lx.L.length = m + 1 := ⟨lx.L.length - 1, by have := List.length_pos_iff.2 hL0; omega⟩
      have hRl := HBq.out.1.row (HU0.out)
      have hcap : m + 1 ≤ lx.c ∧ lx.c ≤ 9223372036854775807 := by
        obtain ⟨b, off, cap, e, -, h1, h2⟩ := hRl.cells (by omega)
        have := (Value.slice.inj e).2.2
        unfold maxLen at h2
        omega
      obtain ⟨tL, htL⟩ : ∃ tL, tL = lx.L.take m := ⟨_, rfl⟩
      have htl : tL.length = m := by rw [htL, List.length_take]; omega
      have HTL := hid htl
      have HTLb := hid (show tL.length ≤ 140737488355328 from by rw [htl]; have := HBq.out.2; omega)
      have HJ := hid (show ∀ W', Old W W' → Calls Try.prog 27 #[.slice none 0 0, .slice lx.a m lx.c] W' fun e w' => ∃ a c, e = .returned (.slice a m c) ∧ Own w' (.slice a m c) tL ∧ Old W' w' from fun W' u => by
        have := join_any (.slice lx.a m lx.c) tL W' (by rw [htL]; exact (hRl.old u).take m (by omega)) (by rw [htl]; have := HBq.out.2; omega)
        rw [htl] at this
        exact this)
      have ES := hid (show (Y.map Lt.p).set q (lx.f, lx.t, tL) = shtP (Y.map Lt.p) (q : Int) from by unfold shtP; rw [if_pos EBd.out, HGt.out, Int.toNat_natCast, htL]; unfold shtX Lt.p; dsimp only; rw [List.dropLast_eq_take, hm, Nat.add_sub_cancel])
      have g1 : IntKind.i64.wrap (((m + 1 : Nat) : Int) - 1) = (m : Int) := by rw [IntKind.wrap_i64]; omega
      have g2 : (((m + 1 : Nat) : Int) == 0) = false := by rw [beq_eq_false_iff_ne]; omega
      have g3 : (m : Int) ≤ (lx.c : Int) := by omega
      have g4 : (lx.c : Int) ≤ 9223372036854775807 := by omega
      have g5 : (0 : Int) ≤ (m : Int) := by omega
      rw [hm] at t2
      obtain ⟨l, hl⟩ : ∃ l, l = m + 1 := ⟨_, rfl⟩
      rw [← hl] at t2 g1 g2
      have HLL := hid (show lx.L.length = l from by rw [hm, hl])
      clear hl hm hcap hRl htL htl hL0
      have T2 := hid t2
      have TF := hid tf2
      go_upto_region 36 with (go_at_call 27; refine (HJ.out _ HU5.out).mono ?_; rintro e w6 ⟨aj, cj, rfl, oj, uj⟩; have OJ := hid oj; have UJ := hid uj; have k1 := uj.keep t2; have k2 := uj.keepF t2 tf2; clear oj uj)
      have HB7j := hid (show (w6.setCell ⟨b7, 2, none⟩ (.slice aj m cj)).heap[b7]? = some (.cells #[.int .i64 lx.f, .int .i64 lx.t, .slice aj m cj] 48 (0, 0)) from Go.Joins.block_setCell (UJ.out.block HB7.out) (.slice aj m cj) (i := 2))
      have CJ := hid (Chg.set (S := [b7]) w6 ⟨b7, 2, none⟩ (.slice aj m cj) (by simp))
      have UJ7 := hid (show Old w4 (w6.setCell ⟨b7, 2, none⟩ (.slice aj m cj)) from (HV5.out.trans UJ.out).setCell (p := ⟨b7, 2, none⟩) HS7.out.2.2 _)
      have OJ7 := hid (OJ.out.chg CJ.out (OJ.out.offT (UJ.out.block HB7.out) (by decide)))
      have HSz7 := hid (show w4.heap.size ≤ (w6.setCell ⟨b7, 2, none⟩ (.slice aj m cj)).heap.size from UJ7.out.size)
      clear k1 k2 t0 t1 t2 tf0 tf1 tf2 z0 z1 z2 z3 z4 z5 x0 x1 xf0 xf1 T2 TF
      generalize w6.setCell ⟨b7, 2, none⟩ (.slice aj m cj) = w7 at *
      obtain ⟨t0, t1, t2, tf0, tf1, tf2⟩ := box3 HB7j.out
      obtain ⟨x0, x1, xf0, xf1⟩ := box2 (UJ7.out.block HB0.out)
      obtain ⟨z0, z1, z2, z3, z4, z5⟩ := box6 (UJ7.out.block HB1.out)
      obtain ⟨Z, hZ⟩ : ∃ Z, lstL Y (q : Int) ⟨lx.f, lx.t, aj, cj, tL⟩ ++ [] = Z := ⟨_, rfl⟩
      have HCl := hid (HLs.out w7 (some ⟨gy, 0, none⟩) n yc Y (q : Int) ⟨lx.f, lx.t, aj, cj, tL⟩ (.slice none 0 0) [] Z _ 0 hZ (HD.out.row.old (HU.out.trans UJ7.out)) HN.out (OwnR.nil 0 w7) HYl.out (by simp))
      dsimp only at HCl
      rw [HTL.out] at HCl
      have HZ := hid (show Z = Y.set q ⟨lx.f, lx.t, aj, cj, tL⟩ from by rw [← hZ, lst_in Y q _ HQY.out, List.append_nil])
      clear hZ
      go_upto_region 37 with (go_at_call 26; refine HCl.out.mono ?_; rintro e w8 ⟨a5, c5, rfl, o5, u5⟩; have O5 := hid o5; have U5 := hid (UJ7.out.trans u5); have U8 := hid u5; have k1 := u5.keep x1; have k2 := u5.keepF x1 xf1; clear o5 u5)
      have C0 := hid (show (w8.setCell ⟨b0, 1, none⟩ (.slice a5 Z.length c5)).heap[b0]? = some (.cells #[.int .i64 (most : Nat), (.slice a5 Z.length c5)] 46 (0, 0)) from Go.Joins.block_setCell (U5.out.block HB0.out) (.slice a5 Z.length c5) (i := 1))
      have C2 := hid (show (w8.setCell ⟨b0, 1, none⟩ (.slice a5 Z.length c5)).heap[b2]? = some (.cells #[.int .i64 0, .slice none 0 0] 46 (0, 0)) from set_other (U5.out.block HB2.out) (by have := HS.out; omega))
      have C3 := hid (show (w8.setCell ⟨b0, 1, none⟩ (.slice a5 Z.length c5)).heap[b3]? = some (.cells #[.int .i64 0, .int .i64 0, .slice none 0 0] 48 (0, 0)) from set_other (U5.out.block HB3.out) (by have := HS.out; omega))
      have CC := hid (Chg.set (S := [b0]) w8 ⟨b0, 1, none⟩ (.slice a5 Z.length c5) (by simp))
      have CU := hid (show Old W (w8.setCell ⟨b0, 1, none⟩ (.slice a5 Z.length c5)) from (HU.out.trans U5.out).setCell (p := ⟨b0, 1, none⟩) HS.out.1 _)
      have HB5 := hid (show w4.heap.size ≤ w7.heap.size from HSz7.out)
      have HSrB := hid (show ∀ y ∈ Z, Sr w0 (w8.setCell ⟨b0, 1, none⟩ (.slice a5 Z.length c5)) y.v y.L ∧ y.L.length ≤ 140737488355328 from fun y hy => by
        rw [HZ.out] at hy
        rcases List.mem_or_eq_of_mem_set hy with z | z
        · exact ⟨((HD.out.byt y z).1.old (HU.out.trans U5.out)).chgT CC.out (U5.out.block HB0.out), (HD.out.byt y z).2⟩
        · rw [z]
          exact ⟨(show Sr w0 w8 _ tL from .inr (by unfold Lt.v; dsimp only; rw [HTL.out]; exact OJ7.out.old U8.out)).chgT CC.out (U5.out.block HB0.out), HTLb.out⟩)
      generalize w8.setCell ⟨b0, 1, none⟩ (.slice a5 Z.length c5) = w9 at *
      clear k1 k2 x0 x1 xf0 xf1 t0 t1 t2 tf0 tf1 tf2 z0 z1 z2 z3 z4 z5
      have HSr := hid (show ∀ y ∈ Z, Sr w0 w9 y.v y.L ∧ y.L.length ≤ 140737488355328 from HSrB.out)
      have HDZ := hid (show DocAt w0 w9 (.slice a5 Z.length c5) Z from ⟨(O5.out.chg CC.out (fun g e k => by have := (O5.out.lt g e).1; have := HB5.out; have := HS.out; simp at k; omega)).mono (by have := HB5.out; have := HS.out; have := HU0.out.size; omega), HSr.out⟩)
      obtain ⟨x0, x1, -, -⟩ := box2 C0.out
      obtain ⟨p0, p1, pf0, pf1⟩ := box2 C2.out
      obtain ⟨q0, q1, q2, qf0, qf1, qf2⟩ := box3 C3.out
      have HFin := hid (HF.out w9 a5 c5 Z zLt true (shtP (Y.map Lt.p) (q : Int)) (0, 0, []) _ _ _ _ _ CU.out C2.out C3.out HDZ.out (fun g e => by have := (O5.out.lt g e).1; have := HB5.out; have := HS.out; exact ⟨by omega, .inr (by omega)⟩) (by rw [HZ.out, List.map_set, ← ES.out]; rfl) rfl (Sr.nil _ _))
      go_wp2
      obtain ⟨F2, F3, -⟩ := rfin (p := .int .i64 (most : Nat)) (q := .slice a5 Z.length c5) (x := .int .i64 0) (y := .int .i64 0) (z := .slice none 0 0) C2.out C3.out
      obtain ⟨r0, r1, -, -⟩ := box2 F2
      obtain ⟨s0, s1, s2, -, -, -⟩ := box3 F3
      unfold rF at r0 r1 s0 s1 s2
      clear F2 F3
      refine bodyPost_ret (v := .tuple #[.agg #[.int .i64 (most : Nat), .slice a5 Z.length c5], .agg #[.int .i64 0, .int .i64 0, .slice none 0 0], .bool true]) (by simp [results, Try.results16, go_sem, r0, r1, s0, s1, s2]) rfl ?_
      rw [EX.out, EP.out, EBv.out]
      exact HFin.out
  · have EO := hid (do_out most (Y.map Lt.p) ⟨ok, oi, om, of, ot, .slice pa pl pc, oL⟩ (by dsimp only; have := HK.out; omega) (by unfold hasP; rw [HPl.out]; simpa using hrng))
    have EX := hid EO.out.2.2
    have EP := hid EO.out.2.1
    have EBv := hid EO.out.1
    clear EO
    by_cases cn : oi < 0
    · clear hrng
      obtain ⟨x0, x1, -, -⟩ := box2 HB0.out
      obtain ⟨p0, p1, pf0, pf1⟩ := box2 HB2.out
      obtain ⟨q0, q1, q2, qf0, qf1, qf2⟩ := box3 HB3.out
      have HFin := hid (HF.out w4 ya yc Y zLt false (Y.map Lt.p) (0, 0, []) _ _ _ _ _ HU.out HB2.out HB3.out (by rw [← HN.out]; exact HD.out.old HU.out) (by rw [← HN.out]; exact HYB.out) rfl rfl (Sr.nil _ _))
      rw [← HN.out] at HFin
      go_wp2
      obtain ⟨F2, F3, -⟩ := rfin (p := .int .i64 (most : Nat)) (q := .slice ya n yc) (x := .int .i64 0) (y := .int .i64 0) (z := .slice none 0 0) HB2.out HB3.out
      obtain ⟨r0, r1, -, -⟩ := box2 F2
      obtain ⟨s0, s1, s2, -, -, -⟩ := box3 F3
      unfold rF at r0 r1 s0 s1 s2
      clear F2 F3
      refine bodyPost_ret (v := .tuple #[.agg #[.int .i64 (most : Nat), .slice ya n yc], .agg #[.int .i64 0, .int .i64 0, .slice none 0 0], .bool false]) (by simp [results, Try.results16, go_sem, r0, r1, s0, s1, s2]) rfl ?_
      rw [EX.out, EP.out, EBv.out]
      exact HFin.out
    · have cn2 : (n : Int) ≤ oi := by omega
      clear hrng
      obtain ⟨x0, x1, -, -⟩ := box2 HB0.out
      obtain ⟨p0, p1, pf0, pf1⟩ := box2 HB2.out
      obtain ⟨q0, q1, q2, qf0, qf1, qf2⟩ := box3 HB3.out
      have HFin := hid (HF.out w4 ya yc Y zLt false (Y.map Lt.p) (0, 0, []) _ _ _ _ _ HU.out HB2.out HB3.out (by rw [← HN.out]; exact HD.out.old HU.out) (by rw [← HN.out]; exact HYB.out) rfl rfl (Sr.nil _ _))
      rw [← HN.out] at HFin
      go_wp2
      obtain ⟨F2, F3, -⟩ := rfin (p := .int .i64 (most : Nat)) (q := .slice ya n yc) (x := .int .i64 0) (y := .int .i64 0) (z := .slice none 0 0) HB2.out HB3.out
      obtain ⟨r0, r1, -, -⟩ := box2 F2
      obtain ⟨s0, s1, s2, -, -, -⟩ := box3 F3
      unfold rF at r0 r1 s0 s1 s2
      clear F2 F3
      refine bodyPost_ret (v := .tuple #[.agg #[.int .i64 (most : Nat), .slice ya n yc], .agg #[.int .i64 0, .int .i64 0, .slice none 0 0], .bool false]) (by simp [results, Try.results16, go_sem, r0, r1, s0, s1, s2]) rfl ?_
      rw [EX.out, EP.out, EBv.out]
      exact HFin.out
end Go.Proofs.Ytejeihbcakojeaa
