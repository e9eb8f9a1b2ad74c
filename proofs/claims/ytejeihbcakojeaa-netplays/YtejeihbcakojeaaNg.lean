/- A call of law 19 at every net; conditions: the rows lie in memory. -/
import Derived.Test.YtejeihbcakojeaaNf
namespace Go.Proofs.Ytejeihbcakojeaa
open Go.RowKit Go.Lib
set_option linter.unusedVariables false
set_option linter.unusedSimpArgs false
set_option maxRecDepth 20000
def shtB (P : List PL) (i : Int) : Bool := hasP P i && decide ((P.getD i.toNat (0, 0, [])).2.2 ≠ [])
def shtX (x : PL) : PL := (x.1, x.2.1, x.2.2.dropLast)
def shtP (P : List PL) (i : Int) : List PL := if shtB P i = true then P.set i.toNat (shtX (P.getD i.toNat (0, 0, []))) else P
theorem shortN (w0 W : World) (nb most : Nat) (P : List PL) (A : List Nat) (i : Int) (h : Net w0 W nb most P A) : Calls Try.prog 24 #[.pointer (some ⟨nb, 0, none⟩), .int .i64 i] W fun e w' => e = .returned (.bool (shtB P i)) ∧ Net w0 w' nb most (shtP P i) A ∧ Kt A W w' := by
  obtain ⟨d, rfl, rfl, rfl, h4, h5, h6, h7⟩ := h
  rcases has_split d.X i with ⟨k, rfl, hk, e⟩ | ⟨hi, e⟩
  · have ex : (d.X.map Lt.p).getD (k : Int).toNat (0, 0, []) = d.X[k].p := by
      rw [Int.toNat_natCast, List.getD_eq_getElem?_getD, List.getElem?_map, List.getElem?_eq_getElem hk]
      rfl
    by_cases c : d.X[k].L = []
    · have eb : shtB (d.X.map Lt.p) (k : Int) = false := by unfold shtB; rw [e, ex]; simp [Lt.p, c]
      refine (short_no2 d k W h4 hk c).mono fun e1 w' q => ⟨by rw [q.1, eb], ?_⟩
      unfold shtP
      rw [eb, if_neg (by simp), q.2]
      exact Net.res h4 h5 h6 h7 (NRes.same h4 (Old.refl W))
    · have eb : shtB (d.X.map Lt.p) (k : Int) = true := by unfold shtB; rw [e, ex]; simp [Lt.p, c]
      obtain ⟨m, hm⟩ : ∃ m, d.X[k].L.length = m + 1 := ⟨d.X[k].L.length - 1, by have := List.length_pos_iff.2 c; omega⟩
      refine (short_ok d k m W h4 hk hm).mono fun e1 w' q => ⟨by rw [q.1, eb], ?_⟩
      have := Net.res h4 h5 h6 h7 q.2
      rw [List.map_set] at this
      unfold shtP
      rw [if_pos eb, ex, Int.toNat_natCast]
      have e2 : shtX d.X[k].p = Lt.p ⟨d.X[k].f, d.X[k].t, d.X[k].a, d.X[k].c, d.X[k].L.take m⟩ := by
        unfold shtX Lt.p
        dsimp only
        rw [List.dropLast_eq_take, hm, Nat.add_sub_cancel]
      rw [e2]
      exact this
  · have eb : shtB (d.X.map Lt.p) i = false := by unfold shtB; rw [e]; rfl
    refine (short_no1 d i W h4 hi).mono fun e1 w' q => ⟨by rw [q.1, eb], ?_⟩
    unfold shtP
    rw [eb, if_neg (by simp), q.2]
    exact Net.res h4 h5 h6 h7 (NRes.same h4 (Old.refl W))
def doB (most : Nat) (P : List PL) (o : Opn) : Bool := if o.k = 1 then decide (P.length < most) else if o.k = 2 then hasP P o.i else if o.k = 3 then hasP P o.i else if o.k = 4 then dblB most P o.i else if o.k = 5 then swpB P o.i o.m else shtB P o.i
def doX (P : List PL) (o : Opn) : PL := if o.k = 2 then takeX P o.i else (0, 0, [])
def doP (most : Nat) (P : List PL) (o : Opn) : List PL := if o.k = 1 then sendP most P (o.f, o.t, o.L) else if o.k = 2 then dropP P o.i else if o.k = 3 then dropP P o.i else if o.k = 4 then dblP most P o.i else if o.k = 5 then swpP P o.i o.m else shtP P o.i
theorem Kt.less {A B : List Nat} {W W' : World} (h : Kt A W W') (hB : ∀ g ∈ B, g ∈ A) : Kt B W W' := ⟨h.size, fun g hg => h.is g (hB g hg), h.ty⟩
/-- A box of the call's own is written. -/
theorem Net.box {w0 W : World} {nb most : Nat} {P : List PL} {A : List Nat} {b : Nat} {cs : Array Value} (h : Net w0 W nb most P (A ++ [b])) (hb : W.heap[b]? = some (.cells cs 30 (0, 0))) (h1 : w0.heap.size ≤ b) (h2 : b ∉ A) (p q r : Value) : Net w0 (((W.setCell ⟨b, 0, none⟩ p).setCell ⟨b, 1, none⟩ q).setCell ⟨b, 2, none⟩ r) nb most P A ∧ Kt A W (((W.setCell ⟨b, 0, none⟩ p).setCell ⟨b, 1, none⟩ q).setCell ⟨b, 2, none⟩ r) := by
  obtain ⟨d, e1, e2, e3, h4, h5, h6, h7⟩ := h
  have hn : b ∉ d.bs := (h7 b (by simp)).1
  have ch := chg3 W b p q r
  refine ⟨⟨d, e1, e2, e3, h4.chg ch (fun e => hn (by simp at e; exact Nt.mem.2 (.inl e.symm))) (fun g e k => hn (by simp at k; subst k; exact Nt.mem.2 (.inr e))) (fun y hy => (h4.byt y hy).1.offT hb (by decide)), h5, ch.oldOf h6 (fun k hk => by simp at hk; rw [hk]; exact h1), fun g hg => ⟨(h7 g (List.mem_append_left _ hg)).1, by have := (h7 g (List.mem_append_left _ hg)).2; have := ch.size; omega⟩⟩, ch.size, fun g hg hl => ch.block g hl (fun e => h2 (by simp at e; rw [← e]; exact hg)), fun k cur T fr e t1 t2 => ch.heapAt e (fun z => by simp at z; subst z; rw [hb] at e; cases e; exact t1 rfl)⟩
theorem box6 {w : World} {b : Nat} {x0 x1 x2 x3 x4 x5 : Value} {T : TypeId} (h : w.heap[b]? = some (.cells #[x0, x1, x2, x3, x4, x5] T (0, 0))) : w.cell? ⟨b, 0, none⟩ = some x0 ∧ w.cell? ⟨b, 1, none⟩ = some x1 ∧ w.cell? ⟨b, 2, none⟩ = some x2 ∧ w.cell? ⟨b, 3, none⟩ = some x3 ∧ w.cell? ⟨b, 4, none⟩ = some x4 ∧ w.cell? ⟨b, 5, none⟩ = some x5 :=
  ⟨by rw [Go.Joins.cell_of_block h]; rfl, by rw [Go.Joins.cell_of_block h]; rfl, by rw [Go.Joins.cell_of_block h]; rfl, by rw [Go.Joins.cell_of_block h]; rfl, by rw [Go.Joins.cell_of_block h]; rfl, by rw [Go.Joins.cell_of_block h]; rfl⟩
def DoPost (w0 W : World) (nb most : Nat) (P : List PL) (A : List Nat) (b : Bool) (x : PL) (P' : List PL) (e : Ending) (w' : World) : Prop := ∃ a c, e = .returned (.tuple #[.agg #[.int .i64 x.1, .int .i64 x.2.1, .slice a x.2.2.length c], .bool b]) ∧ Own w' (.slice a x.2.2.length c) x.2.2 ∧ Net w0 w' nb most P' A ∧ Kt A W w'
set_option maxHeartbeats 4000000 in
set_option maxRecDepth 20000 in
theorem does_any (w0 W : World) (nb most : Nat) (P : List PL) (A : List Nat) (o : Opn) (h : Net w0 W nb most P A) (ho : o.Ok w0) : Calls Try.prog 13 #[.pointer (some ⟨nb, 0, none⟩), .agg #[.int .i64 o.k, .int .i64 o.i, .int .i64 o.m, .int .i64 o.f, .int .i64 o.t, o.v]] W (DoPost w0 W nb most P A (doB most P o) (doX P o) (doP most P o)) := by
  obtain ⟨ok, oi, om, of, ot, ov, oL⟩ := o
  obtain ⟨hr, hL⟩ := ho
  obtain ⟨pa, pc, e⟩ := hr.len
  dsimp only at e hr hL ⊢
  subst e
  have HR := hid hr
  have HL := hid hL
  have HW0 := hid h.base
  have HA0 := hid (show ∀ g ∈ A, g < W.heap.size from by obtain ⟨d, _, _, _, _, _, _, h7⟩ := h; exact fun g hg => (h7 g hg).2)
  obtain ⟨W1, hW1⟩ : ∃ W1, W1 = (W.alloc (.cells #[.int .i64 ok, .int .i64 oi, .int .i64 om, .int .i64 of, .int .i64 ot, .slice pa oL.length pc] 40)).alloc (.cells #[.int .i64 0, .int .i64 0, .slice none 0 0] 30) := ⟨_, rfl⟩
  have HU := hid (show Old W W1 from by rw [hW1]; exact ((Old.refl W).alloc _).alloc _)
  have HB0 := hid (show W1.heap[W.heap.size]? = some (.cells #[.int .i64 ok, .int .i64 oi, .int .i64 om, .int .i64 of, .int .i64 ot, .slice pa oL.length pc] 40 (0, 0)) from by rw [hW1]; exact alloc_keep (alloc_at W _))
  have HB1 := hid (show W1.heap[W.heap.size + 1]? = some (.cells #[.int .i64 0, .int .i64 0, .slice none 0 0] 30 (0, 0)) from by rw [hW1]; have := alloc_at (W.alloc (.cells #[.int .i64 ok, .int .i64 oi, .int .i64 om, .int .i64 of, .int .i64 ot, .slice pa oL.length pc] 40)) (.cells #[.int .i64 0, .int .i64 0, .slice none 0 0] 30); simpa using this)
  have HN := hid (h.add HU.out [W.heap.size + 1] (fun g hg => by simp at hg; subst hg; exact ⟨by omega, heap_lt HB1.out⟩))
  have HQ := hid (show w0.heap.size ≤ W.heap.size + 1 ∧ W.heap.size + 1 ∉ A from ⟨by have := h.base.size; omega, fun e => by have := HA0.out _ e; omega⟩)
  have HRw := hid (hr.old (h.base.trans HU.out))
  clear h hr hL HA0
  have fin : ∀ (W2 : World) (P2 : List PL) (b : Bool) (x : PL) (a : Option Addr) (c : Nat), Net w0 W2 nb most P2 (A ++ [W.heap.size + 1]) → Kt (A ++ [W.heap.size + 1]) W1 W2 → Own W2 (.slice a x.2.2.length c) x.2.2 → W2.heap[W.heap.size + 1]? = some (.cells #[.int .i64 0, .int .i64 0, .slice none 0 0] 30 (0, 0)) ∧ Own (((W2.setCell ⟨W.heap.size + 1, 0, none⟩ (.int .i64 x.1)).setCell ⟨W.heap.size + 1, 1, none⟩ (.int .i64 x.2.1)).setCell ⟨W.heap.size + 1, 2, none⟩ (.slice a x.2.2.length c)) (.slice a x.2.2.length c) x.2.2 ∧ Net w0 (((W2.setCell ⟨W.heap.size + 1, 0, none⟩ (.int .i64 x.1)).setCell ⟨W.heap.size + 1, 1, none⟩ (.int .i64 x.2.1)).setCell ⟨W.heap.size + 1, 2, none⟩ (.slice a x.2.2.length c)) nb most P2 A ∧ Kt A W (((W2.setCell ⟨W.heap.size + 1, 0, none⟩ (.int .i64 x.1)).setCell ⟨W.heap.size + 1, 1, none⟩ (.int .i64 x.2.1)).setCell ⟨W.heap.size + 1, 2, none⟩ (.slice a x.2.2.length c)) := fun W2 P2 b x a c n k o => by
    have hb : W2.heap[W.heap.size + 1]? = some (.cells #[.int .i64 0, .int .i64 0, .slice none 0 0] 30 (0, 0)) := (k.is _ (by simp) (heap_lt HB1.out)).trans HB1.out
    obtain ⟨n2, k2⟩ := n.box hb HQ.out.1 HQ.out.2 (.int .i64 x.1) (.int .i64 x.2.1) (.slice a x.2.2.length c)
    exact ⟨hb, o.chg (chg3 W2 _ _ _ _) (o.offT hb (by decide)), n2, ((Kt.old HU.out).trans (k.less (fun g hg => List.mem_append_left _ hg))).trans k2⟩
  have HFin := hid fin
  clear fin HQ HB1
  obtain ⟨bx, hbx⟩ : ∃ bx, bx = W.heap.size := ⟨_, rfl⟩
  obtain ⟨by_, hby⟩ : ∃ by_, by_ = W.heap.size + 1 := ⟨_, rfl⟩
  rw [← hbx] at HB0
  rw [← hby] at HFin HN
  have HX1 := hid hW1
  clear hW1
  obtain ⟨z0, z1, z2, z3, z4, z5⟩ := box6 HB0.out
  clear HB0
  by_cases c1 : ok = 1
  · subst c1
    have EX := hid (show doX P ⟨1, oi, om, of, ot, .slice pa oL.length pc, oL⟩ = (0, 0, []) from rfl)
    have EP := hid (show doP most P ⟨1, oi, om, of, ot, .slice pa oL.length pc, oL⟩ = sendP most P (of, ot, oL) from rfl)
    have EB := hid (show doB most P ⟨1, oi, om, of, ot, .slice pa oL.length pc, oL⟩ = decide (P.length < most) from rfl)
    rw [EX.out, EP.out, EB.out]
    by_cases hc : P.length < most
    · have ES := hid (show sendC most P = 0 from by unfold sendC; rw [if_pos hc])
      rw [decide_eq_true hc]
      go_enter Try.func13, Try.ntmps13
      go_upto_region 1 with (fail)
      rw [← HX1.out, ← hby, ← hbx]
      clear hbx hby HX1
      skip
      go_wp2_with (go_at_call 8; refine (sendN w0 _ nb most P _ of ot _ oL HN.out HRw.out HL.out).mono ?_; rintro e w2 ⟨rfl, d2, k2⟩; rw [ES.out]; obtain ⟨kb, ko, kn, kk⟩ := HFin.out _ (sendP most P (of, ot, oL)) true (0, 0, []) none 0 d2 k2 (Own.nil _); obtain ⟨s0, s1, s2, g0, g1, g2⟩ := box3 kb; have KB := hid kb; have KO := hid ko; have KN := hid kn; have KK := hid kk; clear kb ko kn kk d2 k2)
      obtain ⟨r0, r1, r2, -, -, -⟩ := box3 (box3_set (p := .int .i64 0) (q := .int .i64 0) (r := .slice none 0 0) KB.out)
      refine bodyPost_ret (v := .tuple #[.agg #[.int .i64 0, .int .i64 0, .slice none 0 0], .bool true]) (by simp [results, Try.results13, go_sem, r0, r1, r2]) rfl ?_
      refine ⟨none, 0, ?_, KO.out, ?_, KK.out⟩
      · rfl
      · exact KN.out
    · have ES := hid (show sendC most P = 3 from by unfold sendC; rw [if_neg hc])
      rw [decide_eq_false hc]
      go_enter Try.func13, Try.ntmps13
      go_upto_region 1 with (fail)
      rw [← HX1.out, ← hby, ← hbx]
      clear hbx hby HX1
      skip
      go_wp2_with (go_at_call 8; refine (sendN w0 _ nb most P _ of ot _ oL HN.out HRw.out HL.out).mono ?_; rintro e w2 ⟨rfl, d2, k2⟩; rw [ES.out]; obtain ⟨kb, ko, kn, kk⟩ := HFin.out _ (sendP most P (of, ot, oL)) false (0, 0, []) none 0 d2 k2 (Own.nil _); obtain ⟨s0, s1, s2, g0, g1, g2⟩ := box3 kb; have KB := hid kb; have KO := hid ko; have KN := hid kn; have KK := hid kk; clear kb ko kn kk d2 k2)
      obtain ⟨r0, r1, r2, -, -, -⟩ := box3 (box3_set (p := .int .i64 0) (q := .int .i64 0) (r := .slice none 0 0) KB.out)
      refine bodyPost_ret (v := .tuple #[.agg #[.int .i64 0, .int .i64 0, .slice none 0 0], .bool false]) (by simp [results, Try.results13, go_sem, r0, r1, r2]) rfl ?_
      refine ⟨none, 0, ?_, KO.out, ?_, KK.out⟩
      · rfl
      · exact KN.out
  by_cases c2 : ok = 2
  · subst c2
    clear c1
    have EX := hid (show doX P ⟨2, oi, om, of, ot, .slice pa oL.length pc, oL⟩ = takeX P oi from rfl)
    have EP := hid (show doP most P ⟨2, oi, om, of, ot, .slice pa oL.length pc, oL⟩ = dropP P oi from rfl)
    have EB := hid (show doB most P ⟨2, oi, om, of, ot, .slice pa oL.length pc, oL⟩ = hasP P oi from rfl)
    rw [EX.out, EP.out, EB.out]
    have HT := hid (takeN w0 W1 nb most P _ oi HN.out)
    generalize takeX P oi = tx at *
    generalize hasP P oi = bv at *
    obtain ⟨tf, tt, tL⟩ := tx
    dsimp only at HT ⊢
    clear EX EP EB
    go_enter Try.func13, Try.ntmps13
    go_upto_region 1 with (fail)
    rw [← HX1.out, ← hby, ← hbx]
    clear hbx hby HX1
    skip
    go_wp2_with (go_at_call 9; refine (HT.out).mono ?_; rintro e w2 ⟨a2, c2, rfl, o2, d2, k2⟩; obtain ⟨kb, ko, kn, kk⟩ := HFin.out _ (dropP P oi) bv (tf, tt, tL) a2 c2 d2 k2 o2; obtain ⟨s0, s1, s2, g0, g1, g2⟩ := box3 kb; have KB := hid kb; have KO := hid ko; have KN := hid kn; have KK := hid kk; clear kb ko kn kk d2 k2)
    obtain ⟨r0, r1, r2, -, -, -⟩ := box3 (box3_set (p := .int .i64 tf) (q := .int .i64 tt) (r := .slice a2 tL.length c2) KB.out)
    refine bodyPost_ret (v := .tuple #[.agg #[.int .i64 tf, .int .i64 tt, .slice a2 tL.length c2], .bool bv]) (by simp [results, Try.results13, go_sem, r0, r1, r2]) rfl ?_
    refine ⟨a2, c2, ?_, KO.out, ?_, KK.out⟩
    · rfl
    · exact KN.out
  by_cases c3 : ok = 3
  · subst c3
    clear c1 c2
    have EX := hid (show doX P ⟨3, oi, om, of, ot, .slice pa oL.length pc, oL⟩ = (0, 0, []) from rfl)
    have EP := hid (show doP most P ⟨3, oi, om, of, ot, .slice pa oL.length pc, oL⟩ = dropP P oi from rfl)
    have EB := hid (show doB most P ⟨3, oi, om, of, ot, .slice pa oL.length pc, oL⟩ = hasP P oi from rfl)
    rw [EX.out, EP.out, EB.out]
    generalize hbv : hasP P oi = bv
    have HBv := hid hbv
    clear hbv EX EP EB
    go_enter Try.func13, Try.ntmps13
    go_upto_region 1 with (fail)
    rw [← HX1.out, ← hby, ← hbx]
    clear hbx hby HX1
    skip
    go_wp2_with (go_at_call 12; refine (dropN w0 _ nb most P _ oi HN.out).mono ?_; rintro e w2 ⟨rfl, d2, k2⟩; rw [HBv.out]; obtain ⟨kb, ko, kn, kk⟩ := HFin.out _ (dropP P oi) bv (0, 0, []) none 0 d2 k2 (Own.nil _); obtain ⟨s0, s1, s2, g0, g1, g2⟩ := box3 kb; have KB := hid kb; have KO := hid ko; have KN := hid kn; have KK := hid kk; clear kb ko kn kk d2 k2)
    obtain ⟨r0, r1, r2, -, -, -⟩ := box3 (box3_set (p := .int .i64 0) (q := .int .i64 0) (r := .slice none 0 0) KB.out)
    refine bodyPost_ret (v := .tuple #[.agg #[.int .i64 0, .int .i64 0, .slice none 0 0], .bool bv]) (by simp [results, Try.results13, go_sem, r0, r1, r2]) rfl ?_
    refine ⟨none, 0, ?_, KO.out, ?_, KK.out⟩
    · rfl
    · exact KN.out
  by_cases c4 : ok = 4
  · subst c4
    clear c1 c2 c3
    have EX := hid (show doX P ⟨4, oi, om, of, ot, .slice pa oL.length pc, oL⟩ = (0, 0, []) from rfl)
    have EP := hid (show doP most P ⟨4, oi, om, of, ot, .slice pa oL.length pc, oL⟩ = dblP most P oi from rfl)
    have EB := hid (show doB most P ⟨4, oi, om, of, ot, .slice pa oL.length pc, oL⟩ = dblB most P oi from rfl)
    rw [EX.out, EP.out, EB.out]
    generalize hbv : dblB most P oi = bv
    have HBv := hid hbv
    clear hbv EX EP EB
    go_enter Try.func13, Try.ntmps13
    go_upto_region 1 with (fail)
    rw [← HX1.out, ← hby, ← hbx]
    clear hbx hby HX1
    skip
    go_wp2_with (go_at_call 19; refine (doubleN w0 _ nb most P _ oi HN.out).mono ?_; rintro e w2 ⟨rfl, d2, k2⟩; rw [HBv.out]; obtain ⟨kb, ko, kn, kk⟩ := HFin.out _ (dblP most P oi) bv (0, 0, []) none 0 d2 k2 (Own.nil _); obtain ⟨s0, s1, s2, g0, g1, g2⟩ := box3 kb; have KB := hid kb; have KO := hid ko; have KN := hid kn; have KK := hid kk; clear kb ko kn kk d2 k2)
    obtain ⟨r0, r1, r2, -, -, -⟩ := box3 (box3_set (p := .int .i64 0) (q := .int .i64 0) (r := .slice none 0 0) KB.out)
    refine bodyPost_ret (v := .tuple #[.agg #[.int .i64 0, .int .i64 0, .slice none 0 0], .bool bv]) (by simp [results, Try.results13, go_sem, r0, r1, r2]) rfl ?_
    refine ⟨none, 0, ?_, KO.out, ?_, KK.out⟩
    · rfl
    · exact KN.out
  by_cases c5 : ok = 5
  · subst c5
    clear c1 c2 c3 c4
    have EX := hid (show doX P ⟨5, oi, om, of, ot, .slice pa oL.length pc, oL⟩ = (0, 0, []) from rfl)
    have EP := hid (show doP most P ⟨5, oi, om, of, ot, .slice pa oL.length pc, oL⟩ = swpP P oi om from rfl)
    have EB := hid (show doB most P ⟨5, oi, om, of, ot, .slice pa oL.length pc, oL⟩ = swpB P oi om from rfl)
    rw [EX.out, EP.out, EB.out]
    generalize hbv : swpB P oi om = bv
    have HBv := hid hbv
    clear hbv EX EP EB
    go_enter Try.func13, Try.ntmps13
    go_upto_region 1 with (fail)
    rw [← HX1.out, ← hby, ← hbx]
    clear hbx hby HX1
    skip
    go_wp2_with (go_at_call 20; refine (swapN w0 _ nb most P _ oi om HN.out).mono ?_; rintro e w2 ⟨rfl, d2, k2⟩; rw [HBv.out]; obtain ⟨kb, ko, kn, kk⟩ := HFin.out _ (swpP P oi om) bv (0, 0, []) none 0 d2 k2 (Own.nil _); obtain ⟨s0, s1, s2, g0, g1, g2⟩ := box3 kb; have KB := hid kb; have KO := hid ko; have KN := hid kn; have KK := hid kk; clear kb ko kn kk d2 k2)
    obtain ⟨r0, r1, r2, -, -, -⟩ := box3 (box3_set (p := .int .i64 0) (q := .int .i64 0) (r := .slice none 0 0) KB.out)
    refine bodyPost_ret (v := .tuple #[.agg #[.int .i64 0, .int .i64 0, .slice none 0 0], .bool bv]) (by simp [results, Try.results13, go_sem, r0, r1, r2]) rfl ?_
    refine ⟨none, 0, ?_, KO.out, ?_, KK.out⟩
    · rfl
    · exact KN.out
  have EX := hid (show doX P ⟨ok, oi, om, of, ot, .slice pa oL.length pc, oL⟩ = (0, 0, []) from by unfold doX; dsimp only; rw [if_neg c2])
  have EP := hid (show doP most P ⟨ok, oi, om, of, ot, .slice pa oL.length pc, oL⟩ = shtP P oi from by unfold doP; dsimp only; rw [if_neg c1, if_neg c2, if_neg c3, if_neg c4, if_neg c5])
  have EB := hid (show doB most P ⟨ok, oi, om, of, ot, .slice pa oL.length pc, oL⟩ = shtB P oi from by unfold doB; dsimp only; rw [if_neg c1, if_neg c2, if_neg c3, if_neg c4, if_neg c5])
  rw [EX.out, EP.out, EB.out]
  generalize hbv : shtB P oi = bv
  have HBv := hid hbv
  clear hbv EX EP EB
  go_enter Try.func13, Try.ntmps13
  go_upto_region 1 with (fail)
  rw [← HX1.out, ← hby, ← hbx]
  clear hbx hby HX1
  skip
  go_wp2_with (go_at_call 24; refine (shortN w0 _ nb most P _ oi HN.out).mono ?_; rintro e w2 ⟨rfl, d2, k2⟩; rw [HBv.out]; obtain ⟨kb, ko, kn, kk⟩ := HFin.out _ (shtP P oi) bv (0, 0, []) none 0 d2 k2 (Own.nil _); obtain ⟨s0, s1, s2, g0, g1, g2⟩ := box3 kb; have KB := hid kb; have KO := hid ko; have KN := hid kn; have KK := hid kk; clear kb ko kn kk d2 k2)
  obtain ⟨r0, r1, r2, -, -, -⟩ := box3 (box3_set (p := .int .i64 0) (q := .int .i64 0) (r := .slice none 0 0) KB.out)
  refine bodyPost_ret (v := .tuple #[.agg #[.int .i64 0, .int .i64 0, .slice none 0 0], .bool bv]) (by simp [results, Try.results13, go_sem, r0, r1, r2]) rfl ?_
  refine ⟨none, 0, ?_, KO.out, ?_, KK.out⟩
  · rfl
  · exact KN.out
end Go.Proofs.Ytejeihbcakojeaa
