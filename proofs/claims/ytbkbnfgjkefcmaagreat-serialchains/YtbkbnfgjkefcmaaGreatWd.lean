/- sub.form at every submission: its rows sorted; conditions: the lengths fit. -/
import Derived.Test.YtbkbnfgjkefcmaaGreatWc
import Derived.Test.YtbkbnfgjkefcmaaGreatNm
namespace Go.Proofs.YtbkbnfgjkefcmaaGreat
open Go.RowKit
set_option linter.unusedVariables false
attribute [local go_sem] run_bits run_frombits run_store_float eqF
theorem ent_sort (args : Array Value) (w : World) : (callFunc 96 args).run Tryz.prog w = .ok (.enter 96 args) w := by kernel_rfl
theorem ent_norm (args : Array Value) (w : World) : (callFunc 97 args).run Tryz.prog w = .ok (.enter 97 args) w := by kernel_rfl
theorem stepLoadFL {ops : Array Oper} {o : Oper} {a : Act} {w : World} {K : Act → World → Prop} {Q : Exit → Act → World → Prop} {E : Prop} (hg : o.guard = none) (x : Operand) (hop : o.op = Op.load 28 x) (b off : Nat) (p : Option Addr) (n c : Nat)
    (hx : a.eval x = .pointer (some ⟨b, off, none⟩)) (hc : w.cell? ⟨b, off, none⟩ = some (.slice p n c)) (hK : K (a.put o.dst (.slice p n c)) w) :
    if Region.wanted o (yielded ops a.tmps) = true then Oper.wp Tryz.prog o a w K Q else E := by
  have hw : Region.wanted o (yielded ops a.tmps) = true := by simp [Region.wanted, hg]
  rw [if_pos hw]
  obtain ⟨d, p, t, ps, af, gd⟩ := o
  subst hop
  unfold Oper.wp execOp
  simp only [hx]
  go_simp
  exact hK
theorem stepLoadSL {ops : Array Oper} {o : Oper} {a : Act} {w : World} {K : Act → World → Prop} {Q : Exit → Act → World → Prop} {E : Prop} (hg : o.guard = none) (x : Operand) (hop : o.op = Op.load 29 x) (b off : Nat) (p : Option Addr) (n c : Nat)
    (hx : a.eval x = .pointer (some ⟨b, off, none⟩)) (hc : w.cell? ⟨b, off, none⟩ = some (.slice p n c)) (hK : K (a.put o.dst (.slice p n c)) w) :
    if Region.wanted o (yielded ops a.tmps) = true then Oper.wp Tryz.prog o a w K Q else E := by
  have hw : Region.wanted o (yielded ops a.tmps) = true := by simp [Region.wanted, hg]
  rw [if_pos hw]
  obtain ⟨d, p, t, ps, af, gd⟩ := o
  subst hop
  unfold Oper.wp execOp
  simp only [hx]
  go_simp
  exact hK
theorem stepStoreFL {ops : Array Oper} {o : Oper} {a : Act} {w : World} {K : Act → World → Prop} {Q : Exit → Act → World → Prop} {E : Prop} (hg : o.guard = none) (x y : Operand) (hop : o.op = Op.store 28 x y) (m off : Nat) (p : Option Addr) (n c : Nat)
    (hx : a.eval x = .pointer (some ⟨m, off, none⟩)) (hy : a.eval y = .slice p n c) (ht : (∃ z, w.cell? ⟨m, off, none⟩ = some z) ∧ w.frozen? ⟨m, off, none⟩ = false)
    (hK : K (a.put o.dst undef) (w.setCell ⟨m, off, none⟩ (.slice p n c))) :
    if Region.wanted o (yielded ops a.tmps) = true then Oper.wp Tryz.prog o a w K Q else E := by
  have hw : Region.wanted o (yielded ops a.tmps) = true := by simp [Region.wanted, hg]
  rw [if_pos hw]
  obtain ⟨⟨z, hz⟩, h2⟩ := ht
  obtain ⟨d, p, t, ps, af, gd⟩ := o
  subst hop
  unfold Oper.wp execOp
  simp only [hx, hy]
  go_simp
  exact hK
theorem stepStoreSL {ops : Array Oper} {o : Oper} {a : Act} {w : World} {K : Act → World → Prop} {Q : Exit → Act → World → Prop} {E : Prop} (hg : o.guard = none) (x y : Operand) (hop : o.op = Op.store 29 x y) (m off : Nat) (p : Option Addr) (n c : Nat)
    (hx : a.eval x = .pointer (some ⟨m, off, none⟩)) (hy : a.eval y = .slice p n c) (ht : (∃ z, w.cell? ⟨m, off, none⟩ = some z) ∧ w.frozen? ⟨m, off, none⟩ = false)
    (hK : K (a.put o.dst undef) (w.setCell ⟨m, off, none⟩ (.slice p n c))) :
    if Region.wanted o (yielded ops a.tmps) = true then Oper.wp Tryz.prog o a w K Q else E := by
  have hw : Region.wanted o (yielded ops a.tmps) = true := by simp [Region.wanted, hg]
  rw [if_pos hw]
  obtain ⟨⟨z, hz⟩, h2⟩ := ht
  obtain ⟨d, p, t, ps, af, gd⟩ := o
  subst hop
  unfold Oper.wp execOp
  simp only [hx, hy]
  go_simp
  exact hK
/-- The three fields of lists may be written. -/
structure Th (m : Nat) (w : World) : Prop where
  t3 : (∃ z, w.cell? ⟨m, 3, none⟩ = some z) ∧ w.frozen? ⟨m, 3, none⟩ = false
  t4 : (∃ z, w.cell? ⟨m, 4, none⟩ = some z) ∧ w.frozen? ⟨m, 4, none⟩ = false
  t5 : (∃ z, w.cell? ⟨m, 5, none⟩ = some z) ∧ w.frozen? ⟨m, 5, none⟩ = false
theorem cell_set {w : World} {m o j : Nat} {z : Value} (h : w.cell? ⟨m, j, none⟩ = some z) (v : Value) : ∃ y, (w.setCell ⟨m, o, none⟩ v).cell? ⟨m, j, none⟩ = some y := by
  by_cases e : j = o
  · subst e; exact ⟨v, World.cell?_setCell_same _ _ _ h⟩
  · exact ⟨z, by rw [World.cell?_setCell_other _ _ _ _ (fun q => e (by cases q; rfl))]; exact h⟩
theorem Th.set {m : Nat} {w : World} (h : Th m w) (o : Nat) (v : Value) : Th m (w.setCell ⟨m, o, none⟩ v) := by
  obtain ⟨⟨⟨a, ha⟩, a2⟩, ⟨⟨b, hb⟩, b2⟩, ⟨⟨c, hc⟩, c2⟩⟩ := h
  exact ⟨⟨cell_set ha v, by simpa using a2⟩, ⟨cell_set hb v, by simpa using b2⟩, ⟨cell_set hc v, by simpa using c2⟩⟩
theorem FOwn.len' {base : Nat} {w : World} {v : Value} {L : List Nat} (h : FOwn base w v L) : ∃ p c, v = .slice p L.length c := by obtain ⟨p, c, e, _⟩ := h; exact ⟨p, c, e⟩
theorem OwnS.len' {base : Nat} {w : World} {v : Value} {L : List Sp} (h : OwnS base w v L) : ∃ p c, v = .slice p L.length c := h.len
theorem FOwn.mono' {base b' : Nat} {w : World} {v : Value} {L : List Nat} (h : FOwn base w v L) (hb : b' ≤ base) : FOwn b' w v L := by
  obtain ⟨p, c, e, k⟩ := h
  exact ⟨p, c, e, fun hl => by obtain ⟨g, q, hg, r⟩ := k hl; exact ⟨g, q, by omega, r⟩⟩
theorem OwnS.mono' {base b' : Nat} {w : World} {v : Value} {L : List Sp} (h : OwnS base w v L) (hb : b' ≤ base) : OwnS b' w v L := h.mono hb
theorem FOwn.set1 {base m : Nat} {w : World} {v : Value} {L : List Nat} (h : FOwn base w v L) (hm : m < base) (o : Nat) (u : Value) : FOwn base (w.setCell ⟨m, o, none⟩ u) v L := by
  obtain ⟨p, c, e, k⟩ := h
  refine ⟨p, c, e, fun hl => ?_⟩
  obtain ⟨g, q, hg, r⟩ := k hl
  refine ⟨g, q, hg, fun i hi => ⟨?_, by simpa using (r i hi).2⟩⟩
  rw [World.cell?_setCell_far w ⟨m, o, none⟩ ⟨g, i, none⟩ u (by show m ≠ g; omega)]; exact (r i hi).1
theorem FOwn.set3 {base m : Nat} {w : World} {v : Value} {L : List Nat} (h : FOwn base w v L) (hm : m < base) (x y z : Value) : FOwn base (((w.setCell ⟨m, 3, none⟩ x).setCell ⟨m, 4, none⟩ y).setCell ⟨m, 5, none⟩ z) v L := ((h.set1 hm 3 x).set1 hm 4 y).set1 hm 5 z
theorem OwnS.set3 {base m : Nat} {w : World} {v : Value} {L : List Sp} (h : OwnS base w v L) (hm : m < base) (x y z : Value) : OwnS base (((w.setCell ⟨m, 3, none⟩ x).setCell ⟨m, 4, none⟩ y).setCell ⟨m, 5, none⟩ z) v L :=
  ownsRow_setCell_below (ownsRow_setCell_below (ownsRow_setCell_below h (by show m < base; exact hm) _) (by show m < base; exact hm) _) (by show m < base; exact hm) _
theorem SubAt.set3 {m : Nat} {s1 s2 s3 : Int} {v1 v2 v3 : Value} {w : World} (h : SubAt m s1 s2 s3 v1 v2 v3 w) (x y z : Value) : SubAt m s1 s2 s3 x y z (((w.setCell ⟨m, 3, none⟩ x).setCell ⟨m, 4, none⟩ y).setCell ⟨m, 5, none⟩ z) := by
  obtain ⟨h0, h1, h2, h3, h4, h5⟩ := h
  have F : ∀ (W : World) (o j : Nat) (u : Value), o ≠ j → (W.setCell ⟨m, o, none⟩ u).cell? ⟨m, j, none⟩ = W.cell? ⟨m, j, none⟩ := fun W o j u hn => World.cell?_setCell_other _ _ _ _ (fun q => hn (by cases q; rfl))
  refine ⟨?_, ?_, ?_, ?_, ?_, ?_⟩
  · rw [F _ 5 0 _ (by decide), F _ 4 0 _ (by decide), F _ 3 0 _ (by decide)]; exact h0
  · rw [F _ 5 1 _ (by decide), F _ 4 1 _ (by decide), F _ 3 1 _ (by decide)]; exact h1
  · rw [F _ 5 2 _ (by decide), F _ 4 2 _ (by decide), F _ 3 2 _ (by decide)]; exact h2
  · rw [F _ 5 3 _ (by decide), F _ 4 3 _ (by decide)]; exact World.cell?_setCell_same _ _ _ h3
  · rw [F _ 5 4 _ (by decide)]; exact World.cell?_setCell_same _ _ _ (by rw [F _ 3 4 _ (by decide)]; exact h4)
  · exact World.cell?_setCell_same _ _ _ (by rw [F _ 4 5 _ (by decide), F _ 3 5 _ (by decide)]; exact h5)
set_option maxHeartbeats 8000000 in
set_option maxRecDepth 20000 in
theorem form_any (s1 s2 s3 : Int) (a1 a2 a3 : Option Addr) (n1 n2 n3 c1 c2 c3 : Nat) (x1 x3 : Nat → Nat) (f2 : Nat → Sp) (b1 : n1 ≤ 17592186044000) (b2 : n2 ≤ 5864062014805) (b3 : n3 ≤ 17592186044000) (w : World) (h1 : FRow w (.slice a1 n1 c1) n1 x1) (h2 : SRow w (.slice a2 n2 c2) n2 f2) (h3 : FRow w (.slice a3 n3 c3) n3 x3) :
    Calls Tryz.prog 80 #[.agg #[.int .i64 s1, .int .i64 s2, .int .i64 s3, .slice a1 n1 c1, .slice a2 n2 c2, .slice a3 n3 c3]] w fun e w' => ∃ (p1 p2 p3 : Option Addr) (q1 q2 q3 : Nat), e = .returned (.agg #[.int .i64 s1, .int .i64 s2, .int .i64 s3, .slice p1 (Fl.sortL x1 n1).length q1, .slice p2 (Fl.dfold (Fl.cdl f2 n2)).length q2, .slice p3 (Fl.sortL x3 n3).length q3]) ∧ FOwn w.heap.size w' (.slice p1 (Fl.sortL x1 n1).length q1) (Fl.sortL x1 n1) ∧ OwnS w.heap.size w' (.slice p2 (Fl.dfold (Fl.cdl f2 n2)).length q2) ((Fl.dfold (Fl.cdl f2 n2)).map Fl.spo) ∧ FOwn w.heap.size w' (.slice p3 (Fl.sortL x3 n3).length q3) (Fl.sortL x3 n3) ∧ Old w w' := by
  have hl2 : ((Fl.dfold (Fl.cdl f2 n2)).map Fl.spo).length = (Fl.dfold (Fl.cdl f2 n2)).length := List.length_map ..
  have HL2 := hid hl2
  have k1 := fun W (hW : Old w W) => sortF_any (.slice a1 n1 c1) n1 x1 b1 W (h1.old hW)
  have k2 := fun W (hW : Old w W) => norm_any (.slice a2 n2 c2) n2 f2 b2 W (h2.old hW)
  have k3 := fun W (hW : Old w W) => sortF_any (.slice a3 n3 c3) n3 x3 b3 W (h3.old hW)
  generalize Fl.sortL x1 n1 = L1 at *
  generalize Fl.sortL x3 n3 = L3 at *
  generalize (Fl.dfold (Fl.cdl f2 n2)).map Fl.spo = L2 at *
  rw [← hl2]
  clear hl2 h1 h2 h3
  obtain ⟨w0, hw0⟩ : ∃ w0, w0 = ((w.alloc (.cells #[.int .i64 s1, .int .i64 s2, .int .i64 s3, .slice a1 n1 c1, .slice a2 n2 c2, .slice a3 n3 c3] 31)).alloc (.cells #[.int .i64 0, .int .i64 0, .int .i64 0, .slice none 0 0, .slice none 0 0, .slice none 0 0] 31)) := ⟨_, rfl⟩
  have hs0 : SubAt w.heap.size s1 s2 s3 (.slice a1 n1 c1) (.slice a2 n2 c2) (.slice a3 n3 c3) w0 := by rw [hw0]; simp [SubAt]
  have hf0 : w0.frozen? ⟨w.heap.size, 3, none⟩ = false ∧ w0.frozen? ⟨w.heap.size, 4, none⟩ = false ∧ w0.frozen? ⟨w.heap.size, 5, none⟩ = false := by rw [hw0]; simp
  have U0 : Old w w0 := by rw [hw0]; exact ((Old.refl w).alloc _).alloc _
  have hz0 : w0.heap.size = w.heap.size + 2 := by rw [hw0]; simp
  have HW0 := hid hw0
  go_enter Tryz.func80, Tryz.ntmps80
  go_upto_region 1 with fail
  rw [← HW0.out]
  have K1 := hid (fun W (hW : Old w0 W) => k1 W (U0.trans hW))
  have K2 := hid (fun W (hW : Old w0 W) => k2 W (U0.trans hW))
  have K3 := hid (fun W (hW : Old w0 W) => k3 W (U0.trans hW))
  generalize hm : w.heap.size = m at *
  have HMm := hid hm
  have HR1 : Hid (SubAt (m + 1) 0 0 0 (.slice none 0 0) (.slice none 0 0) (.slice none 0 0) w0 ∧ w0.frozen? ⟨m + 1, 0, none⟩ = false ∧ w0.frozen? ⟨m + 1, 1, none⟩ = false ∧ w0.frozen? ⟨m + 1, 2, none⟩ = false ∧ w0.frozen? ⟨m + 1, 3, none⟩ = false ∧ w0.frozen? ⟨m + 1, 4, none⟩ = false ∧ w0.frozen? ⟨m + 1, 5, none⟩ = false) := by
    show _ ∧ _
    rw [HW0.out, ← HMm.out]
    simp [SubAt]
  have HS1 := hid (fun W (hW : Old w0 W) => SubAt.old hW hs0)
  have HS0 := hid (fun W (hW : Old w0 W) => (SubAt.old hW hs0).2.2.2)
  have HT0 := hid (fun W (hW : Old w0 W) => (⟨⟨⟨_, (SubAt.old hW hs0).2.2.2.1⟩, hW.keepF hs0.2.2.2.1 hf0.1⟩, ⟨⟨_, (SubAt.old hW hs0).2.2.2.2.1⟩, hW.keepF hs0.2.2.2.2.1 hf0.2.1⟩, ⟨⟨_, (SubAt.old hW hs0).2.2.2.2.2⟩, hW.keepF hs0.2.2.2.2.2 hf0.2.2⟩⟩ : Th m W))
  have hmb : m < w0.heap.size := by omega
  have HUm : Hid (∀ (W : World) (o : Nat) (v : Value), Old w W → Old w (W.setCell ⟨m, o, none⟩ v)) := fun W o v h => h.setCell (by show w.heap.size ≤ m; rw [HMm.out]; exact Nat.le_refl _) v
  have HRet : Hid (∀ W, Old w0 W → ∀ x y z : Value, (fun wx : World => SubAt (m + 1) 0 0 0 (.slice none 0 0) (.slice none 0 0) (.slice none 0 0) wx ∧ wx.frozen? ⟨m + 1, 0, none⟩ = false ∧ wx.frozen? ⟨m + 1, 1, none⟩ = false ∧ wx.frozen? ⟨m + 1, 2, none⟩ = false ∧ wx.frozen? ⟨m + 1, 3, none⟩ = false ∧ wx.frozen? ⟨m + 1, 4, none⟩ = false ∧ wx.frozen? ⟨m + 1, 5, none⟩ = false) (((W.setCell ⟨m, 3, none⟩ x).setCell ⟨m, 4, none⟩ y).setCell ⟨m, 5, none⟩ z)) := fun W hW x y z => by
    obtain ⟨⟨r0, r1, r2, r3, r4, r5⟩, f0, f1, f2', f3, f4, f5⟩ := HR1.out
    have F : ∀ (W : World) (o j : Nat) (u : Value), (W.setCell ⟨m, o, none⟩ u).cell? ⟨m + 1, j, none⟩ = W.cell? ⟨m + 1, j, none⟩ := fun W o j u => World.cell?_setCell_far W ⟨m, o, none⟩ ⟨m + 1, j, none⟩ u (by show m ≠ m + 1; omega)
    refine ⟨⟨?_, ?_, ?_, ?_, ?_, ?_⟩, ?_, ?_, ?_, ?_, ?_, ?_⟩
    · rw [F, F, F]; exact hW.keep r0
    · rw [F, F, F]; exact hW.keep r1
    · rw [F, F, F]; exact hW.keep r2
    · rw [F, F, F]; exact hW.keep r3
    · rw [F, F, F]; exact hW.keep r4
    · rw [F, F, F]; exact hW.keep r5
    · simpa using hW.keepF r0 f0
    · simpa using hW.keepF r1 f1
    · simpa using hW.keepF r2 f2'
    · simpa using hW.keepF r3 f3
    · simpa using hW.keepF r4 f4
    · simpa using hW.keepF r5 f5
  clear hs0 hf0 hw0 k1 k2 k3 HW0
  go_cut [] (fun wx => ∃ (p1 p2 p3 : Option Addr) (q1 q2 q3 : Nat), SubAt m s1 s2 s3 (.slice p1 L1.length q1) (.slice p2 L2.length q2) (.slice p3 L3.length q3) wx ∧ FOwn w0.heap.size wx (.slice p1 L1.length q1) L1 ∧ OwnS w0.heap.size wx (.slice p2 L2.length q2) L2 ∧ FOwn w0.heap.size wx (.slice p3 L3.length q3) L3 ∧ Old w wx ∧ (SubAt (m + 1) 0 0 0 (.slice none 0 0) (.slice none 0 0) (.slice none 0 0) wx ∧ wx.frozen? ⟨m + 1, 0, none⟩ = false ∧ wx.frozen? ⟨m + 1, 1, none⟩ = false ∧ wx.frozen? ⟨m + 1, 2, none⟩ = false ∧ wx.frozen? ⟨m + 1, 3, none⟩ = false ∧ wx.frozen? ⟨m + 1, 4, none⟩ = false ∧ wx.frozen? ⟨m + 1, 5, none⟩ = false))
  case first =>
    refine wp_region_noPanic ?_
    refine wp_region_held_drew (S := fun _ => True) (by kernel_rfl) ?_ (fun hHeld => ?_)
    · exact trivial
    (try simp only [Act.put]); (try simp only [List.setIfInBounds_toArray]); (try simp only [List.set_cons_succ]); (try simp only [List.set_cons_zero])
    clear hHeld
    refine wpAnyH_take (i := 0) (oi := { dst := some 3, op := Op.fieldAddr 31 (Operand.tmp 1) 3, type := 0, pos := "sub.go:53", after := #[], guard := none }) (v := ?vk1) rfl (by kernel_rfl) (by kernel_rfl) (by kernel_rfl) (fun _ _ _ h => h) (Or.inl ⟨by rfl, ?hk1⟩) trivial ?rk1
    case hk1 => (intro wz hSw; (try dsimp only at hSw); go_simp; try with_reducible rfl)
    (try simp only [Act.put]); (try simp only [List.setIfInBounds_toArray]); (try simp only [List.set_cons_succ]); (try simp only [List.set_cons_zero])
    refine wpAnyH_take (i := 3) (oi := { dst := some 6, op := Op.fieldAddr 31 (Operand.tmp 1) 4, type := 0, pos := "sub.go:53", after := #[], guard := none }) (v := ?vk2) rfl (by kernel_rfl) (by kernel_rfl) (by kernel_rfl) (fun _ _ _ h => h) (Or.inl ⟨by rfl, ?hk2⟩) trivial ?rk2
    case hk2 => (intro wz hSw; (try dsimp only at hSw); go_simp; try with_reducible rfl)
    (try simp only [Act.put]); (try simp only [List.setIfInBounds_toArray]); (try simp only [List.set_cons_succ]); (try simp only [List.set_cons_zero])
    refine wpAnyH_take (i := 6) (oi := { dst := some 9, op := Op.fieldAddr 31 (Operand.tmp 1) 5, type := 0, pos := "sub.go:53", after := #[], guard := none }) (v := ?vk3) rfl (by kernel_rfl) (by kernel_rfl) (by kernel_rfl) (fun _ _ _ h => h) (Or.inl ⟨by rfl, ?hk3⟩) trivial ?rk3
    case hk3 => (intro wz hSw; (try dsimp only at hSw); go_simp; try with_reducible rfl)
    (try simp only [Act.put]); (try simp only [List.setIfInBounds_toArray]); (try simp only [List.set_cons_succ]); (try simp only [List.set_cons_zero])
    refine wpAnyH_ready (rs := [1, 4, 7]) (by kernel_rfl) (by simp) ?_
    refine AllReadyH.cons (o := { dst := some 4, op := Op.load 28 (Operand.tmp 3), type := 28, pos := "sub.go:53", after := #[{ on := 0, ground := Ground.data }], guard := none }) rfl (fun K hK => ?_) (AllReadyH.cons (o := { dst := some 7, op := Op.load 29 (Operand.tmp 6), type := 29, pos := "sub.go:53", after := #[{ on := 3, ground := Ground.data }], guard := none }) rfl (fun K hK => ?_) (AllReadyH.cons (o := { dst := some 10, op := Op.load 28 (Operand.tmp 9), type := 28, pos := "sub.go:53", after := #[{ on := 6, ground := Ground.data }], guard := none }) rfl (fun K hK => ?_) AllReadyH.nil))
    · skip
      refine stepLoadFL ?_ (.tmp 3) ?_ m 3 a1 n1 c1 ?_ (HS0.out _ ((Old.refl w0).drew)).1 ?_
      · rfl
      · rfl
      · rfl
      refine hK.out _ _ trivial (fun _ => ?_)
      clear hK K
      (try simp only [Act.put]); (try simp only [List.setIfInBounds_toArray]); (try simp only [List.set_cons_succ]); (try simp only [List.set_cons_zero])
      refine wpAnyH_ready (rs := [2, 4, 7]) (by kernel_rfl) (by simp) ?_
      refine AllReadyH.cons (o := { dst := some 5, op := Op.call { callee := Callee.value (Operand.func 96), args := #[Operand.tmp 4], argTypes := #[28] }, type := 28, pos := "sub.go:53", after := #[{ on := 1, ground := Ground.data }], guard := none }) rfl (fun K hK => ?_) (AllReadyH.cons (o := { dst := some 7, op := Op.load 29 (Operand.tmp 6), type := 29, pos := "sub.go:53", after := #[{ on := 3, ground := Ground.data }], guard := none }) rfl (fun K hK => ?_) (AllReadyH.cons (o := { dst := some 10, op := Op.load 28 (Operand.tmp 9), type := 28, pos := "sub.go:53", after := #[{ on := 6, ground := Ground.data }], guard := none }) rfl (fun K hK => ?_) AllReadyH.nil))
      · skip
        refine stepCall1 ?_ 96 (.tmp 4) #[28] ?_ (.slice a1 n1 c1) ?_ ?_ (ent_sort _ _) ?_
        · rfl
        · rfl
        · rfl
        · rfl
        refine (K1.out _ ((Old.refl w0).drew)).mono ?_
        rintro o x4 ⟨r1, rfl, g1, u4⟩
        obtain ⟨p1, q1, hr1⟩ := g1.len'
        subst hr1
        refine ⟨_, rfl, ?_⟩
        have U4 := ((Old.refl w0).drew).trans u4
        replace g1 := g1.mono' ((Old.refl w0).drew).size
        refine hK.out _ _ trivial (fun _ => ?_)
        clear hK K
        (try simp only [Act.put]); (try simp only [List.setIfInBounds_toArray]); (try simp only [List.set_cons_succ]); (try simp only [List.set_cons_zero])
        refine wpAnyH_ready (rs := [4, 7]) (by kernel_rfl) (by simp) ?_
        refine AllReadyH.cons (o := { dst := some 7, op := Op.load 29 (Operand.tmp 6), type := 29, pos := "sub.go:53", after := #[{ on := 3, ground := Ground.data }], guard := none }) rfl (fun K hK => ?_) (AllReadyH.cons (o := { dst := some 10, op := Op.load 28 (Operand.tmp 9), type := 28, pos := "sub.go:53", after := #[{ on := 6, ground := Ground.data }], guard := none }) rfl (fun K hK => ?_) AllReadyH.nil)
        · skip
          refine stepLoadSL ?_ (.tmp 6) ?_ m 4 a2 n2 c2 ?_ (HS0.out _ U4).2.1 ?_
          · rfl
          · rfl
          · rfl
          refine hK.out _ _ trivial (fun _ => ?_)
          clear hK K
          (try simp only [Act.put]); (try simp only [List.setIfInBounds_toArray]); (try simp only [List.set_cons_succ]); (try simp only [List.set_cons_zero])
          refine wpAnyH_ready (rs := [5, 7]) (by kernel_rfl) (by simp) ?_
          refine AllReadyH.cons (o := { dst := some 8, op := Op.call { callee := Callee.value (Operand.func 97), args := #[Operand.tmp 7], argTypes := #[29] }, type := 29, pos := "sub.go:53", after := #[{ on := 4, ground := Ground.data }, { on := 2, ground := Ground.chain }], guard := none }) rfl (fun K hK => ?_) (AllReadyH.cons (o := { dst := some 10, op := Op.load 28 (Operand.tmp 9), type := 28, pos := "sub.go:53", after := #[{ on := 6, ground := Ground.data }], guard := none }) rfl (fun K hK => ?_) AllReadyH.nil)
          · skip
            refine stepCall1 ?_ 97 (.tmp 7) #[29] ?_ (.slice a2 n2 c2) ?_ ?_ (ent_norm _ _) ?_
            · rfl
            · rfl
            · rfl
            · rfl
            refine (K2.out _ U4).mono ?_
            rintro o x5 ⟨r2, rfl, g2, u5⟩
            obtain ⟨p2, q2, hr2⟩ := g2.len'
            subst hr2
            refine ⟨_, rfl, ?_⟩
            have U5 := U4.trans u5
            replace g1 := g1.old u5
            replace g2 := g2.mono' U4.size
            refine hK.out _ _ trivial (fun _ => ?_)
            clear hK K
            (try simp only [Act.put]); (try simp only [List.setIfInBounds_toArray]); (try simp only [List.set_cons_succ]); (try simp only [List.set_cons_zero])
            refine wpAnyH_ready (rs := [7]) (by kernel_rfl) (by simp) ?_
            refine AllReadyH.cons (o := { dst := some 10, op := Op.load 28 (Operand.tmp 9), type := 28, pos := "sub.go:53", after := #[{ on := 6, ground := Ground.data }], guard := none }) rfl (fun K hK => ?_) AllReadyH.nil
            · skip
              refine stepLoadFL ?_ (.tmp 9) ?_ m 5 a3 n3 c3 ?_ (HS0.out _ U5).2.2 ?_
              · rfl
              · rfl
              · rfl
              refine hK.out _ _ trivial (fun _ => ?_)
              clear hK K
              (try simp only [Act.put]); (try simp only [List.setIfInBounds_toArray]); (try simp only [List.set_cons_succ]); (try simp only [List.set_cons_zero])
              refine wpAnyH_take (i := 9) (oi := { dst := some 12, op := Op.fieldAddr 31 (Operand.tmp 1) 3, type := 0, pos := "sub.go:53", after := #[{ on := 0, ground := Ground.phase }, { on := 1, ground := Ground.phase }, { on := 2, ground := Ground.phase }, { on := 3, ground := Ground.phase }, { on := 4, ground := Ground.phase }, { on := 5, ground := Ground.textOnly Departure.lateStoresUnsure }, { on := 6, ground := Ground.phase }, { on := 7, ground := Ground.phase }, { on := 8, ground := Ground.textOnly Departure.lateStoresUnsure }], guard := none }) (v := ?vk6) rfl (by kernel_rfl) (by kernel_rfl) (by kernel_rfl) (fun _ _ _ h => h) (Or.inl ⟨by rfl, ?hk6⟩) trivial ?rk6
              case hk6 => (intro wz hSw; (try dsimp only at hSw); go_simp; try with_reducible rfl)
              (try simp only [Act.put]); (try simp only [List.setIfInBounds_toArray]); (try simp only [List.set_cons_succ]); (try simp only [List.set_cons_zero])
              refine wpAnyH_ready (rs := [8]) (by kernel_rfl) (by simp) ?_
              refine AllReadyH.cons (o := { dst := some 11, op := Op.call { callee := Callee.value (Operand.func 96), args := #[Operand.tmp 10], argTypes := #[28] }, type := 28, pos := "sub.go:53", after := #[{ on := 7, ground := Ground.data }, { on := 5, ground := Ground.chain }], guard := none }) rfl (fun K hK => ?_) AllReadyH.nil
              · skip
                refine stepCall1 ?_ 96 (.tmp 10) #[28] ?_ (.slice a3 n3 c3) ?_ ?_ (ent_sort _ _) ?_
                · rfl
                · rfl
                · rfl
                · rfl
                refine (K3.out _ U5).mono ?_
                rintro o x7 ⟨r3, rfl, g3, u7⟩
                obtain ⟨p3, q3, hr3⟩ := g3.len'
                subst hr3
                refine ⟨_, rfl, ?_⟩
                have U7 := U5.trans u7
                replace g1 := g1.old u7
                replace g2 := g2.old u7
                replace g3 := g3.mono' U5.size
                refine hK.out _ _ trivial (fun _ => ?_)
                clear hK K
                (try simp only [Act.put]); (try simp only [List.setIfInBounds_toArray]); (try simp only [List.set_cons_succ]); (try simp only [List.set_cons_zero])
                refine wpAnyH_ready (rs := [10]) (by kernel_rfl) (by simp) ?_
                refine AllReadyH.cons (o := { dst := none, op := Op.store 28 (Operand.tmp 12) (Operand.tmp 5), type := 0, pos := "sub.go:53", after := #[{ on := 9, ground := Ground.data }, { on := 2, ground := Ground.data }, { on := 8, ground := Ground.chain }, { on := 0, ground := Ground.phase }, { on := 1, ground := Ground.phase }, { on := 2, ground := Ground.phase }, { on := 3, ground := Ground.phase }, { on := 4, ground := Ground.phase }, { on := 5, ground := Ground.textOnly Departure.lateStoresUnsure }, { on := 6, ground := Ground.phase }, { on := 7, ground := Ground.phase }, { on := 8, ground := Ground.textOnly Departure.lateStoresUnsure }], guard := none }) rfl (fun K hK => ?_) AllReadyH.nil
                · skip
                  refine stepStoreFL ?_ (.tmp 12) (.tmp 5) ?_ m 3 p1 L1.length q1 ?_ ?_ (HT0.out _ U7).t3 ?_
                  · rfl
                  · rfl
                  · rfl
                  · rfl
                  refine hK.out _ _ trivial (fun _ => ?_)
                  clear hK K
                  (try simp only [Act.put]); (try simp only [List.setIfInBounds_toArray]); (try simp only [List.set_cons_succ]); (try simp only [List.set_cons_zero])
                  refine wpAnyH_take (i := 11) (oi := { dst := some 13, op := Op.fieldAddr 31 (Operand.tmp 1) 4, type := 0, pos := "sub.go:53", after := #[{ on := 0, ground := Ground.phase }, { on := 1, ground := Ground.phase }, { on := 2, ground := Ground.phase }, { on := 3, ground := Ground.phase }, { on := 4, ground := Ground.phase }, { on := 5, ground := Ground.phase }, { on := 6, ground := Ground.phase }, { on := 7, ground := Ground.phase }, { on := 8, ground := Ground.textOnly Departure.lateStoresUnsure }, { on := 9, ground := Ground.phase }, { on := 10, ground := Ground.phase }], guard := none }) (v := ?vk8) rfl (by kernel_rfl) (by kernel_rfl) (by kernel_rfl) (fun _ _ _ h => h) (Or.inl ⟨by rfl, ?hk8⟩) trivial ?rk8
                  case hk8 => (intro wz hSw; (try dsimp only at hSw); go_simp; try with_reducible rfl)
                  (try simp only [Act.put]); (try simp only [List.setIfInBounds_toArray]); (try simp only [List.set_cons_succ]); (try simp only [List.set_cons_zero])
                  refine wpAnyH_ready (rs := [12]) (by kernel_rfl) (by simp) ?_
                  refine AllReadyH.cons (o := { dst := none, op := Op.store 29 (Operand.tmp 13) (Operand.tmp 8), type := 0, pos := "sub.go:53", after := #[{ on := 11, ground := Ground.data }, { on := 5, ground := Ground.data }, { on := 10, ground := Ground.chain }, { on := 0, ground := Ground.phase }, { on := 1, ground := Ground.phase }, { on := 2, ground := Ground.phase }, { on := 3, ground := Ground.phase }, { on := 4, ground := Ground.phase }, { on := 5, ground := Ground.phase }, { on := 6, ground := Ground.phase }, { on := 7, ground := Ground.phase }, { on := 8, ground := Ground.textOnly Departure.lateStoresUnsure }, { on := 9, ground := Ground.phase }, { on := 10, ground := Ground.phase }], guard := none }) rfl (fun K hK => ?_) AllReadyH.nil
                  · skip
                    refine stepStoreSL ?_ (.tmp 13) (.tmp 8) ?_ m 4 p2 L2.length q2 ?_ ?_ ((HT0.out _ U7).set _ _).t4 ?_
                    · rfl
                    · rfl
                    · rfl
                    · rfl
                    refine hK.out _ _ trivial (fun _ => ?_)
                    clear hK K
                    (try simp only [Act.put]); (try simp only [List.setIfInBounds_toArray]); (try simp only [List.set_cons_succ]); (try simp only [List.set_cons_zero])
                    refine wpAnyH_take (i := 13) (oi := { dst := some 14, op := Op.fieldAddr 31 (Operand.tmp 1) 5, type := 0, pos := "sub.go:53", after := #[{ on := 0, ground := Ground.phase }, { on := 1, ground := Ground.phase }, { on := 2, ground := Ground.phase }, { on := 3, ground := Ground.phase }, { on := 4, ground := Ground.phase }, { on := 5, ground := Ground.phase }, { on := 6, ground := Ground.phase }, { on := 7, ground := Ground.phase }, { on := 8, ground := Ground.phase }, { on := 9, ground := Ground.phase }, { on := 10, ground := Ground.phase }, { on := 11, ground := Ground.phase }, { on := 12, ground := Ground.phase }], guard := none }) (v := ?vk9) rfl (by kernel_rfl) (by kernel_rfl) (by kernel_rfl) (fun _ _ _ h => h) (Or.inl ⟨by rfl, ?hk9⟩) trivial ?rk9
                    case hk9 => (intro wz hSw; (try dsimp only at hSw); go_simp; try with_reducible rfl)
                    (try simp only [Act.put]); (try simp only [List.setIfInBounds_toArray]); (try simp only [List.set_cons_succ]); (try simp only [List.set_cons_zero])
                    refine wpAnyH_ready (rs := [14]) (by kernel_rfl) (by simp) ?_
                    refine AllReadyH.cons (o := { dst := none, op := Op.store 28 (Operand.tmp 14) (Operand.tmp 11), type := 0, pos := "sub.go:53", after := #[{ on := 13, ground := Ground.data }, { on := 8, ground := Ground.data }, { on := 12, ground := Ground.chain }, { on := 0, ground := Ground.phase }, { on := 1, ground := Ground.phase }, { on := 2, ground := Ground.phase }, { on := 3, ground := Ground.phase }, { on := 4, ground := Ground.phase }, { on := 5, ground := Ground.phase }, { on := 6, ground := Ground.phase }, { on := 7, ground := Ground.phase }, { on := 8, ground := Ground.phase }, { on := 9, ground := Ground.phase }, { on := 10, ground := Ground.phase }, { on := 11, ground := Ground.phase }, { on := 12, ground := Ground.phase }], guard := none }) rfl (fun K hK => ?_) AllReadyH.nil
                    · skip
                      refine stepStoreFL ?_ (.tmp 14) (.tmp 11) ?_ m 5 p3 L3.length q3 ?_ ?_ (((HT0.out _ U7).set _ _).set _ _).t5 ?_
                      · rfl
                      · rfl
                      · rfl
                      · rfl
                      refine hK.out _ _ trivial (fun _ => ?_)
                      clear hK K
                      (try simp only [Act.put]); (try simp only [List.setIfInBounds_toArray]); (try simp only [List.set_cons_succ]); (try simp only [List.set_cons_zero])
                      refine wpAnyH_done (by kernel_rfl) ?_ _
                      refine NoPanic.normal ?_
                      go_wp2_with fail
                      go_meet
                      case rel => exact ⟨_, _, _, _, _, _, SubAt.set3 (HS1.out _ U7) _ _ _, g1.set3 hmb _ _ _, g2.set3 hmb _ _ _, g3.set3 hmb _ _ _, HUm.out _ _ _ (HUm.out _ _ _ (HUm.out _ _ _ (U0.trans U7))), HRet.out _ U7 _ _ _⟩
          · skip
            refine stepLoadFL ?_ (.tmp 9) ?_ m 5 a3 n3 c3 ?_ (HS0.out _ U4).2.2 ?_
            · rfl
            · rfl
            · rfl
            refine hK.out _ _ trivial (fun _ => ?_)
            clear hK K
            (try simp only [Act.put]); (try simp only [List.setIfInBounds_toArray]); (try simp only [List.set_cons_succ]); (try simp only [List.set_cons_zero])
            refine wpAnyH_take (i := 9) (oi := { dst := some 12, op := Op.fieldAddr 31 (Operand.tmp 1) 3, type := 0, pos := "sub.go:53", after := #[{ on := 0, ground := Ground.phase }, { on := 1, ground := Ground.phase }, { on := 2, ground := Ground.phase }, { on := 3, ground := Ground.phase }, { on := 4, ground := Ground.phase }, { on := 5, ground := Ground.textOnly Departure.lateStoresUnsure }, { on := 6, ground := Ground.phase }, { on := 7, ground := Ground.phase }, { on := 8, ground := Ground.textOnly Departure.lateStoresUnsure }], guard := none }) (v := ?vk10) rfl (by kernel_rfl) (by kernel_rfl) (by kernel_rfl) (fun _ _ _ h => h) (Or.inl ⟨by rfl, ?hk10⟩) trivial ?rk10
            case hk10 => (intro wz hSw; (try dsimp only at hSw); go_simp; try with_reducible rfl)
            (try simp only [Act.put]); (try simp only [List.setIfInBounds_toArray]); (try simp only [List.set_cons_succ]); (try simp only [List.set_cons_zero])
            refine wpAnyH_ready (rs := [5]) (by kernel_rfl) (by simp) ?_
            refine AllReadyH.cons (o := { dst := some 8, op := Op.call { callee := Callee.value (Operand.func 97), args := #[Operand.tmp 7], argTypes := #[29] }, type := 29, pos := "sub.go:53", after := #[{ on := 4, ground := Ground.data }, { on := 2, ground := Ground.chain }], guard := none }) rfl (fun K hK => ?_) AllReadyH.nil
            · skip
              refine stepCall1 ?_ 97 (.tmp 7) #[29] ?_ (.slice a2 n2 c2) ?_ ?_ (ent_norm _ _) ?_
              · rfl
              · rfl
              · rfl
              · rfl
              refine (K2.out _ U4).mono ?_
              rintro o x11 ⟨r2, rfl, g2, u11⟩
              obtain ⟨p2, q2, hr2⟩ := g2.len'
              subst hr2
              refine ⟨_, rfl, ?_⟩
              have U11 := U4.trans u11
              replace g1 := g1.old u11
              replace g2 := g2.mono' U4.size
              refine hK.out _ _ trivial (fun _ => ?_)
              clear hK K
              (try simp only [Act.put]); (try simp only [List.setIfInBounds_toArray]); (try simp only [List.set_cons_succ]); (try simp only [List.set_cons_zero])
              refine wpAnyH_ready (rs := [8]) (by kernel_rfl) (by simp) ?_
              refine AllReadyH.cons (o := { dst := some 11, op := Op.call { callee := Callee.value (Operand.func 96), args := #[Operand.tmp 10], argTypes := #[28] }, type := 28, pos := "sub.go:53", after := #[{ on := 7, ground := Ground.data }, { on := 5, ground := Ground.chain }], guard := none }) rfl (fun K hK => ?_) AllReadyH.nil
              · skip
                refine stepCall1 ?_ 96 (.tmp 10) #[28] ?_ (.slice a3 n3 c3) ?_ ?_ (ent_sort _ _) ?_
                · rfl
                · rfl
                · rfl
                · rfl
                refine (K3.out _ U11).mono ?_
                rintro o x12 ⟨r3, rfl, g3, u12⟩
                obtain ⟨p3, q3, hr3⟩ := g3.len'
                subst hr3
                refine ⟨_, rfl, ?_⟩
                have U12 := U11.trans u12
                replace g1 := g1.old u12
                replace g2 := g2.old u12
                replace g3 := g3.mono' U11.size
                refine hK.out _ _ trivial (fun _ => ?_)
                clear hK K
                (try simp only [Act.put]); (try simp only [List.setIfInBounds_toArray]); (try simp only [List.set_cons_succ]); (try simp only [List.set_cons_zero])
                refine wpAnyH_ready (rs := [10]) (by kernel_rfl) (by simp) ?_
                refine AllReadyH.cons (o := { dst := none, op := Op.store 28 (Operand.tmp 12) (Operand.tmp 5), type := 0, pos := "sub.go:53", after := #[{ on := 9, ground := Ground.data }, { on := 2, ground := Ground.data }, { on := 8, ground := Ground.chain }, { on := 0, ground := Ground.phase }, { on := 1, ground := Ground.phase }, { on := 2, ground := Ground.phase }, { on := 3, ground := Ground.phase }, { on := 4, ground := Ground.phase }, { on := 5, ground := Ground.textOnly Departure.lateStoresUnsure }, { on := 6, ground := Ground.phase }, { on := 7, ground := Ground.phase }, { on := 8, ground := Ground.textOnly Departure.lateStoresUnsure }], guard := none }) rfl (fun K hK => ?_) AllReadyH.nil
                · skip
                  refine stepStoreFL ?_ (.tmp 12) (.tmp 5) ?_ m 3 p1 L1.length q1 ?_ ?_ (HT0.out _ U12).t3 ?_
                  · rfl
                  · rfl
                  · rfl
                  · rfl
                  refine hK.out _ _ trivial (fun _ => ?_)
                  clear hK K
                  (try simp only [Act.put]); (try simp only [List.setIfInBounds_toArray]); (try simp only [List.set_cons_succ]); (try simp only [List.set_cons_zero])
                  refine wpAnyH_take (i := 11) (oi := { dst := some 13, op := Op.fieldAddr 31 (Operand.tmp 1) 4, type := 0, pos := "sub.go:53", after := #[{ on := 0, ground := Ground.phase }, { on := 1, ground := Ground.phase }, { on := 2, ground := Ground.phase }, { on := 3, ground := Ground.phase }, { on := 4, ground := Ground.phase }, { on := 5, ground := Ground.phase }, { on := 6, ground := Ground.phase }, { on := 7, ground := Ground.phase }, { on := 8, ground := Ground.textOnly Departure.lateStoresUnsure }, { on := 9, ground := Ground.phase }, { on := 10, ground := Ground.phase }], guard := none }) (v := ?vk13) rfl (by kernel_rfl) (by kernel_rfl) (by kernel_rfl) (fun _ _ _ h => h) (Or.inl ⟨by rfl, ?hk13⟩) trivial ?rk13
                  case hk13 => (intro wz hSw; (try dsimp only at hSw); go_simp; try with_reducible rfl)
                  (try simp only [Act.put]); (try simp only [List.setIfInBounds_toArray]); (try simp only [List.set_cons_succ]); (try simp only [List.set_cons_zero])
                  refine wpAnyH_ready (rs := [12]) (by kernel_rfl) (by simp) ?_
                  refine AllReadyH.cons (o := { dst := none, op := Op.store 29 (Operand.tmp 13) (Operand.tmp 8), type := 0, pos := "sub.go:53", after := #[{ on := 11, ground := Ground.data }, { on := 5, ground := Ground.data }, { on := 10, ground := Ground.chain }, { on := 0, ground := Ground.phase }, { on := 1, ground := Ground.phase }, { on := 2, ground := Ground.phase }, { on := 3, ground := Ground.phase }, { on := 4, ground := Ground.phase }, { on := 5, ground := Ground.phase }, { on := 6, ground := Ground.phase }, { on := 7, ground := Ground.phase }, { on := 8, ground := Ground.textOnly Departure.lateStoresUnsure }, { on := 9, ground := Ground.phase }, { on := 10, ground := Ground.phase }], guard := none }) rfl (fun K hK => ?_) AllReadyH.nil
                  · skip
                    refine stepStoreSL ?_ (.tmp 13) (.tmp 8) ?_ m 4 p2 L2.length q2 ?_ ?_ ((HT0.out _ U12).set _ _).t4 ?_
                    · rfl
                    · rfl
                    · rfl
                    · rfl
                    refine hK.out _ _ trivial (fun _ => ?_)
                    clear hK K
                    (try simp only [Act.put]); (try simp only [List.setIfInBounds_toArray]); (try simp only [List.set_cons_succ]); (try simp only [List.set_cons_zero])
                    refine wpAnyH_take (i := 13) (oi := { dst := some 14, op := Op.fieldAddr 31 (Operand.tmp 1) 5, type := 0, pos := "sub.go:53", after := #[{ on := 0, ground := Ground.phase }, { on := 1, ground := Ground.phase }, { on := 2, ground := Ground.phase }, { on := 3, ground := Ground.phase }, { on := 4, ground := Ground.phase }, { on := 5, ground := Ground.phase }, { on := 6, ground := Ground.phase }, { on := 7, ground := Ground.phase }, { on := 8, ground := Ground.phase }, { on := 9, ground := Ground.phase }, { on := 10, ground := Ground.phase }, { on := 11, ground := Ground.phase }, { on := 12, ground := Ground.phase }], guard := none }) (v := ?vk14) rfl (by kernel_rfl) (by kernel_rfl) (by kernel_rfl) (fun _ _ _ h => h) (Or.inl ⟨by rfl, ?hk14⟩) trivial ?rk14
                    case hk14 => (intro wz hSw; (try dsimp only at hSw); go_simp; try with_reducible rfl)
                    (try simp only [Act.put]); (try simp only [List.setIfInBounds_toArray]); (try simp only [List.set_cons_succ]); (try simp only [List.set_cons_zero])
                    refine wpAnyH_ready (rs := [14]) (by kernel_rfl) (by simp) ?_
                    refine AllReadyH.cons (o := { dst := none, op := Op.store 28 (Operand.tmp 14) (Operand.tmp 11), type := 0, pos := "sub.go:53", after := #[{ on := 13, ground := Ground.data }, { on := 8, ground := Ground.data }, { on := 12, ground := Ground.chain }, { on := 0, ground := Ground.phase }, { on := 1, ground := Ground.phase }, { on := 2, ground := Ground.phase }, { on := 3, ground := Ground.phase }, { on := 4, ground := Ground.phase }, { on := 5, ground := Ground.phase }, { on := 6, ground := Ground.phase }, { on := 7, ground := Ground.phase }, { on := 8, ground := Ground.phase }, { on := 9, ground := Ground.phase }, { on := 10, ground := Ground.phase }, { on := 11, ground := Ground.phase }, { on := 12, ground := Ground.phase }], guard := none }) rfl (fun K hK => ?_) AllReadyH.nil
                    · skip
                      refine stepStoreFL ?_ (.tmp 14) (.tmp 11) ?_ m 5 p3 L3.length q3 ?_ ?_ (((HT0.out _ U12).set _ _).set _ _).t5 ?_
                      · rfl
                      · rfl
                      · rfl
                      · rfl
                      refine hK.out _ _ trivial (fun _ => ?_)
                      clear hK K
                      (try simp only [Act.put]); (try simp only [List.setIfInBounds_toArray]); (try simp only [List.set_cons_succ]); (try simp only [List.set_cons_zero])
                      refine wpAnyH_done (by kernel_rfl) ?_ _
                      refine NoPanic.normal ?_
                      go_wp2_with fail
                      go_meet
                      case rel => exact ⟨_, _, _, _, _, _, SubAt.set3 (HS1.out _ U12) _ _ _, g1.set3 hmb _ _ _, g2.set3 hmb _ _ _, g3.set3 hmb _ _ _, HUm.out _ _ _ (HUm.out _ _ _ (HUm.out _ _ _ (U0.trans U12))), HRet.out _ U12 _ _ _⟩
        · skip
          refine stepLoadFL ?_ (.tmp 9) ?_ m 5 a3 n3 c3 ?_ (HS0.out _ U4).2.2 ?_
          · rfl
          · rfl
          · rfl
          refine hK.out _ _ trivial (fun _ => ?_)
          clear hK K
          (try simp only [Act.put]); (try simp only [List.setIfInBounds_toArray]); (try simp only [List.set_cons_succ]); (try simp only [List.set_cons_zero])
          refine wpAnyH_ready (rs := [4]) (by kernel_rfl) (by simp) ?_
          refine AllReadyH.cons (o := { dst := some 7, op := Op.load 29 (Operand.tmp 6), type := 29, pos := "sub.go:53", after := #[{ on := 3, ground := Ground.data }], guard := none }) rfl (fun K hK => ?_) AllReadyH.nil
          · skip
            refine stepLoadSL ?_ (.tmp 6) ?_ m 4 a2 n2 c2 ?_ (HS0.out _ U4).2.1 ?_
            · rfl
            · rfl
            · rfl
            refine hK.out _ _ trivial (fun _ => ?_)
            clear hK K
            (try simp only [Act.put]); (try simp only [List.setIfInBounds_toArray]); (try simp only [List.set_cons_succ]); (try simp only [List.set_cons_zero])
            refine wpAnyH_take (i := 9) (oi := { dst := some 12, op := Op.fieldAddr 31 (Operand.tmp 1) 3, type := 0, pos := "sub.go:53", after := #[{ on := 0, ground := Ground.phase }, { on := 1, ground := Ground.phase }, { on := 2, ground := Ground.phase }, { on := 3, ground := Ground.phase }, { on := 4, ground := Ground.phase }, { on := 5, ground := Ground.textOnly Departure.lateStoresUnsure }, { on := 6, ground := Ground.phase }, { on := 7, ground := Ground.phase }, { on := 8, ground := Ground.textOnly Departure.lateStoresUnsure }], guard := none }) (v := ?vk15) rfl (by kernel_rfl) (by kernel_rfl) (by kernel_rfl) (fun _ _ _ h => h) (Or.inl ⟨by rfl, ?hk15⟩) trivial ?rk15
            case hk15 => (intro wz hSw; (try dsimp only at hSw); go_simp; try with_reducible rfl)
            (try simp only [Act.put]); (try simp only [List.setIfInBounds_toArray]); (try simp only [List.set_cons_succ]); (try simp only [List.set_cons_zero])
            refine wpAnyH_ready (rs := [5]) (by kernel_rfl) (by simp) ?_
            refine AllReadyH.cons (o := { dst := some 8, op := Op.call { callee := Callee.value (Operand.func 97), args := #[Operand.tmp 7], argTypes := #[29] }, type := 29, pos := "sub.go:53", after := #[{ on := 4, ground := Ground.data }, { on := 2, ground := Ground.chain }], guard := none }) rfl (fun K hK => ?_) AllReadyH.nil
            · skip
              refine stepCall1 ?_ 97 (.tmp 7) #[29] ?_ (.slice a2 n2 c2) ?_ ?_ (ent_norm _ _) ?_
              · rfl
              · rfl
              · rfl
              · rfl
              refine (K2.out _ U4).mono ?_
              rintro o x16 ⟨r2, rfl, g2, u16⟩
              obtain ⟨p2, q2, hr2⟩ := g2.len'
              subst hr2
              refine ⟨_, rfl, ?_⟩
              have U16 := U4.trans u16
              replace g1 := g1.old u16
              replace g2 := g2.mono' U4.size
              refine hK.out _ _ trivial (fun _ => ?_)
              clear hK K
              (try simp only [Act.put]); (try simp only [List.setIfInBounds_toArray]); (try simp only [List.set_cons_succ]); (try simp only [List.set_cons_zero])
              refine wpAnyH_ready (rs := [8]) (by kernel_rfl) (by simp) ?_
              refine AllReadyH.cons (o := { dst := some 11, op := Op.call { callee := Callee.value (Operand.func 96), args := #[Operand.tmp 10], argTypes := #[28] }, type := 28, pos := "sub.go:53", after := #[{ on := 7, ground := Ground.data }, { on := 5, ground := Ground.chain }], guard := none }) rfl (fun K hK => ?_) AllReadyH.nil
              · skip
                refine stepCall1 ?_ 96 (.tmp 10) #[28] ?_ (.slice a3 n3 c3) ?_ ?_ (ent_sort _ _) ?_
                · rfl
                · rfl
                · rfl
                · rfl
                refine (K3.out _ U16).mono ?_
                rintro o x17 ⟨r3, rfl, g3, u17⟩
                obtain ⟨p3, q3, hr3⟩ := g3.len'
                subst hr3
                refine ⟨_, rfl, ?_⟩
                have U17 := U16.trans u17
                replace g1 := g1.old u17
                replace g2 := g2.old u17
                replace g3 := g3.mono' U16.size
                refine hK.out _ _ trivial (fun _ => ?_)
                clear hK K
                (try simp only [Act.put]); (try simp only [List.setIfInBounds_toArray]); (try simp only [List.set_cons_succ]); (try simp only [List.set_cons_zero])
                refine wpAnyH_ready (rs := [10]) (by kernel_rfl) (by simp) ?_
                refine AllReadyH.cons (o := { dst := none, op := Op.store 28 (Operand.tmp 12) (Operand.tmp 5), type := 0, pos := "sub.go:53", after := #[{ on := 9, ground := Ground.data }, { on := 2, ground := Ground.data }, { on := 8, ground := Ground.chain }, { on := 0, ground := Ground.phase }, { on := 1, ground := Ground.phase }, { on := 2, ground := Ground.phase }, { on := 3, ground := Ground.phase }, { on := 4, ground := Ground.phase }, { on := 5, ground := Ground.textOnly Departure.lateStoresUnsure }, { on := 6, ground := Ground.phase }, { on := 7, ground := Ground.phase }, { on := 8, ground := Ground.textOnly Departure.lateStoresUnsure }], guard := none }) rfl (fun K hK => ?_) AllReadyH.nil
                · skip
                  refine stepStoreFL ?_ (.tmp 12) (.tmp 5) ?_ m 3 p1 L1.length q1 ?_ ?_ (HT0.out _ U17).t3 ?_
                  · rfl
                  · rfl
                  · rfl
                  · rfl
                  refine hK.out _ _ trivial (fun _ => ?_)
                  clear hK K
                  (try simp only [Act.put]); (try simp only [List.setIfInBounds_toArray]); (try simp only [List.set_cons_succ]); (try simp only [List.set_cons_zero])
                  refine wpAnyH_take (i := 11) (oi := { dst := some 13, op := Op.fieldAddr 31 (Operand.tmp 1) 4, type := 0, pos := "sub.go:53", after := #[{ on := 0, ground := Ground.phase }, { on := 1, ground := Ground.phase }, { on := 2, ground := Ground.phase }, { on := 3, ground := Ground.phase }, { on := 4, ground := Ground.phase }, { on := 5, ground := Ground.phase }, { on := 6, ground := Ground.phase }, { on := 7, ground := Ground.phase }, { on := 8, ground := Ground.textOnly Departure.lateStoresUnsure }, { on := 9, ground := Ground.phase }, { on := 10, ground := Ground.phase }], guard := none }) (v := ?vk18) rfl (by kernel_rfl) (by kernel_rfl) (by kernel_rfl) (fun _ _ _ h => h) (Or.inl ⟨by rfl, ?hk18⟩) trivial ?rk18
                  case hk18 => (intro wz hSw; (try dsimp only at hSw); go_simp; try with_reducible rfl)
                  (try simp only [Act.put]); (try simp only [List.setIfInBounds_toArray]); (try simp only [List.set_cons_succ]); (try simp only [List.set_cons_zero])
                  refine wpAnyH_ready (rs := [12]) (by kernel_rfl) (by simp) ?_
                  refine AllReadyH.cons (o := { dst := none, op := Op.store 29 (Operand.tmp 13) (Operand.tmp 8), type := 0, pos := "sub.go:53", after := #[{ on := 11, ground := Ground.data }, { on := 5, ground := Ground.data }, { on := 10, ground := Ground.chain }, { on := 0, ground := Ground.phase }, { on := 1, ground := Ground.phase }, { on := 2, ground := Ground.phase }, { on := 3, ground := Ground.phase }, { on := 4, ground := Ground.phase }, { on := 5, ground := Ground.phase }, { on := 6, ground := Ground.phase }, { on := 7, ground := Ground.phase }, { on := 8, ground := Ground.textOnly Departure.lateStoresUnsure }, { on := 9, ground := Ground.phase }, { on := 10, ground := Ground.phase }], guard := none }) rfl (fun K hK => ?_) AllReadyH.nil
                  · skip
                    refine stepStoreSL ?_ (.tmp 13) (.tmp 8) ?_ m 4 p2 L2.length q2 ?_ ?_ ((HT0.out _ U17).set _ _).t4 ?_
                    · rfl
                    · rfl
                    · rfl
                    · rfl
                    refine hK.out _ _ trivial (fun _ => ?_)
                    clear hK K
                    (try simp only [Act.put]); (try simp only [List.setIfInBounds_toArray]); (try simp only [List.set_cons_succ]); (try simp only [List.set_cons_zero])
                    refine wpAnyH_take (i := 13) (oi := { dst := some 14, op := Op.fieldAddr 31 (Operand.tmp 1) 5, type := 0, pos := "sub.go:53", after := #[{ on := 0, ground := Ground.phase }, { on := 1, ground := Ground.phase }, { on := 2, ground := Ground.phase }, { on := 3, ground := Ground.phase }, { on := 4, ground := Ground.phase }, { on := 5, ground := Ground.phase }, { on := 6, ground := Ground.phase }, { on := 7, ground := Ground.phase }, { on := 8, ground := Ground.phase }, { on := 9, ground := Ground.phase }, { on := 10, ground := Ground.phase }, { on := 11, ground := Ground.phase }, { on := 12, ground := Ground.phase }], guard := none }) (v := ?vk19) rfl (by kernel_rfl) (by kernel_rfl) (by kernel_rfl) (fun _ _ _ h => h) (Or.inl ⟨by rfl, ?hk19⟩) trivial ?rk19
                    case hk19 => (intro wz hSw; (try dsimp only at hSw); go_simp; try with_reducible rfl)
                    (try simp only [Act.put]); (try simp only [List.setIfInBounds_toArray]); (try simp only [List.set_cons_succ]); (try simp only [List.set_cons_zero])
                    refine wpAnyH_ready (rs := [14]) (by kernel_rfl) (by simp) ?_
                    refine AllReadyH.cons (o := { dst := none, op := Op.store 28 (Operand.tmp 14) (Operand.tmp 11), type := 0, pos := "sub.go:53", after := #[{ on := 13, ground := Ground.data }, { on := 8, ground := Ground.data }, { on := 12, ground := Ground.chain }, { on := 0, ground := Ground.phase }, { on := 1, ground := Ground.phase }, { on := 2, ground := Ground.phase }, { on := 3, ground := Ground.phase }, { on := 4, ground := Ground.phase }, { on := 5, ground := Ground.phase }, { on := 6, ground := Ground.phase }, { on := 7, ground := Ground.phase }, { on := 8, ground := Ground.phase }, { on := 9, ground := Ground.phase }, { on := 10, ground := Ground.phase }, { on := 11, ground := Ground.phase }, { on := 12, ground := Ground.phase }], guard := none }) rfl (fun K hK => ?_) AllReadyH.nil
                    · skip
                      refine stepStoreFL ?_ (.tmp 14) (.tmp 11) ?_ m 5 p3 L3.length q3 ?_ ?_ (((HT0.out _ U17).set _ _).set _ _).t5 ?_
                      · rfl
                      · rfl
                      · rfl
                      · rfl
                      refine hK.out _ _ trivial (fun _ => ?_)
                      clear hK K
                      (try simp only [Act.put]); (try simp only [List.setIfInBounds_toArray]); (try simp only [List.set_cons_succ]); (try simp only [List.set_cons_zero])
                      refine wpAnyH_done (by kernel_rfl) ?_ _
                      refine NoPanic.normal ?_
                      go_wp2_with fail
                      go_meet
                      case rel => exact ⟨_, _, _, _, _, _, SubAt.set3 (HS1.out _ U17) _ _ _, g1.set3 hmb _ _ _, g2.set3 hmb _ _ _, g3.set3 hmb _ _ _, HUm.out _ _ _ (HUm.out _ _ _ (HUm.out _ _ _ (U0.trans U17))), HRet.out _ U17 _ _ _⟩
      · skip
        refine stepLoadSL ?_ (.tmp 6) ?_ m 4 a2 n2 c2 ?_ (HS0.out _ ((Old.refl w0).drew)).2.1 ?_
        · rfl
        · rfl
        · rfl
        refine hK.out _ _ trivial (fun _ => ?_)
        clear hK K
        (try simp only [Act.put]); (try simp only [List.setIfInBounds_toArray]); (try simp only [List.set_cons_succ]); (try simp only [List.set_cons_zero])
        refine wpAnyH_ready (rs := [2, 7]) (by kernel_rfl) (by simp) ?_
        refine AllReadyH.cons (o := { dst := some 5, op := Op.call { callee := Callee.value (Operand.func 96), args := #[Operand.tmp 4], argTypes := #[28] }, type := 28, pos := "sub.go:53", after := #[{ on := 1, ground := Ground.data }], guard := none }) rfl (fun K hK => ?_) (AllReadyH.cons (o := { dst := some 10, op := Op.load 28 (Operand.tmp 9), type := 28, pos := "sub.go:53", after := #[{ on := 6, ground := Ground.data }], guard := none }) rfl (fun K hK => ?_) AllReadyH.nil)
        · skip
          refine stepCall1 ?_ 96 (.tmp 4) #[28] ?_ (.slice a1 n1 c1) ?_ ?_ (ent_sort _ _) ?_
          · rfl
          · rfl
          · rfl
          · rfl
          refine (K1.out _ ((Old.refl w0).drew)).mono ?_
          rintro o x20 ⟨r1, rfl, g1, u20⟩
          obtain ⟨p1, q1, hr1⟩ := g1.len'
          subst hr1
          refine ⟨_, rfl, ?_⟩
          have U20 := ((Old.refl w0).drew).trans u20
          replace g1 := g1.mono' ((Old.refl w0).drew).size
          refine hK.out _ _ trivial (fun _ => ?_)
          clear hK K
          (try simp only [Act.put]); (try simp only [List.setIfInBounds_toArray]); (try simp only [List.set_cons_succ]); (try simp only [List.set_cons_zero])
          refine wpAnyH_ready (rs := [5, 7]) (by kernel_rfl) (by simp) ?_
          refine AllReadyH.cons (o := { dst := some 8, op := Op.call { callee := Callee.value (Operand.func 97), args := #[Operand.tmp 7], argTypes := #[29] }, type := 29, pos := "sub.go:53", after := #[{ on := 4, ground := Ground.data }, { on := 2, ground := Ground.chain }], guard := none }) rfl (fun K hK => ?_) (AllReadyH.cons (o := { dst := some 10, op := Op.load 28 (Operand.tmp 9), type := 28, pos := "sub.go:53", after := #[{ on := 6, ground := Ground.data }], guard := none }) rfl (fun K hK => ?_) AllReadyH.nil)
          · skip
            refine stepCall1 ?_ 97 (.tmp 7) #[29] ?_ (.slice a2 n2 c2) ?_ ?_ (ent_norm _ _) ?_
            · rfl
            · rfl
            · rfl
            · rfl
            refine (K2.out _ U20).mono ?_
            rintro o x21 ⟨r2, rfl, g2, u21⟩
            obtain ⟨p2, q2, hr2⟩ := g2.len'
            subst hr2
            refine ⟨_, rfl, ?_⟩
            have U21 := U20.trans u21
            replace g1 := g1.old u21
            replace g2 := g2.mono' U20.size
            refine hK.out _ _ trivial (fun _ => ?_)
            clear hK K
            (try simp only [Act.put]); (try simp only [List.setIfInBounds_toArray]); (try simp only [List.set_cons_succ]); (try simp only [List.set_cons_zero])
            refine wpAnyH_ready (rs := [7]) (by kernel_rfl) (by simp) ?_
            refine AllReadyH.cons (o := { dst := some 10, op := Op.load 28 (Operand.tmp 9), type := 28, pos := "sub.go:53", after := #[{ on := 6, ground := Ground.data }], guard := none }) rfl (fun K hK => ?_) AllReadyH.nil
            · skip
              refine stepLoadFL ?_ (.tmp 9) ?_ m 5 a3 n3 c3 ?_ (HS0.out _ U21).2.2 ?_
              · rfl
              · rfl
              · rfl
              refine hK.out _ _ trivial (fun _ => ?_)
              clear hK K
              (try simp only [Act.put]); (try simp only [List.setIfInBounds_toArray]); (try simp only [List.set_cons_succ]); (try simp only [List.set_cons_zero])
              refine wpAnyH_take (i := 9) (oi := { dst := some 12, op := Op.fieldAddr 31 (Operand.tmp 1) 3, type := 0, pos := "sub.go:53", after := #[{ on := 0, ground := Ground.phase }, { on := 1, ground := Ground.phase }, { on := 2, ground := Ground.phase }, { on := 3, ground := Ground.phase }, { on := 4, ground := Ground.phase }, { on := 5, ground := Ground.textOnly Departure.lateStoresUnsure }, { on := 6, ground := Ground.phase }, { on := 7, ground := Ground.phase }, { on := 8, ground := Ground.textOnly Departure.lateStoresUnsure }], guard := none }) (v := ?vk22) rfl (by kernel_rfl) (by kernel_rfl) (by kernel_rfl) (fun _ _ _ h => h) (Or.inl ⟨by rfl, ?hk22⟩) trivial ?rk22
              case hk22 => (intro wz hSw; (try dsimp only at hSw); go_simp; try with_reducible rfl)
              (try simp only [Act.put]); (try simp only [List.setIfInBounds_toArray]); (try simp only [List.set_cons_succ]); (try simp only [List.set_cons_zero])
              refine wpAnyH_ready (rs := [8]) (by kernel_rfl) (by simp) ?_
              refine AllReadyH.cons (o := { dst := some 11, op := Op.call { callee := Callee.value (Operand.func 96), args := #[Operand.tmp 10], argTypes := #[28] }, type := 28, pos := "sub.go:53", after := #[{ on := 7, ground := Ground.data }, { on := 5, ground := Ground.chain }], guard := none }) rfl (fun K hK => ?_) AllReadyH.nil
              · skip
                refine stepCall1 ?_ 96 (.tmp 10) #[28] ?_ (.slice a3 n3 c3) ?_ ?_ (ent_sort _ _) ?_
                · rfl
                · rfl
                · rfl
                · rfl
                refine (K3.out _ U21).mono ?_
                rintro o x23 ⟨r3, rfl, g3, u23⟩
                obtain ⟨p3, q3, hr3⟩ := g3.len'
                subst hr3
                refine ⟨_, rfl, ?_⟩
                have U23 := U21.trans u23
                replace g1 := g1.old u23
                replace g2 := g2.old u23
                replace g3 := g3.mono' U21.size
                refine hK.out _ _ trivial (fun _ => ?_)
                clear hK K
                (try simp only [Act.put]); (try simp only [List.setIfInBounds_toArray]); (try simp only [List.set_cons_succ]); (try simp only [List.set_cons_zero])
                refine wpAnyH_ready (rs := [10]) (by kernel_rfl) (by simp) ?_
                refine AllReadyH.cons (o := { dst := none, op := Op.store 28 (Operand.tmp 12) (Operand.tmp 5), type := 0, pos := "sub.go:53", after := #[{ on := 9, ground := Ground.data }, { on := 2, ground := Ground.data }, { on := 8, ground := Ground.chain }, { on := 0, ground := Ground.phase }, { on := 1, ground := Ground.phase }, { on := 2, ground := Ground.phase }, { on := 3, ground := Ground.phase }, { on := 4, ground := Ground.phase }, { on := 5, ground := Ground.textOnly Departure.lateStoresUnsure }, { on := 6, ground := Ground.phase }, { on := 7, ground := Ground.phase }, { on := 8, ground := Ground.textOnly Departure.lateStoresUnsure }], guard := none }) rfl (fun K hK => ?_) AllReadyH.nil
                · skip
                  refine stepStoreFL ?_ (.tmp 12) (.tmp 5) ?_ m 3 p1 L1.length q1 ?_ ?_ (HT0.out _ U23).t3 ?_
                  · rfl
                  · rfl
                  · rfl
                  · rfl
                  refine hK.out _ _ trivial (fun _ => ?_)
                  clear hK K
                  (try simp only [Act.put]); (try simp only [List.setIfInBounds_toArray]); (try simp only [List.set_cons_succ]); (try simp only [List.set_cons_zero])
                  refine wpAnyH_take (i := 11) (oi := { dst := some 13, op := Op.fieldAddr 31 (Operand.tmp 1) 4, type := 0, pos := "sub.go:53", after := #[{ on := 0, ground := Ground.phase }, { on := 1, ground := Ground.phase }, { on := 2, ground := Ground.phase }, { on := 3, ground := Ground.phase }, { on := 4, ground := Ground.phase }, { on := 5, ground := Ground.phase }, { on := 6, ground := Ground.phase }, { on := 7, ground := Ground.phase }, { on := 8, ground := Ground.textOnly Departure.lateStoresUnsure }, { on := 9, ground := Ground.phase }, { on := 10, ground := Ground.phase }], guard := none }) (v := ?vk24) rfl (by kernel_rfl) (by kernel_rfl) (by kernel_rfl) (fun _ _ _ h => h) (Or.inl ⟨by rfl, ?hk24⟩) trivial ?rk24
                  case hk24 => (intro wz hSw; (try dsimp only at hSw); go_simp; try with_reducible rfl)
                  (try simp only [Act.put]); (try simp only [List.setIfInBounds_toArray]); (try simp only [List.set_cons_succ]); (try simp only [List.set_cons_zero])
                  refine wpAnyH_ready (rs := [12]) (by kernel_rfl) (by simp) ?_
                  refine AllReadyH.cons (o := { dst := none, op := Op.store 29 (Operand.tmp 13) (Operand.tmp 8), type := 0, pos := "sub.go:53", after := #[{ on := 11, ground := Ground.data }, { on := 5, ground := Ground.data }, { on := 10, ground := Ground.chain }, { on := 0, ground := Ground.phase }, { on := 1, ground := Ground.phase }, { on := 2, ground := Ground.phase }, { on := 3, ground := Ground.phase }, { on := 4, ground := Ground.phase }, { on := 5, ground := Ground.phase }, { on := 6, ground := Ground.phase }, { on := 7, ground := Ground.phase }, { on := 8, ground := Ground.textOnly Departure.lateStoresUnsure }, { on := 9, ground := Ground.phase }, { on := 10, ground := Ground.phase }], guard := none }) rfl (fun K hK => ?_) AllReadyH.nil
                  · skip
                    refine stepStoreSL ?_ (.tmp 13) (.tmp 8) ?_ m 4 p2 L2.length q2 ?_ ?_ ((HT0.out _ U23).set _ _).t4 ?_
                    · rfl
                    · rfl
                    · rfl
                    · rfl
                    refine hK.out _ _ trivial (fun _ => ?_)
                    clear hK K
                    (try simp only [Act.put]); (try simp only [List.setIfInBounds_toArray]); (try simp only [List.set_cons_succ]); (try simp only [List.set_cons_zero])
                    refine wpAnyH_take (i := 13) (oi := { dst := some 14, op := Op.fieldAddr 31 (Operand.tmp 1) 5, type := 0, pos := "sub.go:53", after := #[{ on := 0, ground := Ground.phase }, { on := 1, ground := Ground.phase }, { on := 2, ground := Ground.phase }, { on := 3, ground := Ground.phase }, { on := 4, ground := Ground.phase }, { on := 5, ground := Ground.phase }, { on := 6, ground := Ground.phase }, { on := 7, ground := Ground.phase }, { on := 8, ground := Ground.phase }, { on := 9, ground := Ground.phase }, { on := 10, ground := Ground.phase }, { on := 11, ground := Ground.phase }, { on := 12, ground := Ground.phase }], guard := none }) (v := ?vk25) rfl (by kernel_rfl) (by kernel_rfl) (by kernel_rfl) (fun _ _ _ h => h) (Or.inl ⟨by rfl, ?hk25⟩) trivial ?rk25
                    case hk25 => (intro wz hSw; (try dsimp only at hSw); go_simp; try with_reducible rfl)
                    (try simp only [Act.put]); (try simp only [List.setIfInBounds_toArray]); (try simp only [List.set_cons_succ]); (try simp only [List.set_cons_zero])
                    refine wpAnyH_ready (rs := [14]) (by kernel_rfl) (by simp) ?_
                    refine AllReadyH.cons (o := { dst := none, op := Op.store 28 (Operand.tmp 14) (Operand.tmp 11), type := 0, pos := "sub.go:53", after := #[{ on := 13, ground := Ground.data }, { on := 8, ground := Ground.data }, { on := 12, ground := Ground.chain }, { on := 0, ground := Ground.phase }, { on := 1, ground := Ground.phase }, { on := 2, ground := Ground.phase }, { on := 3, ground := Ground.phase }, { on := 4, ground := Ground.phase }, { on := 5, ground := Ground.phase }, { on := 6, ground := Ground.phase }, { on := 7, ground := Ground.phase }, { on := 8, ground := Ground.phase }, { on := 9, ground := Ground.phase }, { on := 10, ground := Ground.phase }, { on := 11, ground := Ground.phase }, { on := 12, ground := Ground.phase }], guard := none }) rfl (fun K hK => ?_) AllReadyH.nil
                    · skip
                      refine stepStoreFL ?_ (.tmp 14) (.tmp 11) ?_ m 5 p3 L3.length q3 ?_ ?_ (((HT0.out _ U23).set _ _).set _ _).t5 ?_
                      · rfl
                      · rfl
                      · rfl
                      · rfl
                      refine hK.out _ _ trivial (fun _ => ?_)
                      clear hK K
                      (try simp only [Act.put]); (try simp only [List.setIfInBounds_toArray]); (try simp only [List.set_cons_succ]); (try simp only [List.set_cons_zero])
                      refine wpAnyH_done (by kernel_rfl) ?_ _
                      refine NoPanic.normal ?_
                      go_wp2_with fail
                      go_meet
                      case rel => exact ⟨_, _, _, _, _, _, SubAt.set3 (HS1.out _ U23) _ _ _, g1.set3 hmb _ _ _, g2.set3 hmb _ _ _, g3.set3 hmb _ _ _, HUm.out _ _ _ (HUm.out _ _ _ (HUm.out _ _ _ (U0.trans U23))), HRet.out _ U23 _ _ _⟩
          · skip
            refine stepLoadFL ?_ (.tmp 9) ?_ m 5 a3 n3 c3 ?_ (HS0.out _ U20).2.2 ?_
            · rfl
            · rfl
            · rfl
            refine hK.out _ _ trivial (fun _ => ?_)
            clear hK K
            (try simp only [Act.put]); (try simp only [List.setIfInBounds_toArray]); (try simp only [List.set_cons_succ]); (try simp only [List.set_cons_zero])
            refine wpAnyH_take (i := 9) (oi := { dst := some 12, op := Op.fieldAddr 31 (Operand.tmp 1) 3, type := 0, pos := "sub.go:53", after := #[{ on := 0, ground := Ground.phase }, { on := 1, ground := Ground.phase }, { on := 2, ground := Ground.phase }, { on := 3, ground := Ground.phase }, { on := 4, ground := Ground.phase }, { on := 5, ground := Ground.textOnly Departure.lateStoresUnsure }, { on := 6, ground := Ground.phase }, { on := 7, ground := Ground.phase }, { on := 8, ground := Ground.textOnly Departure.lateStoresUnsure }], guard := none }) (v := ?vk26) rfl (by kernel_rfl) (by kernel_rfl) (by kernel_rfl) (fun _ _ _ h => h) (Or.inl ⟨by rfl, ?hk26⟩) trivial ?rk26
            case hk26 => (intro wz hSw; (try dsimp only at hSw); go_simp; try with_reducible rfl)
            (try simp only [Act.put]); (try simp only [List.setIfInBounds_toArray]); (try simp only [List.set_cons_succ]); (try simp only [List.set_cons_zero])
            refine wpAnyH_ready (rs := [5]) (by kernel_rfl) (by simp) ?_
            refine AllReadyH.cons (o := { dst := some 8, op := Op.call { callee := Callee.value (Operand.func 97), args := #[Operand.tmp 7], argTypes := #[29] }, type := 29, pos := "sub.go:53", after := #[{ on := 4, ground := Ground.data }, { on := 2, ground := Ground.chain }], guard := none }) rfl (fun K hK => ?_) AllReadyH.nil
            · skip
              refine stepCall1 ?_ 97 (.tmp 7) #[29] ?_ (.slice a2 n2 c2) ?_ ?_ (ent_norm _ _) ?_
              · rfl
              · rfl
              · rfl
              · rfl
              refine (K2.out _ U20).mono ?_
              rintro o x27 ⟨r2, rfl, g2, u27⟩
              obtain ⟨p2, q2, hr2⟩ := g2.len'
              subst hr2
              refine ⟨_, rfl, ?_⟩
              have U27 := U20.trans u27
              replace g1 := g1.old u27
              replace g2 := g2.mono' U20.size
              refine hK.out _ _ trivial (fun _ => ?_)
              clear hK K
              (try simp only [Act.put]); (try simp only [List.setIfInBounds_toArray]); (try simp only [List.set_cons_succ]); (try simp only [List.set_cons_zero])
              refine wpAnyH_ready (rs := [8]) (by kernel_rfl) (by simp) ?_
              refine AllReadyH.cons (o := { dst := some 11, op := Op.call { callee := Callee.value (Operand.func 96), args := #[Operand.tmp 10], argTypes := #[28] }, type := 28, pos := "sub.go:53", after := #[{ on := 7, ground := Ground.data }, { on := 5, ground := Ground.chain }], guard := none }) rfl (fun K hK => ?_) AllReadyH.nil
              · skip
                refine stepCall1 ?_ 96 (.tmp 10) #[28] ?_ (.slice a3 n3 c3) ?_ ?_ (ent_sort _ _) ?_
                · rfl
                · rfl
                · rfl
                · rfl
                refine (K3.out _ U27).mono ?_
                rintro o x28 ⟨r3, rfl, g3, u28⟩
                obtain ⟨p3, q3, hr3⟩ := g3.len'
                subst hr3
                refine ⟨_, rfl, ?_⟩
                have U28 := U27.trans u28
                replace g1 := g1.old u28
                replace g2 := g2.old u28
                replace g3 := g3.mono' U27.size
                refine hK.out _ _ trivial (fun _ => ?_)
                clear hK K
                (try simp only [Act.put]); (try simp only [List.setIfInBounds_toArray]); (try simp only [List.set_cons_succ]); (try simp only [List.set_cons_zero])
                refine wpAnyH_ready (rs := [10]) (by kernel_rfl) (by simp) ?_
                refine AllReadyH.cons (o := { dst := none, op := Op.store 28 (Operand.tmp 12) (Operand.tmp 5), type := 0, pos := "sub.go:53", after := #[{ on := 9, ground := Ground.data }, { on := 2, ground := Ground.data }, { on := 8, ground := Ground.chain }, { on := 0, ground := Ground.phase }, { on := 1, ground := Ground.phase }, { on := 2, ground := Ground.phase }, { on := 3, ground := Ground.phase }, { on := 4, ground := Ground.phase }, { on := 5, ground := Ground.textOnly Departure.lateStoresUnsure }, { on := 6, ground := Ground.phase }, { on := 7, ground := Ground.phase }, { on := 8, ground := Ground.textOnly Departure.lateStoresUnsure }], guard := none }) rfl (fun K hK => ?_) AllReadyH.nil
                · skip
                  refine stepStoreFL ?_ (.tmp 12) (.tmp 5) ?_ m 3 p1 L1.length q1 ?_ ?_ (HT0.out _ U28).t3 ?_
                  · rfl
                  · rfl
                  · rfl
                  · rfl
                  refine hK.out _ _ trivial (fun _ => ?_)
                  clear hK K
                  (try simp only [Act.put]); (try simp only [List.setIfInBounds_toArray]); (try simp only [List.set_cons_succ]); (try simp only [List.set_cons_zero])
                  refine wpAnyH_take (i := 11) (oi := { dst := some 13, op := Op.fieldAddr 31 (Operand.tmp 1) 4, type := 0, pos := "sub.go:53", after := #[{ on := 0, ground := Ground.phase }, { on := 1, ground := Ground.phase }, { on := 2, ground := Ground.phase }, { on := 3, ground := Ground.phase }, { on := 4, ground := Ground.phase }, { on := 5, ground := Ground.phase }, { on := 6, ground := Ground.phase }, { on := 7, ground := Ground.phase }, { on := 8, ground := Ground.textOnly Departure.lateStoresUnsure }, { on := 9, ground := Ground.phase }, { on := 10, ground := Ground.phase }], guard := none }) (v := ?vk29) rfl (by kernel_rfl) (by kernel_rfl) (by kernel_rfl) (fun _ _ _ h => h) (Or.inl ⟨by rfl, ?hk29⟩) trivial ?rk29
                  case hk29 => (intro wz hSw; (try dsimp only at hSw); go_simp; try with_reducible rfl)
                  (try simp only [Act.put]); (try simp only [List.setIfInBounds_toArray]); (try simp only [List.set_cons_succ]); (try simp only [List.set_cons_zero])
                  refine wpAnyH_ready (rs := [12]) (by kernel_rfl) (by simp) ?_
                  refine AllReadyH.cons (o := { dst := none, op := Op.store 29 (Operand.tmp 13) (Operand.tmp 8), type := 0, pos := "sub.go:53", after := #[{ on := 11, ground := Ground.data }, { on := 5, ground := Ground.data }, { on := 10, ground := Ground.chain }, { on := 0, ground := Ground.phase }, { on := 1, ground := Ground.phase }, { on := 2, ground := Ground.phase }, { on := 3, ground := Ground.phase }, { on := 4, ground := Ground.phase }, { on := 5, ground := Ground.phase }, { on := 6, ground := Ground.phase }, { on := 7, ground := Ground.phase }, { on := 8, ground := Ground.textOnly Departure.lateStoresUnsure }, { on := 9, ground := Ground.phase }, { on := 10, ground := Ground.phase }], guard := none }) rfl (fun K hK => ?_) AllReadyH.nil
                  · skip
                    refine stepStoreSL ?_ (.tmp 13) (.tmp 8) ?_ m 4 p2 L2.length q2 ?_ ?_ ((HT0.out _ U28).set _ _).t4 ?_
                    · rfl
                    · rfl
                    · rfl
                    · rfl
                    refine hK.out _ _ trivial (fun _ => ?_)
                    clear hK K
                    (try simp only [Act.put]); (try simp only [List.setIfInBounds_toArray]); (try simp only [List.set_cons_succ]); (try simp only [List.set_cons_zero])
                    refine wpAnyH_take (i := 13) (oi := { dst := some 14, op := Op.fieldAddr 31 (Operand.tmp 1) 5, type := 0, pos := "sub.go:53", after := #[{ on := 0, ground := Ground.phase }, { on := 1, ground := Ground.phase }, { on := 2, ground := Ground.phase }, { on := 3, ground := Ground.phase }, { on := 4, ground := Ground.phase }, { on := 5, ground := Ground.phase }, { on := 6, ground := Ground.phase }, { on := 7, ground := Ground.phase }, { on := 8, ground := Ground.phase }, { on := 9, ground := Ground.phase }, { on := 10, ground := Ground.phase }, { on := 11, ground := Ground.phase }, { on := 12, ground := Ground.phase }], guard := none }) (v := ?vk30) rfl (by kernel_rfl) (by kernel_rfl) (by kernel_rfl) (fun _ _ _ h => h) (Or.inl ⟨by rfl, ?hk30⟩) trivial ?rk30
                    case hk30 => (intro wz hSw; (try dsimp only at hSw); go_simp; try with_reducible rfl)
                    (try simp only [Act.put]); (try simp only [List.setIfInBounds_toArray]); (try simp only [List.set_cons_succ]); (try simp only [List.set_cons_zero])
                    refine wpAnyH_ready (rs := [14]) (by kernel_rfl) (by simp) ?_
                    refine AllReadyH.cons (o := { dst := none, op := Op.store 28 (Operand.tmp 14) (Operand.tmp 11), type := 0, pos := "sub.go:53", after := #[{ on := 13, ground := Ground.data }, { on := 8, ground := Ground.data }, { on := 12, ground := Ground.chain }, { on := 0, ground := Ground.phase }, { on := 1, ground := Ground.phase }, { on := 2, ground := Ground.phase }, { on := 3, ground := Ground.phase }, { on := 4, ground := Ground.phase }, { on := 5, ground := Ground.phase }, { on := 6, ground := Ground.phase }, { on := 7, ground := Ground.phase }, { on := 8, ground := Ground.phase }, { on := 9, ground := Ground.phase }, { on := 10, ground := Ground.phase }, { on := 11, ground := Ground.phase }, { on := 12, ground := Ground.phase }], guard := none }) rfl (fun K hK => ?_) AllReadyH.nil
                    · skip
                      refine stepStoreFL ?_ (.tmp 14) (.tmp 11) ?_ m 5 p3 L3.length q3 ?_ ?_ (((HT0.out _ U28).set _ _).set _ _).t5 ?_
                      · rfl
                      · rfl
                      · rfl
                      · rfl
                      refine hK.out _ _ trivial (fun _ => ?_)
                      clear hK K
                      (try simp only [Act.put]); (try simp only [List.setIfInBounds_toArray]); (try simp only [List.set_cons_succ]); (try simp only [List.set_cons_zero])
                      refine wpAnyH_done (by kernel_rfl) ?_ _
                      refine NoPanic.normal ?_
                      go_wp2_with fail
                      go_meet
                      case rel => exact ⟨_, _, _, _, _, _, SubAt.set3 (HS1.out _ U28) _ _ _, g1.set3 hmb _ _ _, g2.set3 hmb _ _ _, g3.set3 hmb _ _ _, HUm.out _ _ _ (HUm.out _ _ _ (HUm.out _ _ _ (U0.trans U28))), HRet.out _ U28 _ _ _⟩
        · skip
          refine stepLoadFL ?_ (.tmp 9) ?_ m 5 a3 n3 c3 ?_ (HS0.out _ ((Old.refl w0).drew)).2.2 ?_
          · rfl
          · rfl
          · rfl
          refine hK.out _ _ trivial (fun _ => ?_)
          clear hK K
          (try simp only [Act.put]); (try simp only [List.setIfInBounds_toArray]); (try simp only [List.set_cons_succ]); (try simp only [List.set_cons_zero])
          refine wpAnyH_ready (rs := [2]) (by kernel_rfl) (by simp) ?_
          refine AllReadyH.cons (o := { dst := some 5, op := Op.call { callee := Callee.value (Operand.func 96), args := #[Operand.tmp 4], argTypes := #[28] }, type := 28, pos := "sub.go:53", after := #[{ on := 1, ground := Ground.data }], guard := none }) rfl (fun K hK => ?_) AllReadyH.nil
          · skip
            refine stepCall1 ?_ 96 (.tmp 4) #[28] ?_ (.slice a1 n1 c1) ?_ ?_ (ent_sort _ _) ?_
            · rfl
            · rfl
            · rfl
            · rfl
            refine (K1.out _ ((Old.refl w0).drew)).mono ?_
            rintro o x31 ⟨r1, rfl, g1, u31⟩
            obtain ⟨p1, q1, hr1⟩ := g1.len'
            subst hr1
            refine ⟨_, rfl, ?_⟩
            have U31 := ((Old.refl w0).drew).trans u31
            replace g1 := g1.mono' ((Old.refl w0).drew).size
            refine hK.out _ _ trivial (fun _ => ?_)
            clear hK K
            (try simp only [Act.put]); (try simp only [List.setIfInBounds_toArray]); (try simp only [List.set_cons_succ]); (try simp only [List.set_cons_zero])
            refine wpAnyH_take (i := 9) (oi := { dst := some 12, op := Op.fieldAddr 31 (Operand.tmp 1) 3, type := 0, pos := "sub.go:53", after := #[{ on := 0, ground := Ground.phase }, { on := 1, ground := Ground.phase }, { on := 2, ground := Ground.phase }, { on := 3, ground := Ground.phase }, { on := 4, ground := Ground.phase }, { on := 5, ground := Ground.textOnly Departure.lateStoresUnsure }, { on := 6, ground := Ground.phase }, { on := 7, ground := Ground.phase }, { on := 8, ground := Ground.textOnly Departure.lateStoresUnsure }], guard := none }) (v := ?vk32) rfl (by kernel_rfl) (by kernel_rfl) (by kernel_rfl) (fun _ _ _ h => h) (Or.inl ⟨by rfl, ?hk32⟩) trivial ?rk32
            case hk32 => (intro wz hSw; (try dsimp only at hSw); go_simp; try with_reducible rfl)
            (try simp only [Act.put]); (try simp only [List.setIfInBounds_toArray]); (try simp only [List.set_cons_succ]); (try simp only [List.set_cons_zero])
            refine wpAnyH_ready (rs := [5]) (by kernel_rfl) (by simp) ?_
            refine AllReadyH.cons (o := { dst := some 8, op := Op.call { callee := Callee.value (Operand.func 97), args := #[Operand.tmp 7], argTypes := #[29] }, type := 29, pos := "sub.go:53", after := #[{ on := 4, ground := Ground.data }, { on := 2, ground := Ground.chain }], guard := none }) rfl (fun K hK => ?_) AllReadyH.nil
            · skip
              refine stepCall1 ?_ 97 (.tmp 7) #[29] ?_ (.slice a2 n2 c2) ?_ ?_ (ent_norm _ _) ?_
              · rfl
              · rfl
              · rfl
              · rfl
              refine (K2.out _ U31).mono ?_
              rintro o x33 ⟨r2, rfl, g2, u33⟩
              obtain ⟨p2, q2, hr2⟩ := g2.len'
              subst hr2
              refine ⟨_, rfl, ?_⟩
              have U33 := U31.trans u33
              replace g1 := g1.old u33
              replace g2 := g2.mono' U31.size
              refine hK.out _ _ trivial (fun _ => ?_)
              clear hK K
              (try simp only [Act.put]); (try simp only [List.setIfInBounds_toArray]); (try simp only [List.set_cons_succ]); (try simp only [List.set_cons_zero])
              refine wpAnyH_ready (rs := [8]) (by kernel_rfl) (by simp) ?_
              refine AllReadyH.cons (o := { dst := some 11, op := Op.call { callee := Callee.value (Operand.func 96), args := #[Operand.tmp 10], argTypes := #[28] }, type := 28, pos := "sub.go:53", after := #[{ on := 7, ground := Ground.data }, { on := 5, ground := Ground.chain }], guard := none }) rfl (fun K hK => ?_) AllReadyH.nil
              · skip
                refine stepCall1 ?_ 96 (.tmp 10) #[28] ?_ (.slice a3 n3 c3) ?_ ?_ (ent_sort _ _) ?_
                · rfl
                · rfl
                · rfl
                · rfl
                refine (K3.out _ U33).mono ?_
                rintro o x34 ⟨r3, rfl, g3, u34⟩
                obtain ⟨p3, q3, hr3⟩ := g3.len'
                subst hr3
                refine ⟨_, rfl, ?_⟩
                have U34 := U33.trans u34
                replace g1 := g1.old u34
                replace g2 := g2.old u34
                replace g3 := g3.mono' U33.size
                refine hK.out _ _ trivial (fun _ => ?_)
                clear hK K
                (try simp only [Act.put]); (try simp only [List.setIfInBounds_toArray]); (try simp only [List.set_cons_succ]); (try simp only [List.set_cons_zero])
                refine wpAnyH_ready (rs := [10]) (by kernel_rfl) (by simp) ?_
                refine AllReadyH.cons (o := { dst := none, op := Op.store 28 (Operand.tmp 12) (Operand.tmp 5), type := 0, pos := "sub.go:53", after := #[{ on := 9, ground := Ground.data }, { on := 2, ground := Ground.data }, { on := 8, ground := Ground.chain }, { on := 0, ground := Ground.phase }, { on := 1, ground := Ground.phase }, { on := 2, ground := Ground.phase }, { on := 3, ground := Ground.phase }, { on := 4, ground := Ground.phase }, { on := 5, ground := Ground.textOnly Departure.lateStoresUnsure }, { on := 6, ground := Ground.phase }, { on := 7, ground := Ground.phase }, { on := 8, ground := Ground.textOnly Departure.lateStoresUnsure }], guard := none }) rfl (fun K hK => ?_) AllReadyH.nil
                · skip
                  refine stepStoreFL ?_ (.tmp 12) (.tmp 5) ?_ m 3 p1 L1.length q1 ?_ ?_ (HT0.out _ U34).t3 ?_
                  · rfl
                  · rfl
                  · rfl
                  · rfl
                  refine hK.out _ _ trivial (fun _ => ?_)
                  clear hK K
                  (try simp only [Act.put]); (try simp only [List.setIfInBounds_toArray]); (try simp only [List.set_cons_succ]); (try simp only [List.set_cons_zero])
                  refine wpAnyH_take (i := 11) (oi := { dst := some 13, op := Op.fieldAddr 31 (Operand.tmp 1) 4, type := 0, pos := "sub.go:53", after := #[{ on := 0, ground := Ground.phase }, { on := 1, ground := Ground.phase }, { on := 2, ground := Ground.phase }, { on := 3, ground := Ground.phase }, { on := 4, ground := Ground.phase }, { on := 5, ground := Ground.phase }, { on := 6, ground := Ground.phase }, { on := 7, ground := Ground.phase }, { on := 8, ground := Ground.textOnly Departure.lateStoresUnsure }, { on := 9, ground := Ground.phase }, { on := 10, ground := Ground.phase }], guard := none }) (v := ?vk35) rfl (by kernel_rfl) (by kernel_rfl) (by kernel_rfl) (fun _ _ _ h => h) (Or.inl ⟨by rfl, ?hk35⟩) trivial ?rk35
                  case hk35 => (intro wz hSw; (try dsimp only at hSw); go_simp; try with_reducible rfl)
                  (try simp only [Act.put]); (try simp only [List.setIfInBounds_toArray]); (try simp only [List.set_cons_succ]); (try simp only [List.set_cons_zero])
                  refine wpAnyH_ready (rs := [12]) (by kernel_rfl) (by simp) ?_
                  refine AllReadyH.cons (o := { dst := none, op := Op.store 29 (Operand.tmp 13) (Operand.tmp 8), type := 0, pos := "sub.go:53", after := #[{ on := 11, ground := Ground.data }, { on := 5, ground := Ground.data }, { on := 10, ground := Ground.chain }, { on := 0, ground := Ground.phase }, { on := 1, ground := Ground.phase }, { on := 2, ground := Ground.phase }, { on := 3, ground := Ground.phase }, { on := 4, ground := Ground.phase }, { on := 5, ground := Ground.phase }, { on := 6, ground := Ground.phase }, { on := 7, ground := Ground.phase }, { on := 8, ground := Ground.textOnly Departure.lateStoresUnsure }, { on := 9, ground := Ground.phase }, { on := 10, ground := Ground.phase }], guard := none }) rfl (fun K hK => ?_) AllReadyH.nil
                  · skip
                    refine stepStoreSL ?_ (.tmp 13) (.tmp 8) ?_ m 4 p2 L2.length q2 ?_ ?_ ((HT0.out _ U34).set _ _).t4 ?_
                    · rfl
                    · rfl
                    · rfl
                    · rfl
                    refine hK.out _ _ trivial (fun _ => ?_)
                    clear hK K
                    (try simp only [Act.put]); (try simp only [List.setIfInBounds_toArray]); (try simp only [List.set_cons_succ]); (try simp only [List.set_cons_zero])
                    refine wpAnyH_take (i := 13) (oi := { dst := some 14, op := Op.fieldAddr 31 (Operand.tmp 1) 5, type := 0, pos := "sub.go:53", after := #[{ on := 0, ground := Ground.phase }, { on := 1, ground := Ground.phase }, { on := 2, ground := Ground.phase }, { on := 3, ground := Ground.phase }, { on := 4, ground := Ground.phase }, { on := 5, ground := Ground.phase }, { on := 6, ground := Ground.phase }, { on := 7, ground := Ground.phase }, { on := 8, ground := Ground.phase }, { on := 9, ground := Ground.phase }, { on := 10, ground := Ground.phase }, { on := 11, ground := Ground.phase }, { on := 12, ground := Ground.phase }], guard := none }) (v := ?vk36) rfl (by kernel_rfl) (by kernel_rfl) (by kernel_rfl) (fun _ _ _ h => h) (Or.inl ⟨by rfl, ?hk36⟩) trivial ?rk36
                    case hk36 => (intro wz hSw; (try dsimp only at hSw); go_simp; try with_reducible rfl)
                    (try simp only [Act.put]); (try simp only [List.setIfInBounds_toArray]); (try simp only [List.set_cons_succ]); (try simp only [List.set_cons_zero])
                    refine wpAnyH_ready (rs := [14]) (by kernel_rfl) (by simp) ?_
                    refine AllReadyH.cons (o := { dst := none, op := Op.store 28 (Operand.tmp 14) (Operand.tmp 11), type := 0, pos := "sub.go:53", after := #[{ on := 13, ground := Ground.data }, { on := 8, ground := Ground.data }, { on := 12, ground := Ground.chain }, { on := 0, ground := Ground.phase }, { on := 1, ground := Ground.phase }, { on := 2, ground := Ground.phase }, { on := 3, ground := Ground.phase }, { on := 4, ground := Ground.phase }, { on := 5, ground := Ground.phase }, { on := 6, ground := Ground.phase }, { on := 7, ground := Ground.phase }, { on := 8, ground := Ground.phase }, { on := 9, ground := Ground.phase }, { on := 10, ground := Ground.phase }, { on := 11, ground := Ground.phase }, { on := 12, ground := Ground.phase }], guard := none }) rfl (fun K hK => ?_) AllReadyH.nil
                    · skip
                      refine stepStoreFL ?_ (.tmp 14) (.tmp 11) ?_ m 5 p3 L3.length q3 ?_ ?_ (((HT0.out _ U34).set _ _).set _ _).t5 ?_
                      · rfl
                      · rfl
                      · rfl
                      · rfl
                      refine hK.out _ _ trivial (fun _ => ?_)
                      clear hK K
                      (try simp only [Act.put]); (try simp only [List.setIfInBounds_toArray]); (try simp only [List.set_cons_succ]); (try simp only [List.set_cons_zero])
                      refine wpAnyH_done (by kernel_rfl) ?_ _
                      refine NoPanic.normal ?_
                      go_wp2_with fail
                      go_meet
                      case rel => exact ⟨_, _, _, _, _, _, SubAt.set3 (HS1.out _ U34) _ _ _, g1.set3 hmb _ _ _, g2.set3 hmb _ _ _, g3.set3 hmb _ _ _, HUm.out _ _ _ (HUm.out _ _ _ (HUm.out _ _ _ (U0.trans U34))), HRet.out _ U34 _ _ _⟩
      · skip
        refine stepLoadFL ?_ (.tmp 9) ?_ m 5 a3 n3 c3 ?_ (HS0.out _ ((Old.refl w0).drew)).2.2 ?_
        · rfl
        · rfl
        · rfl
        refine hK.out _ _ trivial (fun _ => ?_)
        clear hK K
        (try simp only [Act.put]); (try simp only [List.setIfInBounds_toArray]); (try simp only [List.set_cons_succ]); (try simp only [List.set_cons_zero])
        refine wpAnyH_ready (rs := [2, 4]) (by kernel_rfl) (by simp) ?_
        refine AllReadyH.cons (o := { dst := some 5, op := Op.call { callee := Callee.value (Operand.func 96), args := #[Operand.tmp 4], argTypes := #[28] }, type := 28, pos := "sub.go:53", after := #[{ on := 1, ground := Ground.data }], guard := none }) rfl (fun K hK => ?_) (AllReadyH.cons (o := { dst := some 7, op := Op.load 29 (Operand.tmp 6), type := 29, pos := "sub.go:53", after := #[{ on := 3, ground := Ground.data }], guard := none }) rfl (fun K hK => ?_) AllReadyH.nil)
        · skip
          refine stepCall1 ?_ 96 (.tmp 4) #[28] ?_ (.slice a1 n1 c1) ?_ ?_ (ent_sort _ _) ?_
          · rfl
          · rfl
          · rfl
          · rfl
          refine (K1.out _ ((Old.refl w0).drew)).mono ?_
          rintro o x37 ⟨r1, rfl, g1, u37⟩
          obtain ⟨p1, q1, hr1⟩ := g1.len'
          subst hr1
          refine ⟨_, rfl, ?_⟩
          have U37 := ((Old.refl w0).drew).trans u37
          replace g1 := g1.mono' ((Old.refl w0).drew).size
          refine hK.out _ _ trivial (fun _ => ?_)
          clear hK K
          (try simp only [Act.put]); (try simp only [List.setIfInBounds_toArray]); (try simp only [List.set_cons_succ]); (try simp only [List.set_cons_zero])
          refine wpAnyH_ready (rs := [4]) (by kernel_rfl) (by simp) ?_
          refine AllReadyH.cons (o := { dst := some 7, op := Op.load 29 (Operand.tmp 6), type := 29, pos := "sub.go:53", after := #[{ on := 3, ground := Ground.data }], guard := none }) rfl (fun K hK => ?_) AllReadyH.nil
          · skip
            refine stepLoadSL ?_ (.tmp 6) ?_ m 4 a2 n2 c2 ?_ (HS0.out _ U37).2.1 ?_
            · rfl
            · rfl
            · rfl
            refine hK.out _ _ trivial (fun _ => ?_)
            clear hK K
            (try simp only [Act.put]); (try simp only [List.setIfInBounds_toArray]); (try simp only [List.set_cons_succ]); (try simp only [List.set_cons_zero])
            refine wpAnyH_take (i := 9) (oi := { dst := some 12, op := Op.fieldAddr 31 (Operand.tmp 1) 3, type := 0, pos := "sub.go:53", after := #[{ on := 0, ground := Ground.phase }, { on := 1, ground := Ground.phase }, { on := 2, ground := Ground.phase }, { on := 3, ground := Ground.phase }, { on := 4, ground := Ground.phase }, { on := 5, ground := Ground.textOnly Departure.lateStoresUnsure }, { on := 6, ground := Ground.phase }, { on := 7, ground := Ground.phase }, { on := 8, ground := Ground.textOnly Departure.lateStoresUnsure }], guard := none }) (v := ?vk38) rfl (by kernel_rfl) (by kernel_rfl) (by kernel_rfl) (fun _ _ _ h => h) (Or.inl ⟨by rfl, ?hk38⟩) trivial ?rk38
            case hk38 => (intro wz hSw; (try dsimp only at hSw); go_simp; try with_reducible rfl)
            (try simp only [Act.put]); (try simp only [List.setIfInBounds_toArray]); (try simp only [List.set_cons_succ]); (try simp only [List.set_cons_zero])
            refine wpAnyH_ready (rs := [5]) (by kernel_rfl) (by simp) ?_
            refine AllReadyH.cons (o := { dst := some 8, op := Op.call { callee := Callee.value (Operand.func 97), args := #[Operand.tmp 7], argTypes := #[29] }, type := 29, pos := "sub.go:53", after := #[{ on := 4, ground := Ground.data }, { on := 2, ground := Ground.chain }], guard := none }) rfl (fun K hK => ?_) AllReadyH.nil
            · skip
              refine stepCall1 ?_ 97 (.tmp 7) #[29] ?_ (.slice a2 n2 c2) ?_ ?_ (ent_norm _ _) ?_
              · rfl
              · rfl
              · rfl
              · rfl
              refine (K2.out _ U37).mono ?_
              rintro o x39 ⟨r2, rfl, g2, u39⟩
              obtain ⟨p2, q2, hr2⟩ := g2.len'
              subst hr2
              refine ⟨_, rfl, ?_⟩
              have U39 := U37.trans u39
              replace g1 := g1.old u39
              replace g2 := g2.mono' U37.size
              refine hK.out _ _ trivial (fun _ => ?_)
              clear hK K
              (try simp only [Act.put]); (try simp only [List.setIfInBounds_toArray]); (try simp only [List.set_cons_succ]); (try simp only [List.set_cons_zero])
              refine wpAnyH_ready (rs := [8]) (by kernel_rfl) (by simp) ?_
              refine AllReadyH.cons (o := { dst := some 11, op := Op.call { callee := Callee.value (Operand.func 96), args := #[Operand.tmp 10], argTypes := #[28] }, type := 28, pos := "sub.go:53", after := #[{ on := 7, ground := Ground.data }, { on := 5, ground := Ground.chain }], guard := none }) rfl (fun K hK => ?_) AllReadyH.nil
              · skip
                refine stepCall1 ?_ 96 (.tmp 10) #[28] ?_ (.slice a3 n3 c3) ?_ ?_ (ent_sort _ _) ?_
                · rfl
                · rfl
                · rfl
                · rfl
                refine (K3.out _ U39).mono ?_
                rintro o x40 ⟨r3, rfl, g3, u40⟩
                obtain ⟨p3, q3, hr3⟩ := g3.len'
                subst hr3
                refine ⟨_, rfl, ?_⟩
                have U40 := U39.trans u40
                replace g1 := g1.old u40
                replace g2 := g2.old u40
                replace g3 := g3.mono' U39.size
                refine hK.out _ _ trivial (fun _ => ?_)
                clear hK K
                (try simp only [Act.put]); (try simp only [List.setIfInBounds_toArray]); (try simp only [List.set_cons_succ]); (try simp only [List.set_cons_zero])
                refine wpAnyH_ready (rs := [10]) (by kernel_rfl) (by simp) ?_
                refine AllReadyH.cons (o := { dst := none, op := Op.store 28 (Operand.tmp 12) (Operand.tmp 5), type := 0, pos := "sub.go:53", after := #[{ on := 9, ground := Ground.data }, { on := 2, ground := Ground.data }, { on := 8, ground := Ground.chain }, { on := 0, ground := Ground.phase }, { on := 1, ground := Ground.phase }, { on := 2, ground := Ground.phase }, { on := 3, ground := Ground.phase }, { on := 4, ground := Ground.phase }, { on := 5, ground := Ground.textOnly Departure.lateStoresUnsure }, { on := 6, ground := Ground.phase }, { on := 7, ground := Ground.phase }, { on := 8, ground := Ground.textOnly Departure.lateStoresUnsure }], guard := none }) rfl (fun K hK => ?_) AllReadyH.nil
                · skip
                  refine stepStoreFL ?_ (.tmp 12) (.tmp 5) ?_ m 3 p1 L1.length q1 ?_ ?_ (HT0.out _ U40).t3 ?_
                  · rfl
                  · rfl
                  · rfl
                  · rfl
                  refine hK.out _ _ trivial (fun _ => ?_)
                  clear hK K
                  (try simp only [Act.put]); (try simp only [List.setIfInBounds_toArray]); (try simp only [List.set_cons_succ]); (try simp only [List.set_cons_zero])
                  refine wpAnyH_take (i := 11) (oi := { dst := some 13, op := Op.fieldAddr 31 (Operand.tmp 1) 4, type := 0, pos := "sub.go:53", after := #[{ on := 0, ground := Ground.phase }, { on := 1, ground := Ground.phase }, { on := 2, ground := Ground.phase }, { on := 3, ground := Ground.phase }, { on := 4, ground := Ground.phase }, { on := 5, ground := Ground.phase }, { on := 6, ground := Ground.phase }, { on := 7, ground := Ground.phase }, { on := 8, ground := Ground.textOnly Departure.lateStoresUnsure }, { on := 9, ground := Ground.phase }, { on := 10, ground := Ground.phase }], guard := none }) (v := ?vk41) rfl (by kernel_rfl) (by kernel_rfl) (by kernel_rfl) (fun _ _ _ h => h) (Or.inl ⟨by rfl, ?hk41⟩) trivial ?rk41
                  case hk41 => (intro wz hSw; (try dsimp only at hSw); go_simp; try with_reducible rfl)
                  (try simp only [Act.put]); (try simp only [List.setIfInBounds_toArray]); (try simp only [List.set_cons_succ]); (try simp only [List.set_cons_zero])
                  refine wpAnyH_ready (rs := [12]) (by kernel_rfl) (by simp) ?_
                  refine AllReadyH.cons (o := { dst := none, op := Op.store 29 (Operand.tmp 13) (Operand.tmp 8), type := 0, pos := "sub.go:53", after := #[{ on := 11, ground := Ground.data }, { on := 5, ground := Ground.data }, { on := 10, ground := Ground.chain }, { on := 0, ground := Ground.phase }, { on := 1, ground := Ground.phase }, { on := 2, ground := Ground.phase }, { on := 3, ground := Ground.phase }, { on := 4, ground := Ground.phase }, { on := 5, ground := Ground.phase }, { on := 6, ground := Ground.phase }, { on := 7, ground := Ground.phase }, { on := 8, ground := Ground.textOnly Departure.lateStoresUnsure }, { on := 9, ground := Ground.phase }, { on := 10, ground := Ground.phase }], guard := none }) rfl (fun K hK => ?_) AllReadyH.nil
                  · skip
                    refine stepStoreSL ?_ (.tmp 13) (.tmp 8) ?_ m 4 p2 L2.length q2 ?_ ?_ ((HT0.out _ U40).set _ _).t4 ?_
                    · rfl
                    · rfl
                    · rfl
                    · rfl
                    refine hK.out _ _ trivial (fun _ => ?_)
                    clear hK K
                    (try simp only [Act.put]); (try simp only [List.setIfInBounds_toArray]); (try simp only [List.set_cons_succ]); (try simp only [List.set_cons_zero])
                    refine wpAnyH_take (i := 13) (oi := { dst := some 14, op := Op.fieldAddr 31 (Operand.tmp 1) 5, type := 0, pos := "sub.go:53", after := #[{ on := 0, ground := Ground.phase }, { on := 1, ground := Ground.phase }, { on := 2, ground := Ground.phase }, { on := 3, ground := Ground.phase }, { on := 4, ground := Ground.phase }, { on := 5, ground := Ground.phase }, { on := 6, ground := Ground.phase }, { on := 7, ground := Ground.phase }, { on := 8, ground := Ground.phase }, { on := 9, ground := Ground.phase }, { on := 10, ground := Ground.phase }, { on := 11, ground := Ground.phase }, { on := 12, ground := Ground.phase }], guard := none }) (v := ?vk42) rfl (by kernel_rfl) (by kernel_rfl) (by kernel_rfl) (fun _ _ _ h => h) (Or.inl ⟨by rfl, ?hk42⟩) trivial ?rk42
                    case hk42 => (intro wz hSw; (try dsimp only at hSw); go_simp; try with_reducible rfl)
                    (try simp only [Act.put]); (try simp only [List.setIfInBounds_toArray]); (try simp only [List.set_cons_succ]); (try simp only [List.set_cons_zero])
                    refine wpAnyH_ready (rs := [14]) (by kernel_rfl) (by simp) ?_
                    refine AllReadyH.cons (o := { dst := none, op := Op.store 28 (Operand.tmp 14) (Operand.tmp 11), type := 0, pos := "sub.go:53", after := #[{ on := 13, ground := Ground.data }, { on := 8, ground := Ground.data }, { on := 12, ground := Ground.chain }, { on := 0, ground := Ground.phase }, { on := 1, ground := Ground.phase }, { on := 2, ground := Ground.phase }, { on := 3, ground := Ground.phase }, { on := 4, ground := Ground.phase }, { on := 5, ground := Ground.phase }, { on := 6, ground := Ground.phase }, { on := 7, ground := Ground.phase }, { on := 8, ground := Ground.phase }, { on := 9, ground := Ground.phase }, { on := 10, ground := Ground.phase }, { on := 11, ground := Ground.phase }, { on := 12, ground := Ground.phase }], guard := none }) rfl (fun K hK => ?_) AllReadyH.nil
                    · skip
                      refine stepStoreFL ?_ (.tmp 14) (.tmp 11) ?_ m 5 p3 L3.length q3 ?_ ?_ (((HT0.out _ U40).set _ _).set _ _).t5 ?_
                      · rfl
                      · rfl
                      · rfl
                      · rfl
                      refine hK.out _ _ trivial (fun _ => ?_)
                      clear hK K
                      (try simp only [Act.put]); (try simp only [List.setIfInBounds_toArray]); (try simp only [List.set_cons_succ]); (try simp only [List.set_cons_zero])
                      refine wpAnyH_done (by kernel_rfl) ?_ _
                      refine NoPanic.normal ?_
                      go_wp2_with fail
                      go_meet
                      case rel => exact ⟨_, _, _, _, _, _, SubAt.set3 (HS1.out _ U40) _ _ _, g1.set3 hmb _ _ _, g2.set3 hmb _ _ _, g3.set3 hmb _ _ _, HUm.out _ _ _ (HUm.out _ _ _ (HUm.out _ _ _ (U0.trans U40))), HRet.out _ U40 _ _ _⟩
        · skip
          refine stepLoadSL ?_ (.tmp 6) ?_ m 4 a2 n2 c2 ?_ (HS0.out _ ((Old.refl w0).drew)).2.1 ?_
          · rfl
          · rfl
          · rfl
          refine hK.out _ _ trivial (fun _ => ?_)
          clear hK K
          (try simp only [Act.put]); (try simp only [List.setIfInBounds_toArray]); (try simp only [List.set_cons_succ]); (try simp only [List.set_cons_zero])
          refine wpAnyH_ready (rs := [2]) (by kernel_rfl) (by simp) ?_
          refine AllReadyH.cons (o := { dst := some 5, op := Op.call { callee := Callee.value (Operand.func 96), args := #[Operand.tmp 4], argTypes := #[28] }, type := 28, pos := "sub.go:53", after := #[{ on := 1, ground := Ground.data }], guard := none }) rfl (fun K hK => ?_) AllReadyH.nil
          · skip
            refine stepCall1 ?_ 96 (.tmp 4) #[28] ?_ (.slice a1 n1 c1) ?_ ?_ (ent_sort _ _) ?_
            · rfl
            · rfl
            · rfl
            · rfl
            refine (K1.out _ ((Old.refl w0).drew)).mono ?_
            rintro o x43 ⟨r1, rfl, g1, u43⟩
            obtain ⟨p1, q1, hr1⟩ := g1.len'
            subst hr1
            refine ⟨_, rfl, ?_⟩
            have U43 := ((Old.refl w0).drew).trans u43
            replace g1 := g1.mono' ((Old.refl w0).drew).size
            refine hK.out _ _ trivial (fun _ => ?_)
            clear hK K
            (try simp only [Act.put]); (try simp only [List.setIfInBounds_toArray]); (try simp only [List.set_cons_succ]); (try simp only [List.set_cons_zero])
            refine wpAnyH_take (i := 9) (oi := { dst := some 12, op := Op.fieldAddr 31 (Operand.tmp 1) 3, type := 0, pos := "sub.go:53", after := #[{ on := 0, ground := Ground.phase }, { on := 1, ground := Ground.phase }, { on := 2, ground := Ground.phase }, { on := 3, ground := Ground.phase }, { on := 4, ground := Ground.phase }, { on := 5, ground := Ground.textOnly Departure.lateStoresUnsure }, { on := 6, ground := Ground.phase }, { on := 7, ground := Ground.phase }, { on := 8, ground := Ground.textOnly Departure.lateStoresUnsure }], guard := none }) (v := ?vk44) rfl (by kernel_rfl) (by kernel_rfl) (by kernel_rfl) (fun _ _ _ h => h) (Or.inl ⟨by rfl, ?hk44⟩) trivial ?rk44
            case hk44 => (intro wz hSw; (try dsimp only at hSw); go_simp; try with_reducible rfl)
            (try simp only [Act.put]); (try simp only [List.setIfInBounds_toArray]); (try simp only [List.set_cons_succ]); (try simp only [List.set_cons_zero])
            refine wpAnyH_ready (rs := [5]) (by kernel_rfl) (by simp) ?_
            refine AllReadyH.cons (o := { dst := some 8, op := Op.call { callee := Callee.value (Operand.func 97), args := #[Operand.tmp 7], argTypes := #[29] }, type := 29, pos := "sub.go:53", after := #[{ on := 4, ground := Ground.data }, { on := 2, ground := Ground.chain }], guard := none }) rfl (fun K hK => ?_) AllReadyH.nil
            · skip
              refine stepCall1 ?_ 97 (.tmp 7) #[29] ?_ (.slice a2 n2 c2) ?_ ?_ (ent_norm _ _) ?_
              · rfl
              · rfl
              · rfl
              · rfl
              refine (K2.out _ U43).mono ?_
              rintro o x45 ⟨r2, rfl, g2, u45⟩
              obtain ⟨p2, q2, hr2⟩ := g2.len'
              subst hr2
              refine ⟨_, rfl, ?_⟩
              have U45 := U43.trans u45
              replace g1 := g1.old u45
              replace g2 := g2.mono' U43.size
              refine hK.out _ _ trivial (fun _ => ?_)
              clear hK K
              (try simp only [Act.put]); (try simp only [List.setIfInBounds_toArray]); (try simp only [List.set_cons_succ]); (try simp only [List.set_cons_zero])
              refine wpAnyH_ready (rs := [8]) (by kernel_rfl) (by simp) ?_
              refine AllReadyH.cons (o := { dst := some 11, op := Op.call { callee := Callee.value (Operand.func 96), args := #[Operand.tmp 10], argTypes := #[28] }, type := 28, pos := "sub.go:53", after := #[{ on := 7, ground := Ground.data }, { on := 5, ground := Ground.chain }], guard := none }) rfl (fun K hK => ?_) AllReadyH.nil
              · skip
                refine stepCall1 ?_ 96 (.tmp 10) #[28] ?_ (.slice a3 n3 c3) ?_ ?_ (ent_sort _ _) ?_
                · rfl
                · rfl
                · rfl
                · rfl
                refine (K3.out _ U45).mono ?_
                rintro o x46 ⟨r3, rfl, g3, u46⟩
                obtain ⟨p3, q3, hr3⟩ := g3.len'
                subst hr3
                refine ⟨_, rfl, ?_⟩
                have U46 := U45.trans u46
                replace g1 := g1.old u46
                replace g2 := g2.old u46
                replace g3 := g3.mono' U45.size
                refine hK.out _ _ trivial (fun _ => ?_)
                clear hK K
                (try simp only [Act.put]); (try simp only [List.setIfInBounds_toArray]); (try simp only [List.set_cons_succ]); (try simp only [List.set_cons_zero])
                refine wpAnyH_ready (rs := [10]) (by kernel_rfl) (by simp) ?_
                refine AllReadyH.cons (o := { dst := none, op := Op.store 28 (Operand.tmp 12) (Operand.tmp 5), type := 0, pos := "sub.go:53", after := #[{ on := 9, ground := Ground.data }, { on := 2, ground := Ground.data }, { on := 8, ground := Ground.chain }, { on := 0, ground := Ground.phase }, { on := 1, ground := Ground.phase }, { on := 2, ground := Ground.phase }, { on := 3, ground := Ground.phase }, { on := 4, ground := Ground.phase }, { on := 5, ground := Ground.textOnly Departure.lateStoresUnsure }, { on := 6, ground := Ground.phase }, { on := 7, ground := Ground.phase }, { on := 8, ground := Ground.textOnly Departure.lateStoresUnsure }], guard := none }) rfl (fun K hK => ?_) AllReadyH.nil
                · skip
                  refine stepStoreFL ?_ (.tmp 12) (.tmp 5) ?_ m 3 p1 L1.length q1 ?_ ?_ (HT0.out _ U46).t3 ?_
                  · rfl
                  · rfl
                  · rfl
                  · rfl
                  refine hK.out _ _ trivial (fun _ => ?_)
                  clear hK K
                  (try simp only [Act.put]); (try simp only [List.setIfInBounds_toArray]); (try simp only [List.set_cons_succ]); (try simp only [List.set_cons_zero])
                  refine wpAnyH_take (i := 11) (oi := { dst := some 13, op := Op.fieldAddr 31 (Operand.tmp 1) 4, type := 0, pos := "sub.go:53", after := #[{ on := 0, ground := Ground.phase }, { on := 1, ground := Ground.phase }, { on := 2, ground := Ground.phase }, { on := 3, ground := Ground.phase }, { on := 4, ground := Ground.phase }, { on := 5, ground := Ground.phase }, { on := 6, ground := Ground.phase }, { on := 7, ground := Ground.phase }, { on := 8, ground := Ground.textOnly Departure.lateStoresUnsure }, { on := 9, ground := Ground.phase }, { on := 10, ground := Ground.phase }], guard := none }) (v := ?vk47) rfl (by kernel_rfl) (by kernel_rfl) (by kernel_rfl) (fun _ _ _ h => h) (Or.inl ⟨by rfl, ?hk47⟩) trivial ?rk47
                  case hk47 => (intro wz hSw; (try dsimp only at hSw); go_simp; try with_reducible rfl)
                  (try simp only [Act.put]); (try simp only [List.setIfInBounds_toArray]); (try simp only [List.set_cons_succ]); (try simp only [List.set_cons_zero])
                  refine wpAnyH_ready (rs := [12]) (by kernel_rfl) (by simp) ?_
                  refine AllReadyH.cons (o := { dst := none, op := Op.store 29 (Operand.tmp 13) (Operand.tmp 8), type := 0, pos := "sub.go:53", after := #[{ on := 11, ground := Ground.data }, { on := 5, ground := Ground.data }, { on := 10, ground := Ground.chain }, { on := 0, ground := Ground.phase }, { on := 1, ground := Ground.phase }, { on := 2, ground := Ground.phase }, { on := 3, ground := Ground.phase }, { on := 4, ground := Ground.phase }, { on := 5, ground := Ground.phase }, { on := 6, ground := Ground.phase }, { on := 7, ground := Ground.phase }, { on := 8, ground := Ground.textOnly Departure.lateStoresUnsure }, { on := 9, ground := Ground.phase }, { on := 10, ground := Ground.phase }], guard := none }) rfl (fun K hK => ?_) AllReadyH.nil
                  · skip
                    refine stepStoreSL ?_ (.tmp 13) (.tmp 8) ?_ m 4 p2 L2.length q2 ?_ ?_ ((HT0.out _ U46).set _ _).t4 ?_
                    · rfl
                    · rfl
                    · rfl
                    · rfl
                    refine hK.out _ _ trivial (fun _ => ?_)
                    clear hK K
                    (try simp only [Act.put]); (try simp only [List.setIfInBounds_toArray]); (try simp only [List.set_cons_succ]); (try simp only [List.set_cons_zero])
                    refine wpAnyH_take (i := 13) (oi := { dst := some 14, op := Op.fieldAddr 31 (Operand.tmp 1) 5, type := 0, pos := "sub.go:53", after := #[{ on := 0, ground := Ground.phase }, { on := 1, ground := Ground.phase }, { on := 2, ground := Ground.phase }, { on := 3, ground := Ground.phase }, { on := 4, ground := Ground.phase }, { on := 5, ground := Ground.phase }, { on := 6, ground := Ground.phase }, { on := 7, ground := Ground.phase }, { on := 8, ground := Ground.phase }, { on := 9, ground := Ground.phase }, { on := 10, ground := Ground.phase }, { on := 11, ground := Ground.phase }, { on := 12, ground := Ground.phase }], guard := none }) (v := ?vk48) rfl (by kernel_rfl) (by kernel_rfl) (by kernel_rfl) (fun _ _ _ h => h) (Or.inl ⟨by rfl, ?hk48⟩) trivial ?rk48
                    case hk48 => (intro wz hSw; (try dsimp only at hSw); go_simp; try with_reducible rfl)
                    (try simp only [Act.put]); (try simp only [List.setIfInBounds_toArray]); (try simp only [List.set_cons_succ]); (try simp only [List.set_cons_zero])
                    refine wpAnyH_ready (rs := [14]) (by kernel_rfl) (by simp) ?_
                    refine AllReadyH.cons (o := { dst := none, op := Op.store 28 (Operand.tmp 14) (Operand.tmp 11), type := 0, pos := "sub.go:53", after := #[{ on := 13, ground := Ground.data }, { on := 8, ground := Ground.data }, { on := 12, ground := Ground.chain }, { on := 0, ground := Ground.phase }, { on := 1, ground := Ground.phase }, { on := 2, ground := Ground.phase }, { on := 3, ground := Ground.phase }, { on := 4, ground := Ground.phase }, { on := 5, ground := Ground.phase }, { on := 6, ground := Ground.phase }, { on := 7, ground := Ground.phase }, { on := 8, ground := Ground.phase }, { on := 9, ground := Ground.phase }, { on := 10, ground := Ground.phase }, { on := 11, ground := Ground.phase }, { on := 12, ground := Ground.phase }], guard := none }) rfl (fun K hK => ?_) AllReadyH.nil
                    · skip
                      refine stepStoreFL ?_ (.tmp 14) (.tmp 11) ?_ m 5 p3 L3.length q3 ?_ ?_ (((HT0.out _ U46).set _ _).set _ _).t5 ?_
                      · rfl
                      · rfl
                      · rfl
                      · rfl
                      refine hK.out _ _ trivial (fun _ => ?_)
                      clear hK K
                      (try simp only [Act.put]); (try simp only [List.setIfInBounds_toArray]); (try simp only [List.set_cons_succ]); (try simp only [List.set_cons_zero])
                      refine wpAnyH_done (by kernel_rfl) ?_ _
                      refine NoPanic.normal ?_
                      go_wp2_with fail
                      go_meet
                      case rel => exact ⟨_, _, _, _, _, _, SubAt.set3 (HS1.out _ U46) _ _ _, g1.set3 hmb _ _ _, g2.set3 hmb _ _ _, g3.set3 hmb _ _ _, HUm.out _ _ _ (HUm.out _ _ _ (HUm.out _ _ _ (U0.trans U46))), HRet.out _ U46 _ _ _⟩
    · skip
      refine stepLoadSL ?_ (.tmp 6) ?_ m 4 a2 n2 c2 ?_ (HS0.out _ ((Old.refl w0).drew)).2.1 ?_
      · rfl
      · rfl
      · rfl
      refine hK.out _ _ trivial (fun _ => ?_)
      clear hK K
      (try simp only [Act.put]); (try simp only [List.setIfInBounds_toArray]); (try simp only [List.set_cons_succ]); (try simp only [List.set_cons_zero])
      refine wpAnyH_ready (rs := [1, 7]) (by kernel_rfl) (by simp) ?_
      refine AllReadyH.cons (o := { dst := some 4, op := Op.load 28 (Operand.tmp 3), type := 28, pos := "sub.go:53", after := #[{ on := 0, ground := Ground.data }], guard := none }) rfl (fun K hK => ?_) (AllReadyH.cons (o := { dst := some 10, op := Op.load 28 (Operand.tmp 9), type := 28, pos := "sub.go:53", after := #[{ on := 6, ground := Ground.data }], guard := none }) rfl (fun K hK => ?_) AllReadyH.nil)
      · skip
        refine stepLoadFL ?_ (.tmp 3) ?_ m 3 a1 n1 c1 ?_ (HS0.out _ ((Old.refl w0).drew)).1 ?_
        · rfl
        · rfl
        · rfl
        refine hK.out _ _ trivial (fun _ => ?_)
        clear hK K
        (try simp only [Act.put]); (try simp only [List.setIfInBounds_toArray]); (try simp only [List.set_cons_succ]); (try simp only [List.set_cons_zero])
        refine wpAnyH_ready (rs := [2, 7]) (by kernel_rfl) (by simp) ?_
        refine AllReadyH.cons (o := { dst := some 5, op := Op.call { callee := Callee.value (Operand.func 96), args := #[Operand.tmp 4], argTypes := #[28] }, type := 28, pos := "sub.go:53", after := #[{ on := 1, ground := Ground.data }], guard := none }) rfl (fun K hK => ?_) (AllReadyH.cons (o := { dst := some 10, op := Op.load 28 (Operand.tmp 9), type := 28, pos := "sub.go:53", after := #[{ on := 6, ground := Ground.data }], guard := none }) rfl (fun K hK => ?_) AllReadyH.nil)
        · skip
          refine stepCall1 ?_ 96 (.tmp 4) #[28] ?_ (.slice a1 n1 c1) ?_ ?_ (ent_sort _ _) ?_
          · rfl
          · rfl
          · rfl
          · rfl
          refine (K1.out _ ((Old.refl w0).drew)).mono ?_
          rintro o x49 ⟨r1, rfl, g1, u49⟩
          obtain ⟨p1, q1, hr1⟩ := g1.len'
          subst hr1
          refine ⟨_, rfl, ?_⟩
          have U49 := ((Old.refl w0).drew).trans u49
          replace g1 := g1.mono' ((Old.refl w0).drew).size
          refine hK.out _ _ trivial (fun _ => ?_)
          clear hK K
          (try simp only [Act.put]); (try simp only [List.setIfInBounds_toArray]); (try simp only [List.set_cons_succ]); (try simp only [List.set_cons_zero])
          refine wpAnyH_ready (rs := [5, 7]) (by kernel_rfl) (by simp) ?_
          refine AllReadyH.cons (o := { dst := some 8, op := Op.call { callee := Callee.value (Operand.func 97), args := #[Operand.tmp 7], argTypes := #[29] }, type := 29, pos := "sub.go:53", after := #[{ on := 4, ground := Ground.data }, { on := 2, ground := Ground.chain }], guard := none }) rfl (fun K hK => ?_) (AllReadyH.cons (o := { dst := some 10, op := Op.load 28 (Operand.tmp 9), type := 28, pos := "sub.go:53", after := #[{ on := 6, ground := Ground.data }], guard := none }) rfl (fun K hK => ?_) AllReadyH.nil)
          · skip
            refine stepCall1 ?_ 97 (.tmp 7) #[29] ?_ (.slice a2 n2 c2) ?_ ?_ (ent_norm _ _) ?_
            · rfl
            · rfl
            · rfl
            · rfl
            refine (K2.out _ U49).mono ?_
            rintro o x50 ⟨r2, rfl, g2, u50⟩
            obtain ⟨p2, q2, hr2⟩ := g2.len'
            subst hr2
            refine ⟨_, rfl, ?_⟩
            have U50 := U49.trans u50
            replace g1 := g1.old u50
            replace g2 := g2.mono' U49.size
            refine hK.out _ _ trivial (fun _ => ?_)
            clear hK K
            (try simp only [Act.put]); (try simp only [List.setIfInBounds_toArray]); (try simp only [List.set_cons_succ]); (try simp only [List.set_cons_zero])
            refine wpAnyH_ready (rs := [7]) (by kernel_rfl) (by simp) ?_
            refine AllReadyH.cons (o := { dst := some 10, op := Op.load 28 (Operand.tmp 9), type := 28, pos := "sub.go:53", after := #[{ on := 6, ground := Ground.data }], guard := none }) rfl (fun K hK => ?_) AllReadyH.nil
            · skip
              refine stepLoadFL ?_ (.tmp 9) ?_ m 5 a3 n3 c3 ?_ (HS0.out _ U50).2.2 ?_
              · rfl
              · rfl
              · rfl
              refine hK.out _ _ trivial (fun _ => ?_)
              clear hK K
              (try simp only [Act.put]); (try simp only [List.setIfInBounds_toArray]); (try simp only [List.set_cons_succ]); (try simp only [List.set_cons_zero])
              refine wpAnyH_take (i := 9) (oi := { dst := some 12, op := Op.fieldAddr 31 (Operand.tmp 1) 3, type := 0, pos := "sub.go:53", after := #[{ on := 0, ground := Ground.phase }, { on := 1, ground := Ground.phase }, { on := 2, ground := Ground.phase }, { on := 3, ground := Ground.phase }, { on := 4, ground := Ground.phase }, { on := 5, ground := Ground.textOnly Departure.lateStoresUnsure }, { on := 6, ground := Ground.phase }, { on := 7, ground := Ground.phase }, { on := 8, ground := Ground.textOnly Departure.lateStoresUnsure }], guard := none }) (v := ?vk51) rfl (by kernel_rfl) (by kernel_rfl) (by kernel_rfl) (fun _ _ _ h => h) (Or.inl ⟨by rfl, ?hk51⟩) trivial ?rk51
              case hk51 => (intro wz hSw; (try dsimp only at hSw); go_simp; try with_reducible rfl)
              (try simp only [Act.put]); (try simp only [List.setIfInBounds_toArray]); (try simp only [List.set_cons_succ]); (try simp only [List.set_cons_zero])
              refine wpAnyH_ready (rs := [8]) (by kernel_rfl) (by simp) ?_
              refine AllReadyH.cons (o := { dst := some 11, op := Op.call { callee := Callee.value (Operand.func 96), args := #[Operand.tmp 10], argTypes := #[28] }, type := 28, pos := "sub.go:53", after := #[{ on := 7, ground := Ground.data }, { on := 5, ground := Ground.chain }], guard := none }) rfl (fun K hK => ?_) AllReadyH.nil
              · skip
                refine stepCall1 ?_ 96 (.tmp 10) #[28] ?_ (.slice a3 n3 c3) ?_ ?_ (ent_sort _ _) ?_
                · rfl
                · rfl
                · rfl
                · rfl
                refine (K3.out _ U50).mono ?_
                rintro o x52 ⟨r3, rfl, g3, u52⟩
                obtain ⟨p3, q3, hr3⟩ := g3.len'
                subst hr3
                refine ⟨_, rfl, ?_⟩
                have U52 := U50.trans u52
                replace g1 := g1.old u52
                replace g2 := g2.old u52
                replace g3 := g3.mono' U50.size
                refine hK.out _ _ trivial (fun _ => ?_)
                clear hK K
                (try simp only [Act.put]); (try simp only [List.setIfInBounds_toArray]); (try simp only [List.set_cons_succ]); (try simp only [List.set_cons_zero])
                refine wpAnyH_ready (rs := [10]) (by kernel_rfl) (by simp) ?_
                refine AllReadyH.cons (o := { dst := none, op := Op.store 28 (Operand.tmp 12) (Operand.tmp 5), type := 0, pos := "sub.go:53", after := #[{ on := 9, ground := Ground.data }, { on := 2, ground := Ground.data }, { on := 8, ground := Ground.chain }, { on := 0, ground := Ground.phase }, { on := 1, ground := Ground.phase }, { on := 2, ground := Ground.phase }, { on := 3, ground := Ground.phase }, { on := 4, ground := Ground.phase }, { on := 5, ground := Ground.textOnly Departure.lateStoresUnsure }, { on := 6, ground := Ground.phase }, { on := 7, ground := Ground.phase }, { on := 8, ground := Ground.textOnly Departure.lateStoresUnsure }], guard := none }) rfl (fun K hK => ?_) AllReadyH.nil
                · skip
                  refine stepStoreFL ?_ (.tmp 12) (.tmp 5) ?_ m 3 p1 L1.length q1 ?_ ?_ (HT0.out _ U52).t3 ?_
                  · rfl
                  · rfl
                  · rfl
                  · rfl
                  refine hK.out _ _ trivial (fun _ => ?_)
                  clear hK K
                  (try simp only [Act.put]); (try simp only [List.setIfInBounds_toArray]); (try simp only [List.set_cons_succ]); (try simp only [List.set_cons_zero])
                  refine wpAnyH_take (i := 11) (oi := { dst := some 13, op := Op.fieldAddr 31 (Operand.tmp 1) 4, type := 0, pos := "sub.go:53", after := #[{ on := 0, ground := Ground.phase }, { on := 1, ground := Ground.phase }, { on := 2, ground := Ground.phase }, { on := 3, ground := Ground.phase }, { on := 4, ground := Ground.phase }, { on := 5, ground := Ground.phase }, { on := 6, ground := Ground.phase }, { on := 7, ground := Ground.phase }, { on := 8, ground := Ground.textOnly Departure.lateStoresUnsure }, { on := 9, ground := Ground.phase }, { on := 10, ground := Ground.phase }], guard := none }) (v := ?vk53) rfl (by kernel_rfl) (by kernel_rfl) (by kernel_rfl) (fun _ _ _ h => h) (Or.inl ⟨by rfl, ?hk53⟩) trivial ?rk53
                  case hk53 => (intro wz hSw; (try dsimp only at hSw); go_simp; try with_reducible rfl)
                  (try simp only [Act.put]); (try simp only [List.setIfInBounds_toArray]); (try simp only [List.set_cons_succ]); (try simp only [List.set_cons_zero])
                  refine wpAnyH_ready (rs := [12]) (by kernel_rfl) (by simp) ?_
                  refine AllReadyH.cons (o := { dst := none, op := Op.store 29 (Operand.tmp 13) (Operand.tmp 8), type := 0, pos := "sub.go:53", after := #[{ on := 11, ground := Ground.data }, { on := 5, ground := Ground.data }, { on := 10, ground := Ground.chain }, { on := 0, ground := Ground.phase }, { on := 1, ground := Ground.phase }, { on := 2, ground := Ground.phase }, { on := 3, ground := Ground.phase }, { on := 4, ground := Ground.phase }, { on := 5, ground := Ground.phase }, { on := 6, ground := Ground.phase }, { on := 7, ground := Ground.phase }, { on := 8, ground := Ground.textOnly Departure.lateStoresUnsure }, { on := 9, ground := Ground.phase }, { on := 10, ground := Ground.phase }], guard := none }) rfl (fun K hK => ?_) AllReadyH.nil
                  · skip
                    refine stepStoreSL ?_ (.tmp 13) (.tmp 8) ?_ m 4 p2 L2.length q2 ?_ ?_ ((HT0.out _ U52).set _ _).t4 ?_
                    · rfl
                    · rfl
                    · rfl
                    · rfl
                    refine hK.out _ _ trivial (fun _ => ?_)
                    clear hK K
                    (try simp only [Act.put]); (try simp only [List.setIfInBounds_toArray]); (try simp only [List.set_cons_succ]); (try simp only [List.set_cons_zero])
                    refine wpAnyH_take (i := 13) (oi := { dst := some 14, op := Op.fieldAddr 31 (Operand.tmp 1) 5, type := 0, pos := "sub.go:53", after := #[{ on := 0, ground := Ground.phase }, { on := 1, ground := Ground.phase }, { on := 2, ground := Ground.phase }, { on := 3, ground := Ground.phase }, { on := 4, ground := Ground.phase }, { on := 5, ground := Ground.phase }, { on := 6, ground := Ground.phase }, { on := 7, ground := Ground.phase }, { on := 8, ground := Ground.phase }, { on := 9, ground := Ground.phase }, { on := 10, ground := Ground.phase }, { on := 11, ground := Ground.phase }, { on := 12, ground := Ground.phase }], guard := none }) (v := ?vk54) rfl (by kernel_rfl) (by kernel_rfl) (by kernel_rfl) (fun _ _ _ h => h) (Or.inl ⟨by rfl, ?hk54⟩) trivial ?rk54
                    case hk54 => (intro wz hSw; (try dsimp only at hSw); go_simp; try with_reducible rfl)
                    (try simp only [Act.put]); (try simp only [List.setIfInBounds_toArray]); (try simp only [List.set_cons_succ]); (try simp only [List.set_cons_zero])
                    refine wpAnyH_ready (rs := [14]) (by kernel_rfl) (by simp) ?_
                    refine AllReadyH.cons (o := { dst := none, op := Op.store 28 (Operand.tmp 14) (Operand.tmp 11), type := 0, pos := "sub.go:53", after := #[{ on := 13, ground := Ground.data }, { on := 8, ground := Ground.data }, { on := 12, ground := Ground.chain }, { on := 0, ground := Ground.phase }, { on := 1, ground := Ground.phase }, { on := 2, ground := Ground.phase }, { on := 3, ground := Ground.phase }, { on := 4, ground := Ground.phase }, { on := 5, ground := Ground.phase }, { on := 6, ground := Ground.phase }, { on := 7, ground := Ground.phase }, { on := 8, ground := Ground.phase }, { on := 9, ground := Ground.phase }, { on := 10, ground := Ground.phase }, { on := 11, ground := Ground.phase }, { on := 12, ground := Ground.phase }], guard := none }) rfl (fun K hK => ?_) AllReadyH.nil
                    · skip
                      refine stepStoreFL ?_ (.tmp 14) (.tmp 11) ?_ m 5 p3 L3.length q3 ?_ ?_ (((HT0.out _ U52).set _ _).set _ _).t5 ?_
                      · rfl
                      · rfl
                      · rfl
                      · rfl
                      refine hK.out _ _ trivial (fun _ => ?_)
                      clear hK K
                      (try simp only [Act.put]); (try simp only [List.setIfInBounds_toArray]); (try simp only [List.set_cons_succ]); (try simp only [List.set_cons_zero])
                      refine wpAnyH_done (by kernel_rfl) ?_ _
                      refine NoPanic.normal ?_
                      go_wp2_with fail
                      go_meet
                      case rel => exact ⟨_, _, _, _, _, _, SubAt.set3 (HS1.out _ U52) _ _ _, g1.set3 hmb _ _ _, g2.set3 hmb _ _ _, g3.set3 hmb _ _ _, HUm.out _ _ _ (HUm.out _ _ _ (HUm.out _ _ _ (U0.trans U52))), HRet.out _ U52 _ _ _⟩
          · skip
            refine stepLoadFL ?_ (.tmp 9) ?_ m 5 a3 n3 c3 ?_ (HS0.out _ U49).2.2 ?_
            · rfl
            · rfl
            · rfl
            refine hK.out _ _ trivial (fun _ => ?_)
            clear hK K
            (try simp only [Act.put]); (try simp only [List.setIfInBounds_toArray]); (try simp only [List.set_cons_succ]); (try simp only [List.set_cons_zero])
            refine wpAnyH_take (i := 9) (oi := { dst := some 12, op := Op.fieldAddr 31 (Operand.tmp 1) 3, type := 0, pos := "sub.go:53", after := #[{ on := 0, ground := Ground.phase }, { on := 1, ground := Ground.phase }, { on := 2, ground := Ground.phase }, { on := 3, ground := Ground.phase }, { on := 4, ground := Ground.phase }, { on := 5, ground := Ground.textOnly Departure.lateStoresUnsure }, { on := 6, ground := Ground.phase }, { on := 7, ground := Ground.phase }, { on := 8, ground := Ground.textOnly Departure.lateStoresUnsure }], guard := none }) (v := ?vk55) rfl (by kernel_rfl) (by kernel_rfl) (by kernel_rfl) (fun _ _ _ h => h) (Or.inl ⟨by rfl, ?hk55⟩) trivial ?rk55
            case hk55 => (intro wz hSw; (try dsimp only at hSw); go_simp; try with_reducible rfl)
            (try simp only [Act.put]); (try simp only [List.setIfInBounds_toArray]); (try simp only [List.set_cons_succ]); (try simp only [List.set_cons_zero])
            refine wpAnyH_ready (rs := [5]) (by kernel_rfl) (by simp) ?_
            refine AllReadyH.cons (o := { dst := some 8, op := Op.call { callee := Callee.value (Operand.func 97), args := #[Operand.tmp 7], argTypes := #[29] }, type := 29, pos := "sub.go:53", after := #[{ on := 4, ground := Ground.data }, { on := 2, ground := Ground.chain }], guard := none }) rfl (fun K hK => ?_) AllReadyH.nil
            · skip
              refine stepCall1 ?_ 97 (.tmp 7) #[29] ?_ (.slice a2 n2 c2) ?_ ?_ (ent_norm _ _) ?_
              · rfl
              · rfl
              · rfl
              · rfl
              refine (K2.out _ U49).mono ?_
              rintro o x56 ⟨r2, rfl, g2, u56⟩
              obtain ⟨p2, q2, hr2⟩ := g2.len'
              subst hr2
              refine ⟨_, rfl, ?_⟩
              have U56 := U49.trans u56
              replace g1 := g1.old u56
              replace g2 := g2.mono' U49.size
              refine hK.out _ _ trivial (fun _ => ?_)
              clear hK K
              (try simp only [Act.put]); (try simp only [List.setIfInBounds_toArray]); (try simp only [List.set_cons_succ]); (try simp only [List.set_cons_zero])
              refine wpAnyH_ready (rs := [8]) (by kernel_rfl) (by simp) ?_
              refine AllReadyH.cons (o := { dst := some 11, op := Op.call { callee := Callee.value (Operand.func 96), args := #[Operand.tmp 10], argTypes := #[28] }, type := 28, pos := "sub.go:53", after := #[{ on := 7, ground := Ground.data }, { on := 5, ground := Ground.chain }], guard := none }) rfl (fun K hK => ?_) AllReadyH.nil
              · skip
                refine stepCall1 ?_ 96 (.tmp 10) #[28] ?_ (.slice a3 n3 c3) ?_ ?_ (ent_sort _ _) ?_
                · rfl
                · rfl
                · rfl
                · rfl
                refine (K3.out _ U56).mono ?_
                rintro o x57 ⟨r3, rfl, g3, u57⟩
                obtain ⟨p3, q3, hr3⟩ := g3.len'
                subst hr3
                refine ⟨_, rfl, ?_⟩
                have U57 := U56.trans u57
                replace g1 := g1.old u57
                replace g2 := g2.old u57
                replace g3 := g3.mono' U56.size
                refine hK.out _ _ trivial (fun _ => ?_)
                clear hK K
                (try simp only [Act.put]); (try simp only [List.setIfInBounds_toArray]); (try simp only [List.set_cons_succ]); (try simp only [List.set_cons_zero])
                refine wpAnyH_ready (rs := [10]) (by kernel_rfl) (by simp) ?_
                refine AllReadyH.cons (o := { dst := none, op := Op.store 28 (Operand.tmp 12) (Operand.tmp 5), type := 0, pos := "sub.go:53", after := #[{ on := 9, ground := Ground.data }, { on := 2, ground := Ground.data }, { on := 8, ground := Ground.chain }, { on := 0, ground := Ground.phase }, { on := 1, ground := Ground.phase }, { on := 2, ground := Ground.phase }, { on := 3, ground := Ground.phase }, { on := 4, ground := Ground.phase }, { on := 5, ground := Ground.textOnly Departure.lateStoresUnsure }, { on := 6, ground := Ground.phase }, { on := 7, ground := Ground.phase }, { on := 8, ground := Ground.textOnly Departure.lateStoresUnsure }], guard := none }) rfl (fun K hK => ?_) AllReadyH.nil
                · skip
                  refine stepStoreFL ?_ (.tmp 12) (.tmp 5) ?_ m 3 p1 L1.length q1 ?_ ?_ (HT0.out _ U57).t3 ?_
                  · rfl
                  · rfl
                  · rfl
                  · rfl
                  refine hK.out _ _ trivial (fun _ => ?_)
                  clear hK K
                  (try simp only [Act.put]); (try simp only [List.setIfInBounds_toArray]); (try simp only [List.set_cons_succ]); (try simp only [List.set_cons_zero])
                  refine wpAnyH_take (i := 11) (oi := { dst := some 13, op := Op.fieldAddr 31 (Operand.tmp 1) 4, type := 0, pos := "sub.go:53", after := #[{ on := 0, ground := Ground.phase }, { on := 1, ground := Ground.phase }, { on := 2, ground := Ground.phase }, { on := 3, ground := Ground.phase }, { on := 4, ground := Ground.phase }, { on := 5, ground := Ground.phase }, { on := 6, ground := Ground.phase }, { on := 7, ground := Ground.phase }, { on := 8, ground := Ground.textOnly Departure.lateStoresUnsure }, { on := 9, ground := Ground.phase }, { on := 10, ground := Ground.phase }], guard := none }) (v := ?vk58) rfl (by kernel_rfl) (by kernel_rfl) (by kernel_rfl) (fun _ _ _ h => h) (Or.inl ⟨by rfl, ?hk58⟩) trivial ?rk58
                  case hk58 => (intro wz hSw; (try dsimp only at hSw); go_simp; try with_reducible rfl)
                  (try simp only [Act.put]); (try simp only [List.setIfInBounds_toArray]); (try simp only [List.set_cons_succ]); (try simp only [List.set_cons_zero])
                  refine wpAnyH_ready (rs := [12]) (by kernel_rfl) (by simp) ?_
                  refine AllReadyH.cons (o := { dst := none, op := Op.store 29 (Operand.tmp 13) (Operand.tmp 8), type := 0, pos := "sub.go:53", after := #[{ on := 11, ground := Ground.data }, { on := 5, ground := Ground.data }, { on := 10, ground := Ground.chain }, { on := 0, ground := Ground.phase }, { on := 1, ground := Ground.phase }, { on := 2, ground := Ground.phase }, { on := 3, ground := Ground.phase }, { on := 4, ground := Ground.phase }, { on := 5, ground := Ground.phase }, { on := 6, ground := Ground.phase }, { on := 7, ground := Ground.phase }, { on := 8, ground := Ground.textOnly Departure.lateStoresUnsure }, { on := 9, ground := Ground.phase }, { on := 10, ground := Ground.phase }], guard := none }) rfl (fun K hK => ?_) AllReadyH.nil
                  · skip
                    refine stepStoreSL ?_ (.tmp 13) (.tmp 8) ?_ m 4 p2 L2.length q2 ?_ ?_ ((HT0.out _ U57).set _ _).t4 ?_
                    · rfl
                    · rfl
                    · rfl
                    · rfl
                    refine hK.out _ _ trivial (fun _ => ?_)
                    clear hK K
                    (try simp only [Act.put]); (try simp only [List.setIfInBounds_toArray]); (try simp only [List.set_cons_succ]); (try simp only [List.set_cons_zero])
                    refine wpAnyH_take (i := 13) (oi := { dst := some 14, op := Op.fieldAddr 31 (Operand.tmp 1) 5, type := 0, pos := "sub.go:53", after := #[{ on := 0, ground := Ground.phase }, { on := 1, ground := Ground.phase }, { on := 2, ground := Ground.phase }, { on := 3, ground := Ground.phase }, { on := 4, ground := Ground.phase }, { on := 5, ground := Ground.phase }, { on := 6, ground := Ground.phase }, { on := 7, ground := Ground.phase }, { on := 8, ground := Ground.phase }, { on := 9, ground := Ground.phase }, { on := 10, ground := Ground.phase }, { on := 11, ground := Ground.phase }, { on := 12, ground := Ground.phase }], guard := none }) (v := ?vk59) rfl (by kernel_rfl) (by kernel_rfl) (by kernel_rfl) (fun _ _ _ h => h) (Or.inl ⟨by rfl, ?hk59⟩) trivial ?rk59
                    case hk59 => (intro wz hSw; (try dsimp only at hSw); go_simp; try with_reducible rfl)
                    (try simp only [Act.put]); (try simp only [List.setIfInBounds_toArray]); (try simp only [List.set_cons_succ]); (try simp only [List.set_cons_zero])
                    refine wpAnyH_ready (rs := [14]) (by kernel_rfl) (by simp) ?_
                    refine AllReadyH.cons (o := { dst := none, op := Op.store 28 (Operand.tmp 14) (Operand.tmp 11), type := 0, pos := "sub.go:53", after := #[{ on := 13, ground := Ground.data }, { on := 8, ground := Ground.data }, { on := 12, ground := Ground.chain }, { on := 0, ground := Ground.phase }, { on := 1, ground := Ground.phase }, { on := 2, ground := Ground.phase }, { on := 3, ground := Ground.phase }, { on := 4, ground := Ground.phase }, { on := 5, ground := Ground.phase }, { on := 6, ground := Ground.phase }, { on := 7, ground := Ground.phase }, { on := 8, ground := Ground.phase }, { on := 9, ground := Ground.phase }, { on := 10, ground := Ground.phase }, { on := 11, ground := Ground.phase }, { on := 12, ground := Ground.phase }], guard := none }) rfl (fun K hK => ?_) AllReadyH.nil
                    · skip
                      refine stepStoreFL ?_ (.tmp 14) (.tmp 11) ?_ m 5 p3 L3.length q3 ?_ ?_ (((HT0.out _ U57).set _ _).set _ _).t5 ?_
                      · rfl
                      · rfl
                      · rfl
                      · rfl
                      refine hK.out _ _ trivial (fun _ => ?_)
                      clear hK K
                      (try simp only [Act.put]); (try simp only [List.setIfInBounds_toArray]); (try simp only [List.set_cons_succ]); (try simp only [List.set_cons_zero])
                      refine wpAnyH_done (by kernel_rfl) ?_ _
                      refine NoPanic.normal ?_
                      go_wp2_with fail
                      go_meet
                      case rel => exact ⟨_, _, _, _, _, _, SubAt.set3 (HS1.out _ U57) _ _ _, g1.set3 hmb _ _ _, g2.set3 hmb _ _ _, g3.set3 hmb _ _ _, HUm.out _ _ _ (HUm.out _ _ _ (HUm.out _ _ _ (U0.trans U57))), HRet.out _ U57 _ _ _⟩
        · skip
          refine stepLoadFL ?_ (.tmp 9) ?_ m 5 a3 n3 c3 ?_ (HS0.out _ ((Old.refl w0).drew)).2.2 ?_
          · rfl
          · rfl
          · rfl
          refine hK.out _ _ trivial (fun _ => ?_)
          clear hK K
          (try simp only [Act.put]); (try simp only [List.setIfInBounds_toArray]); (try simp only [List.set_cons_succ]); (try simp only [List.set_cons_zero])
          refine wpAnyH_ready (rs := [2]) (by kernel_rfl) (by simp) ?_
          refine AllReadyH.cons (o := { dst := some 5, op := Op.call { callee := Callee.value (Operand.func 96), args := #[Operand.tmp 4], argTypes := #[28] }, type := 28, pos := "sub.go:53", after := #[{ on := 1, ground := Ground.data }], guard := none }) rfl (fun K hK => ?_) AllReadyH.nil
          · skip
            refine stepCall1 ?_ 96 (.tmp 4) #[28] ?_ (.slice a1 n1 c1) ?_ ?_ (ent_sort _ _) ?_
            · rfl
            · rfl
            · rfl
            · rfl
            refine (K1.out _ ((Old.refl w0).drew)).mono ?_
            rintro o x60 ⟨r1, rfl, g1, u60⟩
            obtain ⟨p1, q1, hr1⟩ := g1.len'
            subst hr1
            refine ⟨_, rfl, ?_⟩
            have U60 := ((Old.refl w0).drew).trans u60
            replace g1 := g1.mono' ((Old.refl w0).drew).size
            refine hK.out _ _ trivial (fun _ => ?_)
            clear hK K
            (try simp only [Act.put]); (try simp only [List.setIfInBounds_toArray]); (try simp only [List.set_cons_succ]); (try simp only [List.set_cons_zero])
            refine wpAnyH_take (i := 9) (oi := { dst := some 12, op := Op.fieldAddr 31 (Operand.tmp 1) 3, type := 0, pos := "sub.go:53", after := #[{ on := 0, ground := Ground.phase }, { on := 1, ground := Ground.phase }, { on := 2, ground := Ground.phase }, { on := 3, ground := Ground.phase }, { on := 4, ground := Ground.phase }, { on := 5, ground := Ground.textOnly Departure.lateStoresUnsure }, { on := 6, ground := Ground.phase }, { on := 7, ground := Ground.phase }, { on := 8, ground := Ground.textOnly Departure.lateStoresUnsure }], guard := none }) (v := ?vk61) rfl (by kernel_rfl) (by kernel_rfl) (by kernel_rfl) (fun _ _ _ h => h) (Or.inl ⟨by rfl, ?hk61⟩) trivial ?rk61
            case hk61 => (intro wz hSw; (try dsimp only at hSw); go_simp; try with_reducible rfl)
            (try simp only [Act.put]); (try simp only [List.setIfInBounds_toArray]); (try simp only [List.set_cons_succ]); (try simp only [List.set_cons_zero])
            refine wpAnyH_ready (rs := [5]) (by kernel_rfl) (by simp) ?_
            refine AllReadyH.cons (o := { dst := some 8, op := Op.call { callee := Callee.value (Operand.func 97), args := #[Operand.tmp 7], argTypes := #[29] }, type := 29, pos := "sub.go:53", after := #[{ on := 4, ground := Ground.data }, { on := 2, ground := Ground.chain }], guard := none }) rfl (fun K hK => ?_) AllReadyH.nil
            · skip
              refine stepCall1 ?_ 97 (.tmp 7) #[29] ?_ (.slice a2 n2 c2) ?_ ?_ (ent_norm _ _) ?_
              · rfl
              · rfl
              · rfl
              · rfl
              refine (K2.out _ U60).mono ?_
              rintro o x62 ⟨r2, rfl, g2, u62⟩
              obtain ⟨p2, q2, hr2⟩ := g2.len'
              subst hr2
              refine ⟨_, rfl, ?_⟩
              have U62 := U60.trans u62
              replace g1 := g1.old u62
              replace g2 := g2.mono' U60.size
              refine hK.out _ _ trivial (fun _ => ?_)
              clear hK K
              (try simp only [Act.put]); (try simp only [List.setIfInBounds_toArray]); (try simp only [List.set_cons_succ]); (try simp only [List.set_cons_zero])
              refine wpAnyH_ready (rs := [8]) (by kernel_rfl) (by simp) ?_
              refine AllReadyH.cons (o := { dst := some 11, op := Op.call { callee := Callee.value (Operand.func 96), args := #[Operand.tmp 10], argTypes := #[28] }, type := 28, pos := "sub.go:53", after := #[{ on := 7, ground := Ground.data }, { on := 5, ground := Ground.chain }], guard := none }) rfl (fun K hK => ?_) AllReadyH.nil
              · skip
                refine stepCall1 ?_ 96 (.tmp 10) #[28] ?_ (.slice a3 n3 c3) ?_ ?_ (ent_sort _ _) ?_
                · rfl
                · rfl
                · rfl
                · rfl
                refine (K3.out _ U62).mono ?_
                rintro o x63 ⟨r3, rfl, g3, u63⟩
                obtain ⟨p3, q3, hr3⟩ := g3.len'
                subst hr3
                refine ⟨_, rfl, ?_⟩
                have U63 := U62.trans u63
                replace g1 := g1.old u63
                replace g2 := g2.old u63
                replace g3 := g3.mono' U62.size
                refine hK.out _ _ trivial (fun _ => ?_)
                clear hK K
                (try simp only [Act.put]); (try simp only [List.setIfInBounds_toArray]); (try simp only [List.set_cons_succ]); (try simp only [List.set_cons_zero])
                refine wpAnyH_ready (rs := [10]) (by kernel_rfl) (by simp) ?_
                refine AllReadyH.cons (o := { dst := none, op := Op.store 28 (Operand.tmp 12) (Operand.tmp 5), type := 0, pos := "sub.go:53", after := #[{ on := 9, ground := Ground.data }, { on := 2, ground := Ground.data }, { on := 8, ground := Ground.chain }, { on := 0, ground := Ground.phase }, { on := 1, ground := Ground.phase }, { on := 2, ground := Ground.phase }, { on := 3, ground := Ground.phase }, { on := 4, ground := Ground.phase }, { on := 5, ground := Ground.textOnly Departure.lateStoresUnsure }, { on := 6, ground := Ground.phase }, { on := 7, ground := Ground.phase }, { on := 8, ground := Ground.textOnly Departure.lateStoresUnsure }], guard := none }) rfl (fun K hK => ?_) AllReadyH.nil
                · skip
                  refine stepStoreFL ?_ (.tmp 12) (.tmp 5) ?_ m 3 p1 L1.length q1 ?_ ?_ (HT0.out _ U63).t3 ?_
                  · rfl
                  · rfl
                  · rfl
                  · rfl
                  refine hK.out _ _ trivial (fun _ => ?_)
                  clear hK K
                  (try simp only [Act.put]); (try simp only [List.setIfInBounds_toArray]); (try simp only [List.set_cons_succ]); (try simp only [List.set_cons_zero])
                  refine wpAnyH_take (i := 11) (oi := { dst := some 13, op := Op.fieldAddr 31 (Operand.tmp 1) 4, type := 0, pos := "sub.go:53", after := #[{ on := 0, ground := Ground.phase }, { on := 1, ground := Ground.phase }, { on := 2, ground := Ground.phase }, { on := 3, ground := Ground.phase }, { on := 4, ground := Ground.phase }, { on := 5, ground := Ground.phase }, { on := 6, ground := Ground.phase }, { on := 7, ground := Ground.phase }, { on := 8, ground := Ground.textOnly Departure.lateStoresUnsure }, { on := 9, ground := Ground.phase }, { on := 10, ground := Ground.phase }], guard := none }) (v := ?vk64) rfl (by kernel_rfl) (by kernel_rfl) (by kernel_rfl) (fun _ _ _ h => h) (Or.inl ⟨by rfl, ?hk64⟩) trivial ?rk64
                  case hk64 => (intro wz hSw; (try dsimp only at hSw); go_simp; try with_reducible rfl)
                  (try simp only [Act.put]); (try simp only [List.setIfInBounds_toArray]); (try simp only [List.set_cons_succ]); (try simp only [List.set_cons_zero])
                  refine wpAnyH_ready (rs := [12]) (by kernel_rfl) (by simp) ?_
                  refine AllReadyH.cons (o := { dst := none, op := Op.store 29 (Operand.tmp 13) (Operand.tmp 8), type := 0, pos := "sub.go:53", after := #[{ on := 11, ground := Ground.data }, { on := 5, ground := Ground.data }, { on := 10, ground := Ground.chain }, { on := 0, ground := Ground.phase }, { on := 1, ground := Ground.phase }, { on := 2, ground := Ground.phase }, { on := 3, ground := Ground.phase }, { on := 4, ground := Ground.phase }, { on := 5, ground := Ground.phase }, { on := 6, ground := Ground.phase }, { on := 7, ground := Ground.phase }, { on := 8, ground := Ground.textOnly Departure.lateStoresUnsure }, { on := 9, ground := Ground.phase }, { on := 10, ground := Ground.phase }], guard := none }) rfl (fun K hK => ?_) AllReadyH.nil
                  · skip
                    refine stepStoreSL ?_ (.tmp 13) (.tmp 8) ?_ m 4 p2 L2.length q2 ?_ ?_ ((HT0.out _ U63).set _ _).t4 ?_
                    · rfl
                    · rfl
                    · rfl
                    · rfl
                    refine hK.out _ _ trivial (fun _ => ?_)
                    clear hK K
                    (try simp only [Act.put]); (try simp only [List.setIfInBounds_toArray]); (try simp only [List.set_cons_succ]); (try simp only [List.set_cons_zero])
                    refine wpAnyH_take (i := 13) (oi := { dst := some 14, op := Op.fieldAddr 31 (Operand.tmp 1) 5, type := 0, pos := "sub.go:53", after := #[{ on := 0, ground := Ground.phase }, { on := 1, ground := Ground.phase }, { on := 2, ground := Ground.phase }, { on := 3, ground := Ground.phase }, { on := 4, ground := Ground.phase }, { on := 5, ground := Ground.phase }, { on := 6, ground := Ground.phase }, { on := 7, ground := Ground.phase }, { on := 8, ground := Ground.phase }, { on := 9, ground := Ground.phase }, { on := 10, ground := Ground.phase }, { on := 11, ground := Ground.phase }, { on := 12, ground := Ground.phase }], guard := none }) (v := ?vk65) rfl (by kernel_rfl) (by kernel_rfl) (by kernel_rfl) (fun _ _ _ h => h) (Or.inl ⟨by rfl, ?hk65⟩) trivial ?rk65
                    case hk65 => (intro wz hSw; (try dsimp only at hSw); go_simp; try with_reducible rfl)
                    (try simp only [Act.put]); (try simp only [List.setIfInBounds_toArray]); (try simp only [List.set_cons_succ]); (try simp only [List.set_cons_zero])
                    refine wpAnyH_ready (rs := [14]) (by kernel_rfl) (by simp) ?_
                    refine AllReadyH.cons (o := { dst := none, op := Op.store 28 (Operand.tmp 14) (Operand.tmp 11), type := 0, pos := "sub.go:53", after := #[{ on := 13, ground := Ground.data }, { on := 8, ground := Ground.data }, { on := 12, ground := Ground.chain }, { on := 0, ground := Ground.phase }, { on := 1, ground := Ground.phase }, { on := 2, ground := Ground.phase }, { on := 3, ground := Ground.phase }, { on := 4, ground := Ground.phase }, { on := 5, ground := Ground.phase }, { on := 6, ground := Ground.phase }, { on := 7, ground := Ground.phase }, { on := 8, ground := Ground.phase }, { on := 9, ground := Ground.phase }, { on := 10, ground := Ground.phase }, { on := 11, ground := Ground.phase }, { on := 12, ground := Ground.phase }], guard := none }) rfl (fun K hK => ?_) AllReadyH.nil
                    · skip
                      refine stepStoreFL ?_ (.tmp 14) (.tmp 11) ?_ m 5 p3 L3.length q3 ?_ ?_ (((HT0.out _ U63).set _ _).set _ _).t5 ?_
                      · rfl
                      · rfl
                      · rfl
                      · rfl
                      refine hK.out _ _ trivial (fun _ => ?_)
                      clear hK K
                      (try simp only [Act.put]); (try simp only [List.setIfInBounds_toArray]); (try simp only [List.set_cons_succ]); (try simp only [List.set_cons_zero])
                      refine wpAnyH_done (by kernel_rfl) ?_ _
                      refine NoPanic.normal ?_
                      go_wp2_with fail
                      go_meet
                      case rel => exact ⟨_, _, _, _, _, _, SubAt.set3 (HS1.out _ U63) _ _ _, g1.set3 hmb _ _ _, g2.set3 hmb _ _ _, g3.set3 hmb _ _ _, HUm.out _ _ _ (HUm.out _ _ _ (HUm.out _ _ _ (U0.trans U63))), HRet.out _ U63 _ _ _⟩
      · skip
        refine stepLoadFL ?_ (.tmp 9) ?_ m 5 a3 n3 c3 ?_ (HS0.out _ ((Old.refl w0).drew)).2.2 ?_
        · rfl
        · rfl
        · rfl
        refine hK.out _ _ trivial (fun _ => ?_)
        clear hK K
        (try simp only [Act.put]); (try simp only [List.setIfInBounds_toArray]); (try simp only [List.set_cons_succ]); (try simp only [List.set_cons_zero])
        refine wpAnyH_ready (rs := [1]) (by kernel_rfl) (by simp) ?_
        refine AllReadyH.cons (o := { dst := some 4, op := Op.load 28 (Operand.tmp 3), type := 28, pos := "sub.go:53", after := #[{ on := 0, ground := Ground.data }], guard := none }) rfl (fun K hK => ?_) AllReadyH.nil
        · skip
          refine stepLoadFL ?_ (.tmp 3) ?_ m 3 a1 n1 c1 ?_ (HS0.out _ ((Old.refl w0).drew)).1 ?_
          · rfl
          · rfl
          · rfl
          refine hK.out _ _ trivial (fun _ => ?_)
          clear hK K
          (try simp only [Act.put]); (try simp only [List.setIfInBounds_toArray]); (try simp only [List.set_cons_succ]); (try simp only [List.set_cons_zero])
          refine wpAnyH_ready (rs := [2]) (by kernel_rfl) (by simp) ?_
          refine AllReadyH.cons (o := { dst := some 5, op := Op.call { callee := Callee.value (Operand.func 96), args := #[Operand.tmp 4], argTypes := #[28] }, type := 28, pos := "sub.go:53", after := #[{ on := 1, ground := Ground.data }], guard := none }) rfl (fun K hK => ?_) AllReadyH.nil
          · skip
            refine stepCall1 ?_ 96 (.tmp 4) #[28] ?_ (.slice a1 n1 c1) ?_ ?_ (ent_sort _ _) ?_
            · rfl
            · rfl
            · rfl
            · rfl
            refine (K1.out _ ((Old.refl w0).drew)).mono ?_
            rintro o x66 ⟨r1, rfl, g1, u66⟩
            obtain ⟨p1, q1, hr1⟩ := g1.len'
            subst hr1
            refine ⟨_, rfl, ?_⟩
            have U66 := ((Old.refl w0).drew).trans u66
            replace g1 := g1.mono' ((Old.refl w0).drew).size
            refine hK.out _ _ trivial (fun _ => ?_)
            clear hK K
            (try simp only [Act.put]); (try simp only [List.setIfInBounds_toArray]); (try simp only [List.set_cons_succ]); (try simp only [List.set_cons_zero])
            refine wpAnyH_take (i := 9) (oi := { dst := some 12, op := Op.fieldAddr 31 (Operand.tmp 1) 3, type := 0, pos := "sub.go:53", after := #[{ on := 0, ground := Ground.phase }, { on := 1, ground := Ground.phase }, { on := 2, ground := Ground.phase }, { on := 3, ground := Ground.phase }, { on := 4, ground := Ground.phase }, { on := 5, ground := Ground.textOnly Departure.lateStoresUnsure }, { on := 6, ground := Ground.phase }, { on := 7, ground := Ground.phase }, { on := 8, ground := Ground.textOnly Departure.lateStoresUnsure }], guard := none }) (v := ?vk67) rfl (by kernel_rfl) (by kernel_rfl) (by kernel_rfl) (fun _ _ _ h => h) (Or.inl ⟨by rfl, ?hk67⟩) trivial ?rk67
            case hk67 => (intro wz hSw; (try dsimp only at hSw); go_simp; try with_reducible rfl)
            (try simp only [Act.put]); (try simp only [List.setIfInBounds_toArray]); (try simp only [List.set_cons_succ]); (try simp only [List.set_cons_zero])
            refine wpAnyH_ready (rs := [5]) (by kernel_rfl) (by simp) ?_
            refine AllReadyH.cons (o := { dst := some 8, op := Op.call { callee := Callee.value (Operand.func 97), args := #[Operand.tmp 7], argTypes := #[29] }, type := 29, pos := "sub.go:53", after := #[{ on := 4, ground := Ground.data }, { on := 2, ground := Ground.chain }], guard := none }) rfl (fun K hK => ?_) AllReadyH.nil
            · skip
              refine stepCall1 ?_ 97 (.tmp 7) #[29] ?_ (.slice a2 n2 c2) ?_ ?_ (ent_norm _ _) ?_
              · rfl
              · rfl
              · rfl
              · rfl
              refine (K2.out _ U66).mono ?_
              rintro o x68 ⟨r2, rfl, g2, u68⟩
              obtain ⟨p2, q2, hr2⟩ := g2.len'
              subst hr2
              refine ⟨_, rfl, ?_⟩
              have U68 := U66.trans u68
              replace g1 := g1.old u68
              replace g2 := g2.mono' U66.size
              refine hK.out _ _ trivial (fun _ => ?_)
              clear hK K
              (try simp only [Act.put]); (try simp only [List.setIfInBounds_toArray]); (try simp only [List.set_cons_succ]); (try simp only [List.set_cons_zero])
              refine wpAnyH_ready (rs := [8]) (by kernel_rfl) (by simp) ?_
              refine AllReadyH.cons (o := { dst := some 11, op := Op.call { callee := Callee.value (Operand.func 96), args := #[Operand.tmp 10], argTypes := #[28] }, type := 28, pos := "sub.go:53", after := #[{ on := 7, ground := Ground.data }, { on := 5, ground := Ground.chain }], guard := none }) rfl (fun K hK => ?_) AllReadyH.nil
              · skip
                refine stepCall1 ?_ 96 (.tmp 10) #[28] ?_ (.slice a3 n3 c3) ?_ ?_ (ent_sort _ _) ?_
                · rfl
                · rfl
                · rfl
                · rfl
                refine (K3.out _ U68).mono ?_
                rintro o x69 ⟨r3, rfl, g3, u69⟩
                obtain ⟨p3, q3, hr3⟩ := g3.len'
                subst hr3
                refine ⟨_, rfl, ?_⟩
                have U69 := U68.trans u69
                replace g1 := g1.old u69
                replace g2 := g2.old u69
                replace g3 := g3.mono' U68.size
                refine hK.out _ _ trivial (fun _ => ?_)
                clear hK K
                (try simp only [Act.put]); (try simp only [List.setIfInBounds_toArray]); (try simp only [List.set_cons_succ]); (try simp only [List.set_cons_zero])
                refine wpAnyH_ready (rs := [10]) (by kernel_rfl) (by simp) ?_
                refine AllReadyH.cons (o := { dst := none, op := Op.store 28 (Operand.tmp 12) (Operand.tmp 5), type := 0, pos := "sub.go:53", after := #[{ on := 9, ground := Ground.data }, { on := 2, ground := Ground.data }, { on := 8, ground := Ground.chain }, { on := 0, ground := Ground.phase }, { on := 1, ground := Ground.phase }, { on := 2, ground := Ground.phase }, { on := 3, ground := Ground.phase }, { on := 4, ground := Ground.phase }, { on := 5, ground := Ground.textOnly Departure.lateStoresUnsure }, { on := 6, ground := Ground.phase }, { on := 7, ground := Ground.phase }, { on := 8, ground := Ground.textOnly Departure.lateStoresUnsure }], guard := none }) rfl (fun K hK => ?_) AllReadyH.nil
                · skip
                  refine stepStoreFL ?_ (.tmp 12) (.tmp 5) ?_ m 3 p1 L1.length q1 ?_ ?_ (HT0.out _ U69).t3 ?_
                  · rfl
                  · rfl
                  · rfl
                  · rfl
                  refine hK.out _ _ trivial (fun _ => ?_)
                  clear hK K
                  (try simp only [Act.put]); (try simp only [List.setIfInBounds_toArray]); (try simp only [List.set_cons_succ]); (try simp only [List.set_cons_zero])
                  refine wpAnyH_take (i := 11) (oi := { dst := some 13, op := Op.fieldAddr 31 (Operand.tmp 1) 4, type := 0, pos := "sub.go:53", after := #[{ on := 0, ground := Ground.phase }, { on := 1, ground := Ground.phase }, { on := 2, ground := Ground.phase }, { on := 3, ground := Ground.phase }, { on := 4, ground := Ground.phase }, { on := 5, ground := Ground.phase }, { on := 6, ground := Ground.phase }, { on := 7, ground := Ground.phase }, { on := 8, ground := Ground.textOnly Departure.lateStoresUnsure }, { on := 9, ground := Ground.phase }, { on := 10, ground := Ground.phase }], guard := none }) (v := ?vk70) rfl (by kernel_rfl) (by kernel_rfl) (by kernel_rfl) (fun _ _ _ h => h) (Or.inl ⟨by rfl, ?hk70⟩) trivial ?rk70
                  case hk70 => (intro wz hSw; (try dsimp only at hSw); go_simp; try with_reducible rfl)
                  (try simp only [Act.put]); (try simp only [List.setIfInBounds_toArray]); (try simp only [List.set_cons_succ]); (try simp only [List.set_cons_zero])
                  refine wpAnyH_ready (rs := [12]) (by kernel_rfl) (by simp) ?_
                  refine AllReadyH.cons (o := { dst := none, op := Op.store 29 (Operand.tmp 13) (Operand.tmp 8), type := 0, pos := "sub.go:53", after := #[{ on := 11, ground := Ground.data }, { on := 5, ground := Ground.data }, { on := 10, ground := Ground.chain }, { on := 0, ground := Ground.phase }, { on := 1, ground := Ground.phase }, { on := 2, ground := Ground.phase }, { on := 3, ground := Ground.phase }, { on := 4, ground := Ground.phase }, { on := 5, ground := Ground.phase }, { on := 6, ground := Ground.phase }, { on := 7, ground := Ground.phase }, { on := 8, ground := Ground.textOnly Departure.lateStoresUnsure }, { on := 9, ground := Ground.phase }, { on := 10, ground := Ground.phase }], guard := none }) rfl (fun K hK => ?_) AllReadyH.nil
                  · skip
                    refine stepStoreSL ?_ (.tmp 13) (.tmp 8) ?_ m 4 p2 L2.length q2 ?_ ?_ ((HT0.out _ U69).set _ _).t4 ?_
                    · rfl
                    · rfl
                    · rfl
                    · rfl
                    refine hK.out _ _ trivial (fun _ => ?_)
                    clear hK K
                    (try simp only [Act.put]); (try simp only [List.setIfInBounds_toArray]); (try simp only [List.set_cons_succ]); (try simp only [List.set_cons_zero])
                    refine wpAnyH_take (i := 13) (oi := { dst := some 14, op := Op.fieldAddr 31 (Operand.tmp 1) 5, type := 0, pos := "sub.go:53", after := #[{ on := 0, ground := Ground.phase }, { on := 1, ground := Ground.phase }, { on := 2, ground := Ground.phase }, { on := 3, ground := Ground.phase }, { on := 4, ground := Ground.phase }, { on := 5, ground := Ground.phase }, { on := 6, ground := Ground.phase }, { on := 7, ground := Ground.phase }, { on := 8, ground := Ground.phase }, { on := 9, ground := Ground.phase }, { on := 10, ground := Ground.phase }, { on := 11, ground := Ground.phase }, { on := 12, ground := Ground.phase }], guard := none }) (v := ?vk71) rfl (by kernel_rfl) (by kernel_rfl) (by kernel_rfl) (fun _ _ _ h => h) (Or.inl ⟨by rfl, ?hk71⟩) trivial ?rk71
                    case hk71 => (intro wz hSw; (try dsimp only at hSw); go_simp; try with_reducible rfl)
                    (try simp only [Act.put]); (try simp only [List.setIfInBounds_toArray]); (try simp only [List.set_cons_succ]); (try simp only [List.set_cons_zero])
                    refine wpAnyH_ready (rs := [14]) (by kernel_rfl) (by simp) ?_
                    refine AllReadyH.cons (o := { dst := none, op := Op.store 28 (Operand.tmp 14) (Operand.tmp 11), type := 0, pos := "sub.go:53", after := #[{ on := 13, ground := Ground.data }, { on := 8, ground := Ground.data }, { on := 12, ground := Ground.chain }, { on := 0, ground := Ground.phase }, { on := 1, ground := Ground.phase }, { on := 2, ground := Ground.phase }, { on := 3, ground := Ground.phase }, { on := 4, ground := Ground.phase }, { on := 5, ground := Ground.phase }, { on := 6, ground := Ground.phase }, { on := 7, ground := Ground.phase }, { on := 8, ground := Ground.phase }, { on := 9, ground := Ground.phase }, { on := 10, ground := Ground.phase }, { on := 11, ground := Ground.phase }, { on := 12, ground := Ground.phase }], guard := none }) rfl (fun K hK => ?_) AllReadyH.nil
                    · skip
                      refine stepStoreFL ?_ (.tmp 14) (.tmp 11) ?_ m 5 p3 L3.length q3 ?_ ?_ (((HT0.out _ U69).set _ _).set _ _).t5 ?_
                      · rfl
                      · rfl
                      · rfl
                      · rfl
                      refine hK.out _ _ trivial (fun _ => ?_)
                      clear hK K
                      (try simp only [Act.put]); (try simp only [List.setIfInBounds_toArray]); (try simp only [List.set_cons_succ]); (try simp only [List.set_cons_zero])
                      refine wpAnyH_done (by kernel_rfl) ?_ _
                      refine NoPanic.normal ?_
                      go_wp2_with fail
                      go_meet
                      case rel => exact ⟨_, _, _, _, _, _, SubAt.set3 (HS1.out _ U69) _ _ _, g1.set3 hmb _ _ _, g2.set3 hmb _ _ _, g3.set3 hmb _ _ _, HUm.out _ _ _ (HUm.out _ _ _ (HUm.out _ _ _ (U0.trans U69))), HRet.out _ U69 _ _ _⟩
    · skip
      refine stepLoadFL ?_ (.tmp 9) ?_ m 5 a3 n3 c3 ?_ (HS0.out _ ((Old.refl w0).drew)).2.2 ?_
      · rfl
      · rfl
      · rfl
      refine hK.out _ _ trivial (fun _ => ?_)
      clear hK K
      (try simp only [Act.put]); (try simp only [List.setIfInBounds_toArray]); (try simp only [List.set_cons_succ]); (try simp only [List.set_cons_zero])
      refine wpAnyH_ready (rs := [1, 4]) (by kernel_rfl) (by simp) ?_
      refine AllReadyH.cons (o := { dst := some 4, op := Op.load 28 (Operand.tmp 3), type := 28, pos := "sub.go:53", after := #[{ on := 0, ground := Ground.data }], guard := none }) rfl (fun K hK => ?_) (AllReadyH.cons (o := { dst := some 7, op := Op.load 29 (Operand.tmp 6), type := 29, pos := "sub.go:53", after := #[{ on := 3, ground := Ground.data }], guard := none }) rfl (fun K hK => ?_) AllReadyH.nil)
      · skip
        refine stepLoadFL ?_ (.tmp 3) ?_ m 3 a1 n1 c1 ?_ (HS0.out _ ((Old.refl w0).drew)).1 ?_
        · rfl
        · rfl
        · rfl
        refine hK.out _ _ trivial (fun _ => ?_)
        clear hK K
        (try simp only [Act.put]); (try simp only [List.setIfInBounds_toArray]); (try simp only [List.set_cons_succ]); (try simp only [List.set_cons_zero])
        refine wpAnyH_ready (rs := [2, 4]) (by kernel_rfl) (by simp) ?_
        refine AllReadyH.cons (o := { dst := some 5, op := Op.call { callee := Callee.value (Operand.func 96), args := #[Operand.tmp 4], argTypes := #[28] }, type := 28, pos := "sub.go:53", after := #[{ on := 1, ground := Ground.data }], guard := none }) rfl (fun K hK => ?_) (AllReadyH.cons (o := { dst := some 7, op := Op.load 29 (Operand.tmp 6), type := 29, pos := "sub.go:53", after := #[{ on := 3, ground := Ground.data }], guard := none }) rfl (fun K hK => ?_) AllReadyH.nil)
        · skip
          refine stepCall1 ?_ 96 (.tmp 4) #[28] ?_ (.slice a1 n1 c1) ?_ ?_ (ent_sort _ _) ?_
          · rfl
          · rfl
          · rfl
          · rfl
          refine (K1.out _ ((Old.refl w0).drew)).mono ?_
          rintro o x72 ⟨r1, rfl, g1, u72⟩
          obtain ⟨p1, q1, hr1⟩ := g1.len'
          subst hr1
          refine ⟨_, rfl, ?_⟩
          have U72 := ((Old.refl w0).drew).trans u72
          replace g1 := g1.mono' ((Old.refl w0).drew).size
          refine hK.out _ _ trivial (fun _ => ?_)
          clear hK K
          (try simp only [Act.put]); (try simp only [List.setIfInBounds_toArray]); (try simp only [List.set_cons_succ]); (try simp only [List.set_cons_zero])
          refine wpAnyH_ready (rs := [4]) (by kernel_rfl) (by simp) ?_
          refine AllReadyH.cons (o := { dst := some 7, op := Op.load 29 (Operand.tmp 6), type := 29, pos := "sub.go:53", after := #[{ on := 3, ground := Ground.data }], guard := none }) rfl (fun K hK => ?_) AllReadyH.nil
          · skip
            refine stepLoadSL ?_ (.tmp 6) ?_ m 4 a2 n2 c2 ?_ (HS0.out _ U72).2.1 ?_
            · rfl
            · rfl
            · rfl
            refine hK.out _ _ trivial (fun _ => ?_)
            clear hK K
            (try simp only [Act.put]); (try simp only [List.setIfInBounds_toArray]); (try simp only [List.set_cons_succ]); (try simp only [List.set_cons_zero])
            refine wpAnyH_take (i := 9) (oi := { dst := some 12, op := Op.fieldAddr 31 (Operand.tmp 1) 3, type := 0, pos := "sub.go:53", after := #[{ on := 0, ground := Ground.phase }, { on := 1, ground := Ground.phase }, { on := 2, ground := Ground.phase }, { on := 3, ground := Ground.phase }, { on := 4, ground := Ground.phase }, { on := 5, ground := Ground.textOnly Departure.lateStoresUnsure }, { on := 6, ground := Ground.phase }, { on := 7, ground := Ground.phase }, { on := 8, ground := Ground.textOnly Departure.lateStoresUnsure }], guard := none }) (v := ?vk73) rfl (by kernel_rfl) (by kernel_rfl) (by kernel_rfl) (fun _ _ _ h => h) (Or.inl ⟨by rfl, ?hk73⟩) trivial ?rk73
            case hk73 => (intro wz hSw; (try dsimp only at hSw); go_simp; try with_reducible rfl)
            (try simp only [Act.put]); (try simp only [List.setIfInBounds_toArray]); (try simp only [List.set_cons_succ]); (try simp only [List.set_cons_zero])
            refine wpAnyH_ready (rs := [5]) (by kernel_rfl) (by simp) ?_
            refine AllReadyH.cons (o := { dst := some 8, op := Op.call { callee := Callee.value (Operand.func 97), args := #[Operand.tmp 7], argTypes := #[29] }, type := 29, pos := "sub.go:53", after := #[{ on := 4, ground := Ground.data }, { on := 2, ground := Ground.chain }], guard := none }) rfl (fun K hK => ?_) AllReadyH.nil
            · skip
              refine stepCall1 ?_ 97 (.tmp 7) #[29] ?_ (.slice a2 n2 c2) ?_ ?_ (ent_norm _ _) ?_
              · rfl
              · rfl
              · rfl
              · rfl
              refine (K2.out _ U72).mono ?_
              rintro o x74 ⟨r2, rfl, g2, u74⟩
              obtain ⟨p2, q2, hr2⟩ := g2.len'
              subst hr2
              refine ⟨_, rfl, ?_⟩
              have U74 := U72.trans u74
              replace g1 := g1.old u74
              replace g2 := g2.mono' U72.size
              refine hK.out _ _ trivial (fun _ => ?_)
              clear hK K
              (try simp only [Act.put]); (try simp only [List.setIfInBounds_toArray]); (try simp only [List.set_cons_succ]); (try simp only [List.set_cons_zero])
              refine wpAnyH_ready (rs := [8]) (by kernel_rfl) (by simp) ?_
              refine AllReadyH.cons (o := { dst := some 11, op := Op.call { callee := Callee.value (Operand.func 96), args := #[Operand.tmp 10], argTypes := #[28] }, type := 28, pos := "sub.go:53", after := #[{ on := 7, ground := Ground.data }, { on := 5, ground := Ground.chain }], guard := none }) rfl (fun K hK => ?_) AllReadyH.nil
              · skip
                refine stepCall1 ?_ 96 (.tmp 10) #[28] ?_ (.slice a3 n3 c3) ?_ ?_ (ent_sort _ _) ?_
                · rfl
                · rfl
                · rfl
                · rfl
                refine (K3.out _ U74).mono ?_
                rintro o x75 ⟨r3, rfl, g3, u75⟩
                obtain ⟨p3, q3, hr3⟩ := g3.len'
                subst hr3
                refine ⟨_, rfl, ?_⟩
                have U75 := U74.trans u75
                replace g1 := g1.old u75
                replace g2 := g2.old u75
                replace g3 := g3.mono' U74.size
                refine hK.out _ _ trivial (fun _ => ?_)
                clear hK K
                (try simp only [Act.put]); (try simp only [List.setIfInBounds_toArray]); (try simp only [List.set_cons_succ]); (try simp only [List.set_cons_zero])
                refine wpAnyH_ready (rs := [10]) (by kernel_rfl) (by simp) ?_
                refine AllReadyH.cons (o := { dst := none, op := Op.store 28 (Operand.tmp 12) (Operand.tmp 5), type := 0, pos := "sub.go:53", after := #[{ on := 9, ground := Ground.data }, { on := 2, ground := Ground.data }, { on := 8, ground := Ground.chain }, { on := 0, ground := Ground.phase }, { on := 1, ground := Ground.phase }, { on := 2, ground := Ground.phase }, { on := 3, ground := Ground.phase }, { on := 4, ground := Ground.phase }, { on := 5, ground := Ground.textOnly Departure.lateStoresUnsure }, { on := 6, ground := Ground.phase }, { on := 7, ground := Ground.phase }, { on := 8, ground := Ground.textOnly Departure.lateStoresUnsure }], guard := none }) rfl (fun K hK => ?_) AllReadyH.nil
                · skip
                  refine stepStoreFL ?_ (.tmp 12) (.tmp 5) ?_ m 3 p1 L1.length q1 ?_ ?_ (HT0.out _ U75).t3 ?_
                  · rfl
                  · rfl
                  · rfl
                  · rfl
                  refine hK.out _ _ trivial (fun _ => ?_)
                  clear hK K
                  (try simp only [Act.put]); (try simp only [List.setIfInBounds_toArray]); (try simp only [List.set_cons_succ]); (try simp only [List.set_cons_zero])
                  refine wpAnyH_take (i := 11) (oi := { dst := some 13, op := Op.fieldAddr 31 (Operand.tmp 1) 4, type := 0, pos := "sub.go:53", after := #[{ on := 0, ground := Ground.phase }, { on := 1, ground := Ground.phase }, { on := 2, ground := Ground.phase }, { on := 3, ground := Ground.phase }, { on := 4, ground := Ground.phase }, { on := 5, ground := Ground.phase }, { on := 6, ground := Ground.phase }, { on := 7, ground := Ground.phase }, { on := 8, ground := Ground.textOnly Departure.lateStoresUnsure }, { on := 9, ground := Ground.phase }, { on := 10, ground := Ground.phase }], guard := none }) (v := ?vk76) rfl (by kernel_rfl) (by kernel_rfl) (by kernel_rfl) (fun _ _ _ h => h) (Or.inl ⟨by rfl, ?hk76⟩) trivial ?rk76
                  case hk76 => (intro wz hSw; (try dsimp only at hSw); go_simp; try with_reducible rfl)
                  (try simp only [Act.put]); (try simp only [List.setIfInBounds_toArray]); (try simp only [List.set_cons_succ]); (try simp only [List.set_cons_zero])
                  refine wpAnyH_ready (rs := [12]) (by kernel_rfl) (by simp) ?_
                  refine AllReadyH.cons (o := { dst := none, op := Op.store 29 (Operand.tmp 13) (Operand.tmp 8), type := 0, pos := "sub.go:53", after := #[{ on := 11, ground := Ground.data }, { on := 5, ground := Ground.data }, { on := 10, ground := Ground.chain }, { on := 0, ground := Ground.phase }, { on := 1, ground := Ground.phase }, { on := 2, ground := Ground.phase }, { on := 3, ground := Ground.phase }, { on := 4, ground := Ground.phase }, { on := 5, ground := Ground.phase }, { on := 6, ground := Ground.phase }, { on := 7, ground := Ground.phase }, { on := 8, ground := Ground.textOnly Departure.lateStoresUnsure }, { on := 9, ground := Ground.phase }, { on := 10, ground := Ground.phase }], guard := none }) rfl (fun K hK => ?_) AllReadyH.nil
                  · skip
                    refine stepStoreSL ?_ (.tmp 13) (.tmp 8) ?_ m 4 p2 L2.length q2 ?_ ?_ ((HT0.out _ U75).set _ _).t4 ?_
                    · rfl
                    · rfl
                    · rfl
                    · rfl
                    refine hK.out _ _ trivial (fun _ => ?_)
                    clear hK K
                    (try simp only [Act.put]); (try simp only [List.setIfInBounds_toArray]); (try simp only [List.set_cons_succ]); (try simp only [List.set_cons_zero])
                    refine wpAnyH_take (i := 13) (oi := { dst := some 14, op := Op.fieldAddr 31 (Operand.tmp 1) 5, type := 0, pos := "sub.go:53", after := #[{ on := 0, ground := Ground.phase }, { on := 1, ground := Ground.phase }, { on := 2, ground := Ground.phase }, { on := 3, ground := Ground.phase }, { on := 4, ground := Ground.phase }, { on := 5, ground := Ground.phase }, { on := 6, ground := Ground.phase }, { on := 7, ground := Ground.phase }, { on := 8, ground := Ground.phase }, { on := 9, ground := Ground.phase }, { on := 10, ground := Ground.phase }, { on := 11, ground := Ground.phase }, { on := 12, ground := Ground.phase }], guard := none }) (v := ?vk77) rfl (by kernel_rfl) (by kernel_rfl) (by kernel_rfl) (fun _ _ _ h => h) (Or.inl ⟨by rfl, ?hk77⟩) trivial ?rk77
                    case hk77 => (intro wz hSw; (try dsimp only at hSw); go_simp; try with_reducible rfl)
                    (try simp only [Act.put]); (try simp only [List.setIfInBounds_toArray]); (try simp only [List.set_cons_succ]); (try simp only [List.set_cons_zero])
                    refine wpAnyH_ready (rs := [14]) (by kernel_rfl) (by simp) ?_
                    refine AllReadyH.cons (o := { dst := none, op := Op.store 28 (Operand.tmp 14) (Operand.tmp 11), type := 0, pos := "sub.go:53", after := #[{ on := 13, ground := Ground.data }, { on := 8, ground := Ground.data }, { on := 12, ground := Ground.chain }, { on := 0, ground := Ground.phase }, { on := 1, ground := Ground.phase }, { on := 2, ground := Ground.phase }, { on := 3, ground := Ground.phase }, { on := 4, ground := Ground.phase }, { on := 5, ground := Ground.phase }, { on := 6, ground := Ground.phase }, { on := 7, ground := Ground.phase }, { on := 8, ground := Ground.phase }, { on := 9, ground := Ground.phase }, { on := 10, ground := Ground.phase }, { on := 11, ground := Ground.phase }, { on := 12, ground := Ground.phase }], guard := none }) rfl (fun K hK => ?_) AllReadyH.nil
                    · skip
                      refine stepStoreFL ?_ (.tmp 14) (.tmp 11) ?_ m 5 p3 L3.length q3 ?_ ?_ (((HT0.out _ U75).set _ _).set _ _).t5 ?_
                      · rfl
                      · rfl
                      · rfl
                      · rfl
                      refine hK.out _ _ trivial (fun _ => ?_)
                      clear hK K
                      (try simp only [Act.put]); (try simp only [List.setIfInBounds_toArray]); (try simp only [List.set_cons_succ]); (try simp only [List.set_cons_zero])
                      refine wpAnyH_done (by kernel_rfl) ?_ _
                      refine NoPanic.normal ?_
                      go_wp2_with fail
                      go_meet
                      case rel => exact ⟨_, _, _, _, _, _, SubAt.set3 (HS1.out _ U75) _ _ _, g1.set3 hmb _ _ _, g2.set3 hmb _ _ _, g3.set3 hmb _ _ _, HUm.out _ _ _ (HUm.out _ _ _ (HUm.out _ _ _ (U0.trans U75))), HRet.out _ U75 _ _ _⟩
        · skip
          refine stepLoadSL ?_ (.tmp 6) ?_ m 4 a2 n2 c2 ?_ (HS0.out _ ((Old.refl w0).drew)).2.1 ?_
          · rfl
          · rfl
          · rfl
          refine hK.out _ _ trivial (fun _ => ?_)
          clear hK K
          (try simp only [Act.put]); (try simp only [List.setIfInBounds_toArray]); (try simp only [List.set_cons_succ]); (try simp only [List.set_cons_zero])
          refine wpAnyH_ready (rs := [2]) (by kernel_rfl) (by simp) ?_
          refine AllReadyH.cons (o := { dst := some 5, op := Op.call { callee := Callee.value (Operand.func 96), args := #[Operand.tmp 4], argTypes := #[28] }, type := 28, pos := "sub.go:53", after := #[{ on := 1, ground := Ground.data }], guard := none }) rfl (fun K hK => ?_) AllReadyH.nil
          · skip
            refine stepCall1 ?_ 96 (.tmp 4) #[28] ?_ (.slice a1 n1 c1) ?_ ?_ (ent_sort _ _) ?_
            · rfl
            · rfl
            · rfl
            · rfl
            refine (K1.out _ ((Old.refl w0).drew)).mono ?_
            rintro o x78 ⟨r1, rfl, g1, u78⟩
            obtain ⟨p1, q1, hr1⟩ := g1.len'
            subst hr1
            refine ⟨_, rfl, ?_⟩
            have U78 := ((Old.refl w0).drew).trans u78
            replace g1 := g1.mono' ((Old.refl w0).drew).size
            refine hK.out _ _ trivial (fun _ => ?_)
            clear hK K
            (try simp only [Act.put]); (try simp only [List.setIfInBounds_toArray]); (try simp only [List.set_cons_succ]); (try simp only [List.set_cons_zero])
            refine wpAnyH_take (i := 9) (oi := { dst := some 12, op := Op.fieldAddr 31 (Operand.tmp 1) 3, type := 0, pos := "sub.go:53", after := #[{ on := 0, ground := Ground.phase }, { on := 1, ground := Ground.phase }, { on := 2, ground := Ground.phase }, { on := 3, ground := Ground.phase }, { on := 4, ground := Ground.phase }, { on := 5, ground := Ground.textOnly Departure.lateStoresUnsure }, { on := 6, ground := Ground.phase }, { on := 7, ground := Ground.phase }, { on := 8, ground := Ground.textOnly Departure.lateStoresUnsure }], guard := none }) (v := ?vk79) rfl (by kernel_rfl) (by kernel_rfl) (by kernel_rfl) (fun _ _ _ h => h) (Or.inl ⟨by rfl, ?hk79⟩) trivial ?rk79
            case hk79 => (intro wz hSw; (try dsimp only at hSw); go_simp; try with_reducible rfl)
            (try simp only [Act.put]); (try simp only [List.setIfInBounds_toArray]); (try simp only [List.set_cons_succ]); (try simp only [List.set_cons_zero])
            refine wpAnyH_ready (rs := [5]) (by kernel_rfl) (by simp) ?_
            refine AllReadyH.cons (o := { dst := some 8, op := Op.call { callee := Callee.value (Operand.func 97), args := #[Operand.tmp 7], argTypes := #[29] }, type := 29, pos := "sub.go:53", after := #[{ on := 4, ground := Ground.data }, { on := 2, ground := Ground.chain }], guard := none }) rfl (fun K hK => ?_) AllReadyH.nil
            · skip
              refine stepCall1 ?_ 97 (.tmp 7) #[29] ?_ (.slice a2 n2 c2) ?_ ?_ (ent_norm _ _) ?_
              · rfl
              · rfl
              · rfl
              · rfl
              refine (K2.out _ U78).mono ?_
              rintro o x80 ⟨r2, rfl, g2, u80⟩
              obtain ⟨p2, q2, hr2⟩ := g2.len'
              subst hr2
              refine ⟨_, rfl, ?_⟩
              have U80 := U78.trans u80
              replace g1 := g1.old u80
              replace g2 := g2.mono' U78.size
              refine hK.out _ _ trivial (fun _ => ?_)
              clear hK K
              (try simp only [Act.put]); (try simp only [List.setIfInBounds_toArray]); (try simp only [List.set_cons_succ]); (try simp only [List.set_cons_zero])
              refine wpAnyH_ready (rs := [8]) (by kernel_rfl) (by simp) ?_
              refine AllReadyH.cons (o := { dst := some 11, op := Op.call { callee := Callee.value (Operand.func 96), args := #[Operand.tmp 10], argTypes := #[28] }, type := 28, pos := "sub.go:53", after := #[{ on := 7, ground := Ground.data }, { on := 5, ground := Ground.chain }], guard := none }) rfl (fun K hK => ?_) AllReadyH.nil
              · skip
                refine stepCall1 ?_ 96 (.tmp 10) #[28] ?_ (.slice a3 n3 c3) ?_ ?_ (ent_sort _ _) ?_
                · rfl
                · rfl
                · rfl
                · rfl
                refine (K3.out _ U80).mono ?_
                rintro o x81 ⟨r3, rfl, g3, u81⟩
                obtain ⟨p3, q3, hr3⟩ := g3.len'
                subst hr3
                refine ⟨_, rfl, ?_⟩
                have U81 := U80.trans u81
                replace g1 := g1.old u81
                replace g2 := g2.old u81
                replace g3 := g3.mono' U80.size
                refine hK.out _ _ trivial (fun _ => ?_)
                clear hK K
                (try simp only [Act.put]); (try simp only [List.setIfInBounds_toArray]); (try simp only [List.set_cons_succ]); (try simp only [List.set_cons_zero])
                refine wpAnyH_ready (rs := [10]) (by kernel_rfl) (by simp) ?_
                refine AllReadyH.cons (o := { dst := none, op := Op.store 28 (Operand.tmp 12) (Operand.tmp 5), type := 0, pos := "sub.go:53", after := #[{ on := 9, ground := Ground.data }, { on := 2, ground := Ground.data }, { on := 8, ground := Ground.chain }, { on := 0, ground := Ground.phase }, { on := 1, ground := Ground.phase }, { on := 2, ground := Ground.phase }, { on := 3, ground := Ground.phase }, { on := 4, ground := Ground.phase }, { on := 5, ground := Ground.textOnly Departure.lateStoresUnsure }, { on := 6, ground := Ground.phase }, { on := 7, ground := Ground.phase }, { on := 8, ground := Ground.textOnly Departure.lateStoresUnsure }], guard := none }) rfl (fun K hK => ?_) AllReadyH.nil
                · skip
                  refine stepStoreFL ?_ (.tmp 12) (.tmp 5) ?_ m 3 p1 L1.length q1 ?_ ?_ (HT0.out _ U81).t3 ?_
                  · rfl
                  · rfl
                  · rfl
                  · rfl
                  refine hK.out _ _ trivial (fun _ => ?_)
                  clear hK K
                  (try simp only [Act.put]); (try simp only [List.setIfInBounds_toArray]); (try simp only [List.set_cons_succ]); (try simp only [List.set_cons_zero])
                  refine wpAnyH_take (i := 11) (oi := { dst := some 13, op := Op.fieldAddr 31 (Operand.tmp 1) 4, type := 0, pos := "sub.go:53", after := #[{ on := 0, ground := Ground.phase }, { on := 1, ground := Ground.phase }, { on := 2, ground := Ground.phase }, { on := 3, ground := Ground.phase }, { on := 4, ground := Ground.phase }, { on := 5, ground := Ground.phase }, { on := 6, ground := Ground.phase }, { on := 7, ground := Ground.phase }, { on := 8, ground := Ground.textOnly Departure.lateStoresUnsure }, { on := 9, ground := Ground.phase }, { on := 10, ground := Ground.phase }], guard := none }) (v := ?vk82) rfl (by kernel_rfl) (by kernel_rfl) (by kernel_rfl) (fun _ _ _ h => h) (Or.inl ⟨by rfl, ?hk82⟩) trivial ?rk82
                  case hk82 => (intro wz hSw; (try dsimp only at hSw); go_simp; try with_reducible rfl)
                  (try simp only [Act.put]); (try simp only [List.setIfInBounds_toArray]); (try simp only [List.set_cons_succ]); (try simp only [List.set_cons_zero])
                  refine wpAnyH_ready (rs := [12]) (by kernel_rfl) (by simp) ?_
                  refine AllReadyH.cons (o := { dst := none, op := Op.store 29 (Operand.tmp 13) (Operand.tmp 8), type := 0, pos := "sub.go:53", after := #[{ on := 11, ground := Ground.data }, { on := 5, ground := Ground.data }, { on := 10, ground := Ground.chain }, { on := 0, ground := Ground.phase }, { on := 1, ground := Ground.phase }, { on := 2, ground := Ground.phase }, { on := 3, ground := Ground.phase }, { on := 4, ground := Ground.phase }, { on := 5, ground := Ground.phase }, { on := 6, ground := Ground.phase }, { on := 7, ground := Ground.phase }, { on := 8, ground := Ground.textOnly Departure.lateStoresUnsure }, { on := 9, ground := Ground.phase }, { on := 10, ground := Ground.phase }], guard := none }) rfl (fun K hK => ?_) AllReadyH.nil
                  · skip
                    refine stepStoreSL ?_ (.tmp 13) (.tmp 8) ?_ m 4 p2 L2.length q2 ?_ ?_ ((HT0.out _ U81).set _ _).t4 ?_
                    · rfl
                    · rfl
                    · rfl
                    · rfl
                    refine hK.out _ _ trivial (fun _ => ?_)
                    clear hK K
                    (try simp only [Act.put]); (try simp only [List.setIfInBounds_toArray]); (try simp only [List.set_cons_succ]); (try simp only [List.set_cons_zero])
                    refine wpAnyH_take (i := 13) (oi := { dst := some 14, op := Op.fieldAddr 31 (Operand.tmp 1) 5, type := 0, pos := "sub.go:53", after := #[{ on := 0, ground := Ground.phase }, { on := 1, ground := Ground.phase }, { on := 2, ground := Ground.phase }, { on := 3, ground := Ground.phase }, { on := 4, ground := Ground.phase }, { on := 5, ground := Ground.phase }, { on := 6, ground := Ground.phase }, { on := 7, ground := Ground.phase }, { on := 8, ground := Ground.phase }, { on := 9, ground := Ground.phase }, { on := 10, ground := Ground.phase }, { on := 11, ground := Ground.phase }, { on := 12, ground := Ground.phase }], guard := none }) (v := ?vk83) rfl (by kernel_rfl) (by kernel_rfl) (by kernel_rfl) (fun _ _ _ h => h) (Or.inl ⟨by rfl, ?hk83⟩) trivial ?rk83
                    case hk83 => (intro wz hSw; (try dsimp only at hSw); go_simp; try with_reducible rfl)
                    (try simp only [Act.put]); (try simp only [List.setIfInBounds_toArray]); (try simp only [List.set_cons_succ]); (try simp only [List.set_cons_zero])
                    refine wpAnyH_ready (rs := [14]) (by kernel_rfl) (by simp) ?_
                    refine AllReadyH.cons (o := { dst := none, op := Op.store 28 (Operand.tmp 14) (Operand.tmp 11), type := 0, pos := "sub.go:53", after := #[{ on := 13, ground := Ground.data }, { on := 8, ground := Ground.data }, { on := 12, ground := Ground.chain }, { on := 0, ground := Ground.phase }, { on := 1, ground := Ground.phase }, { on := 2, ground := Ground.phase }, { on := 3, ground := Ground.phase }, { on := 4, ground := Ground.phase }, { on := 5, ground := Ground.phase }, { on := 6, ground := Ground.phase }, { on := 7, ground := Ground.phase }, { on := 8, ground := Ground.phase }, { on := 9, ground := Ground.phase }, { on := 10, ground := Ground.phase }, { on := 11, ground := Ground.phase }, { on := 12, ground := Ground.phase }], guard := none }) rfl (fun K hK => ?_) AllReadyH.nil
                    · skip
                      refine stepStoreFL ?_ (.tmp 14) (.tmp 11) ?_ m 5 p3 L3.length q3 ?_ ?_ (((HT0.out _ U81).set _ _).set _ _).t5 ?_
                      · rfl
                      · rfl
                      · rfl
                      · rfl
                      refine hK.out _ _ trivial (fun _ => ?_)
                      clear hK K
                      (try simp only [Act.put]); (try simp only [List.setIfInBounds_toArray]); (try simp only [List.set_cons_succ]); (try simp only [List.set_cons_zero])
                      refine wpAnyH_done (by kernel_rfl) ?_ _
                      refine NoPanic.normal ?_
                      go_wp2_with fail
                      go_meet
                      case rel => exact ⟨_, _, _, _, _, _, SubAt.set3 (HS1.out _ U81) _ _ _, g1.set3 hmb _ _ _, g2.set3 hmb _ _ _, g3.set3 hmb _ _ _, HUm.out _ _ _ (HUm.out _ _ _ (HUm.out _ _ _ (U0.trans U81))), HRet.out _ U81 _ _ _⟩
      · skip
        refine stepLoadSL ?_ (.tmp 6) ?_ m 4 a2 n2 c2 ?_ (HS0.out _ ((Old.refl w0).drew)).2.1 ?_
        · rfl
        · rfl
        · rfl
        refine hK.out _ _ trivial (fun _ => ?_)
        clear hK K
        (try simp only [Act.put]); (try simp only [List.setIfInBounds_toArray]); (try simp only [List.set_cons_succ]); (try simp only [List.set_cons_zero])
        refine wpAnyH_ready (rs := [1]) (by kernel_rfl) (by simp) ?_
        refine AllReadyH.cons (o := { dst := some 4, op := Op.load 28 (Operand.tmp 3), type := 28, pos := "sub.go:53", after := #[{ on := 0, ground := Ground.data }], guard := none }) rfl (fun K hK => ?_) AllReadyH.nil
        · skip
          refine stepLoadFL ?_ (.tmp 3) ?_ m 3 a1 n1 c1 ?_ (HS0.out _ ((Old.refl w0).drew)).1 ?_
          · rfl
          · rfl
          · rfl
          refine hK.out _ _ trivial (fun _ => ?_)
          clear hK K
          (try simp only [Act.put]); (try simp only [List.setIfInBounds_toArray]); (try simp only [List.set_cons_succ]); (try simp only [List.set_cons_zero])
          refine wpAnyH_ready (rs := [2]) (by kernel_rfl) (by simp) ?_
          refine AllReadyH.cons (o := { dst := some 5, op := Op.call { callee := Callee.value (Operand.func 96), args := #[Operand.tmp 4], argTypes := #[28] }, type := 28, pos := "sub.go:53", after := #[{ on := 1, ground := Ground.data }], guard := none }) rfl (fun K hK => ?_) AllReadyH.nil
          · skip
            refine stepCall1 ?_ 96 (.tmp 4) #[28] ?_ (.slice a1 n1 c1) ?_ ?_ (ent_sort _ _) ?_
            · rfl
            · rfl
            · rfl
            · rfl
            refine (K1.out _ ((Old.refl w0).drew)).mono ?_
            rintro o x84 ⟨r1, rfl, g1, u84⟩
            obtain ⟨p1, q1, hr1⟩ := g1.len'
            subst hr1
            refine ⟨_, rfl, ?_⟩
            have U84 := ((Old.refl w0).drew).trans u84
            replace g1 := g1.mono' ((Old.refl w0).drew).size
            refine hK.out _ _ trivial (fun _ => ?_)
            clear hK K
            (try simp only [Act.put]); (try simp only [List.setIfInBounds_toArray]); (try simp only [List.set_cons_succ]); (try simp only [List.set_cons_zero])
            refine wpAnyH_take (i := 9) (oi := { dst := some 12, op := Op.fieldAddr 31 (Operand.tmp 1) 3, type := 0, pos := "sub.go:53", after := #[{ on := 0, ground := Ground.phase }, { on := 1, ground := Ground.phase }, { on := 2, ground := Ground.phase }, { on := 3, ground := Ground.phase }, { on := 4, ground := Ground.phase }, { on := 5, ground := Ground.textOnly Departure.lateStoresUnsure }, { on := 6, ground := Ground.phase }, { on := 7, ground := Ground.phase }, { on := 8, ground := Ground.textOnly Departure.lateStoresUnsure }], guard := none }) (v := ?vk85) rfl (by kernel_rfl) (by kernel_rfl) (by kernel_rfl) (fun _ _ _ h => h) (Or.inl ⟨by rfl, ?hk85⟩) trivial ?rk85
            case hk85 => (intro wz hSw; (try dsimp only at hSw); go_simp; try with_reducible rfl)
            (try simp only [Act.put]); (try simp only [List.setIfInBounds_toArray]); (try simp only [List.set_cons_succ]); (try simp only [List.set_cons_zero])
            refine wpAnyH_ready (rs := [5]) (by kernel_rfl) (by simp) ?_
            refine AllReadyH.cons (o := { dst := some 8, op := Op.call { callee := Callee.value (Operand.func 97), args := #[Operand.tmp 7], argTypes := #[29] }, type := 29, pos := "sub.go:53", after := #[{ on := 4, ground := Ground.data }, { on := 2, ground := Ground.chain }], guard := none }) rfl (fun K hK => ?_) AllReadyH.nil
            · skip
              refine stepCall1 ?_ 97 (.tmp 7) #[29] ?_ (.slice a2 n2 c2) ?_ ?_ (ent_norm _ _) ?_
              · rfl
              · rfl
              · rfl
              · rfl
              refine (K2.out _ U84).mono ?_
              rintro o x86 ⟨r2, rfl, g2, u86⟩
              obtain ⟨p2, q2, hr2⟩ := g2.len'
              subst hr2
              refine ⟨_, rfl, ?_⟩
              have U86 := U84.trans u86
              replace g1 := g1.old u86
              replace g2 := g2.mono' U84.size
              refine hK.out _ _ trivial (fun _ => ?_)
              clear hK K
              (try simp only [Act.put]); (try simp only [List.setIfInBounds_toArray]); (try simp only [List.set_cons_succ]); (try simp only [List.set_cons_zero])
              refine wpAnyH_ready (rs := [8]) (by kernel_rfl) (by simp) ?_
              refine AllReadyH.cons (o := { dst := some 11, op := Op.call { callee := Callee.value (Operand.func 96), args := #[Operand.tmp 10], argTypes := #[28] }, type := 28, pos := "sub.go:53", after := #[{ on := 7, ground := Ground.data }, { on := 5, ground := Ground.chain }], guard := none }) rfl (fun K hK => ?_) AllReadyH.nil
              · skip
                refine stepCall1 ?_ 96 (.tmp 10) #[28] ?_ (.slice a3 n3 c3) ?_ ?_ (ent_sort _ _) ?_
                · rfl
                · rfl
                · rfl
                · rfl
                refine (K3.out _ U86).mono ?_
                rintro o x87 ⟨r3, rfl, g3, u87⟩
                obtain ⟨p3, q3, hr3⟩ := g3.len'
                subst hr3
                refine ⟨_, rfl, ?_⟩
                have U87 := U86.trans u87
                replace g1 := g1.old u87
                replace g2 := g2.old u87
                replace g3 := g3.mono' U86.size
                refine hK.out _ _ trivial (fun _ => ?_)
                clear hK K
                (try simp only [Act.put]); (try simp only [List.setIfInBounds_toArray]); (try simp only [List.set_cons_succ]); (try simp only [List.set_cons_zero])
                refine wpAnyH_ready (rs := [10]) (by kernel_rfl) (by simp) ?_
                refine AllReadyH.cons (o := { dst := none, op := Op.store 28 (Operand.tmp 12) (Operand.tmp 5), type := 0, pos := "sub.go:53", after := #[{ on := 9, ground := Ground.data }, { on := 2, ground := Ground.data }, { on := 8, ground := Ground.chain }, { on := 0, ground := Ground.phase }, { on := 1, ground := Ground.phase }, { on := 2, ground := Ground.phase }, { on := 3, ground := Ground.phase }, { on := 4, ground := Ground.phase }, { on := 5, ground := Ground.textOnly Departure.lateStoresUnsure }, { on := 6, ground := Ground.phase }, { on := 7, ground := Ground.phase }, { on := 8, ground := Ground.textOnly Departure.lateStoresUnsure }], guard := none }) rfl (fun K hK => ?_) AllReadyH.nil
                · skip
                  refine stepStoreFL ?_ (.tmp 12) (.tmp 5) ?_ m 3 p1 L1.length q1 ?_ ?_ (HT0.out _ U87).t3 ?_
                  · rfl
                  · rfl
                  · rfl
                  · rfl
                  refine hK.out _ _ trivial (fun _ => ?_)
                  clear hK K
                  (try simp only [Act.put]); (try simp only [List.setIfInBounds_toArray]); (try simp only [List.set_cons_succ]); (try simp only [List.set_cons_zero])
                  refine wpAnyH_take (i := 11) (oi := { dst := some 13, op := Op.fieldAddr 31 (Operand.tmp 1) 4, type := 0, pos := "sub.go:53", after := #[{ on := 0, ground := Ground.phase }, { on := 1, ground := Ground.phase }, { on := 2, ground := Ground.phase }, { on := 3, ground := Ground.phase }, { on := 4, ground := Ground.phase }, { on := 5, ground := Ground.phase }, { on := 6, ground := Ground.phase }, { on := 7, ground := Ground.phase }, { on := 8, ground := Ground.textOnly Departure.lateStoresUnsure }, { on := 9, ground := Ground.phase }, { on := 10, ground := Ground.phase }], guard := none }) (v := ?vk88) rfl (by kernel_rfl) (by kernel_rfl) (by kernel_rfl) (fun _ _ _ h => h) (Or.inl ⟨by rfl, ?hk88⟩) trivial ?rk88
                  case hk88 => (intro wz hSw; (try dsimp only at hSw); go_simp; try with_reducible rfl)
                  (try simp only [Act.put]); (try simp only [List.setIfInBounds_toArray]); (try simp only [List.set_cons_succ]); (try simp only [List.set_cons_zero])
                  refine wpAnyH_ready (rs := [12]) (by kernel_rfl) (by simp) ?_
                  refine AllReadyH.cons (o := { dst := none, op := Op.store 29 (Operand.tmp 13) (Operand.tmp 8), type := 0, pos := "sub.go:53", after := #[{ on := 11, ground := Ground.data }, { on := 5, ground := Ground.data }, { on := 10, ground := Ground.chain }, { on := 0, ground := Ground.phase }, { on := 1, ground := Ground.phase }, { on := 2, ground := Ground.phase }, { on := 3, ground := Ground.phase }, { on := 4, ground := Ground.phase }, { on := 5, ground := Ground.phase }, { on := 6, ground := Ground.phase }, { on := 7, ground := Ground.phase }, { on := 8, ground := Ground.textOnly Departure.lateStoresUnsure }, { on := 9, ground := Ground.phase }, { on := 10, ground := Ground.phase }], guard := none }) rfl (fun K hK => ?_) AllReadyH.nil
                  · skip
                    refine stepStoreSL ?_ (.tmp 13) (.tmp 8) ?_ m 4 p2 L2.length q2 ?_ ?_ ((HT0.out _ U87).set _ _).t4 ?_
                    · rfl
                    · rfl
                    · rfl
                    · rfl
                    refine hK.out _ _ trivial (fun _ => ?_)
                    clear hK K
                    (try simp only [Act.put]); (try simp only [List.setIfInBounds_toArray]); (try simp only [List.set_cons_succ]); (try simp only [List.set_cons_zero])
                    refine wpAnyH_take (i := 13) (oi := { dst := some 14, op := Op.fieldAddr 31 (Operand.tmp 1) 5, type := 0, pos := "sub.go:53", after := #[{ on := 0, ground := Ground.phase }, { on := 1, ground := Ground.phase }, { on := 2, ground := Ground.phase }, { on := 3, ground := Ground.phase }, { on := 4, ground := Ground.phase }, { on := 5, ground := Ground.phase }, { on := 6, ground := Ground.phase }, { on := 7, ground := Ground.phase }, { on := 8, ground := Ground.phase }, { on := 9, ground := Ground.phase }, { on := 10, ground := Ground.phase }, { on := 11, ground := Ground.phase }, { on := 12, ground := Ground.phase }], guard := none }) (v := ?vk89) rfl (by kernel_rfl) (by kernel_rfl) (by kernel_rfl) (fun _ _ _ h => h) (Or.inl ⟨by rfl, ?hk89⟩) trivial ?rk89
                    case hk89 => (intro wz hSw; (try dsimp only at hSw); go_simp; try with_reducible rfl)
                    (try simp only [Act.put]); (try simp only [List.setIfInBounds_toArray]); (try simp only [List.set_cons_succ]); (try simp only [List.set_cons_zero])
                    refine wpAnyH_ready (rs := [14]) (by kernel_rfl) (by simp) ?_
                    refine AllReadyH.cons (o := { dst := none, op := Op.store 28 (Operand.tmp 14) (Operand.tmp 11), type := 0, pos := "sub.go:53", after := #[{ on := 13, ground := Ground.data }, { on := 8, ground := Ground.data }, { on := 12, ground := Ground.chain }, { on := 0, ground := Ground.phase }, { on := 1, ground := Ground.phase }, { on := 2, ground := Ground.phase }, { on := 3, ground := Ground.phase }, { on := 4, ground := Ground.phase }, { on := 5, ground := Ground.phase }, { on := 6, ground := Ground.phase }, { on := 7, ground := Ground.phase }, { on := 8, ground := Ground.phase }, { on := 9, ground := Ground.phase }, { on := 10, ground := Ground.phase }, { on := 11, ground := Ground.phase }, { on := 12, ground := Ground.phase }], guard := none }) rfl (fun K hK => ?_) AllReadyH.nil
                    · skip
                      refine stepStoreFL ?_ (.tmp 14) (.tmp 11) ?_ m 5 p3 L3.length q3 ?_ ?_ (((HT0.out _ U87).set _ _).set _ _).t5 ?_
                      · rfl
                      · rfl
                      · rfl
                      · rfl
                      refine hK.out _ _ trivial (fun _ => ?_)
                      clear hK K
                      (try simp only [Act.put]); (try simp only [List.setIfInBounds_toArray]); (try simp only [List.set_cons_succ]); (try simp only [List.set_cons_zero])
                      refine wpAnyH_done (by kernel_rfl) ?_ _
                      refine NoPanic.normal ?_
                      go_wp2_with fail
                      go_meet
                      case rel => exact ⟨_, _, _, _, _, _, SubAt.set3 (HS1.out _ U87) _ _ _, g1.set3 hmb _ _ _, g2.set3 hmb _ _ _, g3.set3 hmb _ _ _, HUm.out _ _ _ (HUm.out _ _ _ (HUm.out _ _ _ (U0.trans U87))), HRet.out _ U87 _ _ _⟩
  case rest =>
    obtain ⟨p1, p2, p3, q1, q2, q3, ⟨h0, h1, h2, h3, h4, h5⟩, g1, g2, g3, hu, ⟨r0, r1, r2, r3, r4, r5⟩, f0, f1, f2', f3, f4, f5⟩ := hcut
    have hb2 : m + 1 < w0.heap.size := by omega
    have G1 := hid g1
    have G2 := hid g2
    have G3 := hid g3
    have HU := hid hu
    clear g1 g2 g3 hu K1 K2 K3 HR1 HRet HS0 HS1 HT0 HUm
    have hwm : w.heap.size = m := HMm.out
    go_wp2
    refine bodyPost_ret (v := .agg #[.int .i64 s1, .int .i64 s2, .int .i64 s3, .slice p1 L1.length q1, .slice p2 L2.length q2, .slice p3 L3.length q3]) (by simp [results, Tryz.results80, go_sem, *]) rfl ⟨p1, p2, p3, q1, q2, q3, by rfl, ?_, ?_, ?_, ?_⟩
    · exact ((((((G1.out.set1 hb2 _ _).set1 hb2 _ _).set1 hb2 _ _).set1 hb2 _ _).set1 hb2 _ _).set1 hb2 _ _).mono' (by omega)
    · exact OwnS.mono (ownsRow_setCell_below (ownsRow_setCell_below (ownsRow_setCell_below (ownsRow_setCell_below (ownsRow_setCell_below (ownsRow_setCell_below G2.out hb2 _) hb2 _) hb2 _) hb2 _) hb2 _) hb2 _) (by omega)
    · exact ((((((G3.out.set1 hb2 _ _).set1 hb2 _ _).set1 hb2 _ _).set1 hb2 _ _).set1 hb2 _ _).set1 hb2 _ _).mono' (by omega)
    · have hx : w.heap.size ≤ m + 1 := by omega
      exact (((((HU.out.setCell hx _).setCell hx _).setCell hx _).setCell hx _).setCell hx _).setCell hx _
end Go.Proofs.YtbkbnfgjkefcmaaGreat
