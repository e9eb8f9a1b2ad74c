/- The document's table of layer 13 in a variable; steps of a drawn region at such a variable. -/
import Derived.Test.YtefffjlcfghniaaS14
namespace Go.Proofs.Ytefffjlcfghniaa
open Go.RowKit Go.Lib
set_option linter.unusedVariables false
set_option linter.unusedSimpArgs false
set_option maxRecDepth 20000
/-- The document's table in its variable, apart from the program's. -/
structure Doc (w0 W : World) (mb : Nat) (Bs : List Nat) (p : Option Addr) (c : Nat) (T : List Opv) : Prop where
  cell : W.cell? ⟨mb, 0, none⟩ = some (.slice p T.length c)
  free : W.frozen? ⟨mb, 0, none⟩ = false
  new : w0.heap.size ≤ mb
  ap : mb ∉ Bs
  row : RRow W (.slice p T.length c) T
  far : 0 < T.length → ∀ b, (Value.slice p T.length c).ownBlock = some b → b ∉ Bs ∧ b ≠ mb
theorem Doc.up {w0 W W' : World} {mb : Nat} {Bs : List Nat} {p : Option Addr} {c : Nat} {T : List Opv} (h : Doc w0 W mb Bs p c T) (u : Old W W') : Doc w0 W' mb Bs p c T := ⟨u.keep h.cell, u.keepF h.cell h.free, h.new, h.ap, h.row.old u, h.far⟩
theorem Doc.lt {w0 W : World} {mb : Nat} {Bs : List Nat} {p : Option Addr} {c : Nat} {T : List Opv} (h : Doc w0 W mb Bs p c T) : mb < W.heap.size := World.block_lt_of_cell? W ⟨mb, 0, none⟩ h.cell
theorem Doc.chg {w0 W W' : World} {mb : Nat} {Bs Bs' : List Nat} {p : Option Addr} {c : Nat} {T : List Opv} (h : Doc w0 W mb Bs p c T) (u : Chg Bs W W') (a : ∀ m, Apart W m Bs → Apart W' m Bs') : Doc w0 W' mb Bs' p c T := by
  refine ⟨u.cell h.cell h.ap, ?_, h.new, (a mb ⟨h.lt, h.ap⟩).2, ?_, fun h0 b e => ?_⟩
  · have := u.block mb h.lt h.ap
    have q := h.free
    simp only [World.frozen?] at *
    rw [this]
    exact q
  · obtain ⟨h1, p', c', e, hc⟩ := h.row
    cases e
    refine ⟨h1, p, c, rfl, fun i hi => ?_⟩
    obtain ⟨b, rfl, q0, q1, q2, q3⟩ := hc i hi
    have hn := (h.far (by omega) b rfl).1
    exact ⟨b, rfl, u.cell q0 hn, u.cell q1 hn, u.cell q2 hn, u.cell q3 hn⟩
  · obtain ⟨h1, p', c', e', hc⟩ := h.row
    cases e'
    obtain ⟨b', rfl, q0, _⟩ := hc 0 h0
    cases e
    exact ⟨(a b' ⟨World.block_lt_of_cell? W _ q0, (h.far h0 b' rfl).1⟩).2, (h.far h0 b' rfl).2⟩
theorem Doc.put {w0 W W2 : World} {mb : Nat} {Bs : List Nat} {p p2 : Option Addr} {c c2 : Nat} {T T2 : List Opv} (h : Doc w0 W mb Bs p c T) (hl : ∀ b ∈ Bs, b < W.heap.size) (u : Old W W2) (r : RRow W2 (.slice p2 T2.length c2) T2) (hs : (Value.slice p2 T2.length c2) = .slice p T.length c ∨ ∀ b, (Value.slice p2 T2.length c2).ownBlock = some b → W.heap.size ≤ b) :
    Doc w0 (W2.setCell ⟨mb, 0, none⟩ (.slice p2 T2.length c2)) mb Bs p2 c2 T2 := by
  have hf : 0 < T2.length → ∀ b, (Value.slice p2 T2.length c2).ownBlock = some b → b ∉ Bs ∧ b ≠ mb := fun h0 b e => by
    rcases hs with q | q
    · have hlen : T2.length = T.length := by injection q
      rw [q] at e
      exact h.far (by omega) b e
    · have := q b e
      have hm := h.lt
      exact ⟨fun z => by have := hl b z; omega, by omega⟩
  refine ⟨World.cell?_setCell_same _ _ _ (u.keep h.cell), by rw [World.frozen?_setCell]; exact u.keepF h.cell h.free, h.new, h.ap, ?_, hf⟩
  obtain ⟨h1, p', c', e, hc⟩ := r
  cases e
  refine ⟨h1, p2, c2, rfl, fun i hi => ?_⟩
  obtain ⟨b, rfl, q0, q1, q2, q3⟩ := hc i hi
  have hn := (hf (by omega) b rfl).2
  have k : ∀ o z, W2.cell? ⟨b, o, none⟩ = some z → (W2.setCell ⟨mb, 0, none⟩ (.slice (some ⟨b, 0, none⟩) T2.length c2)).cell? ⟨b, o, none⟩ = some z := fun o z e => by
    rw [World.cell?_setCell_other _ _ _ _ (by intro q; cases q; exact hn rfl)]; exact e
  exact ⟨b, rfl, k _ _ q0, k _ _ q1, k _ _ q2, k _ _ q3⟩
theorem Doc.start (w0 W : World) (Bs : List Nat) (hn : w0.heap.size ≤ W.heap.size) (hl : ∀ b ∈ Bs, b < W.heap.size) (W1 : World) (e : W.alloc (.cells #[.slice none 0 0] 42) = W1) (m : Nat) (hm : W.heap.size = m) : Doc w0 W1 m Bs none 0 [] ∧ Old W W1 := by
  subst e hm
  exact ⟨⟨by simp, by simp, hn, fun q => by have := hl _ q; omega, ⟨by simp, none, 0, rfl, fun i hi => by simp at hi⟩, fun h => by simp at h⟩, (Old.refl W).alloc _⟩
abbrev P9 (mb ob : Nat) (v : Value) (op : Opv) : World → Prop := fun wz => wz.cell? ⟨mb, 0, none⟩ = some v ∧ OpB ob op wz
theorem P9.old {mb ob : Nat} {v : Value} {op : Opv} {w w' : World} (u : Old w w') (h : P9 mb ob v op w) : P9 mb ob v op w' := ⟨u.keep h.1, OpB.old u h.2⟩
abbrev P8 (mb : Nat) (v : Value) : World → Prop := fun wz => wz.cell? ⟨mb, 0, none⟩ = some v
theorem P8.old {mb : Nat} {v : Value} {w w' : World} (u : Old w w') (h : P8 mb v w) : P8 mb v w' := u.keep h
theorem infoTb : (Try.prog.info? 42).map (·.size) = some 1 := by kernel_rfl
theorem stepStoreT {ops : Array Oper} {o : Oper} {a : Act} {w : World} {K : Act → World → Prop} {Q : Exit → Act → World → Prop} {E : Prop} (hg : o.guard = none) (x y : Operand) (hop : o.op = Op.store 42 x y) (m : Nat) (u : Value)
    (hx : a.eval x = .pointer (some ⟨m, 0, none⟩)) (hy : a.eval y = .agg #[u]) (ht : w.there m 0 1) (h1 : u.oneCell' = true)
    (hK : K (a.put o.dst undef) (w.setCell ⟨m, 0, none⟩ u)) :
    if Region.wanted o (yielded ops a.tmps) = true then Oper.wp Try.prog o a w K Q else E := by
  have hw : Region.wanted o (yielded ops a.tmps) = true := by simp [Region.wanted, hg]
  rw [if_pos hw]
  exact wp_store_mid _ x y hop m 0 _ hx hy ht infoTb (by simp [h1]) hK
theorem stepAllocT {ops : Array Oper} {o : Oper} {a : Act} {w : World} {K : Act → World → Prop} {Q : Exit → Act → World → Prop} {E : Prop} (hg : o.guard = none) (hop : o.op = Op.alloc 42)
    (hK : ∀ m w', m = w.heap.size → w' = w.alloc (.cells #[.slice none 0 0] 42) → K (a.put o.dst (.pointer (some ⟨m, 0, none⟩))) w') :
    if Region.wanted o (yielded ops a.tmps) = true then Oper.wp Try.prog o a w K Q else E := by
  have hw : Region.wanted o (yielded ops a.tmps) = true := by simp [Region.wanted, hg]
  rw [if_pos hw]
  obtain ⟨d, p, t, ps, af, gd⟩ := o
  subst hop
  unfold Oper.wp execOp
  go_simp
  exact hK _ _ rfl rfl
/-- A new variable. -/
structure NewB (m : Nat) (w : World) : Prop where
  cell : ∃ z, w.cell? ⟨m, 0, none⟩ = some z
  free : w.frozen? ⟨m, 0, none⟩ = false
theorem NewB.new (w w' : World) (m : Nat) (hm : m = w.heap.size) (hw : w' = w.alloc (.cells #[.slice none 0 0] 42)) : NewB m w' ∧ Old w w' := by
  subst hm hw
  exact ⟨⟨⟨.slice none 0 0, by simp⟩, by simp⟩, (Old.refl w).alloc _⟩
theorem NewB.old {m : Nat} {w w' : World} (u : Old w w') (h : NewB m w) : NewB m w' := by
  obtain ⟨⟨z, c⟩, f⟩ := h
  exact ⟨⟨z, u.keep c⟩, u.keepF c f⟩
theorem NewB.there {m : Nat} {w : World} (h : NewB m w) : w.there m 0 1 := fun j hj => by
  obtain rfl : j = 0 := by omega
  obtain ⟨z, c⟩ := h.cell
  exact ⟨by rw [Nat.add_zero, c]; rfl, h.free⟩
theorem RRow.set {w : World} {p : Option Addr} {n c : Nat} {T : List Opv} (h : RRow w (.slice p n c) T) (m : Nat) (v : Value) (hn : ∀ b, 0 < T.length → p = some ⟨b, 0, none⟩ → b ≠ m) : RRow (w.setCell ⟨m, 0, none⟩ v) (.slice p n c) T := by
  obtain ⟨h1, p', c', e, hc⟩ := h
  cases e
  refine ⟨h1, p, c, rfl, fun i hi => ?_⟩
  obtain ⟨b, rfl, q0, q1, q2, q3⟩ := hc i hi
  have hb := hn b (by omega) rfl
  have k : ∀ o z, w.cell? ⟨b, o, none⟩ = some z → (w.setCell ⟨m, 0, none⟩ v).cell? ⟨b, o, none⟩ = some z := fun o z e => by
    rw [World.cell?_setCell_other _ _ _ _ (by intro q; cases q; exact hb rfl)]; exact e
  exact ⟨b, rfl, k _ _ q0, k _ _ q1, k _ _ q2, k _ _ q3⟩
theorem RRow.lt {w : World} {p : Option Addr} {n c : Nat} {T : List Opv} (h : RRow w (.slice p n c) T) : ∀ b, 0 < T.length → p = some ⟨b, 0, none⟩ → b < w.heap.size := by
  obtain ⟨h1, p', c', e, hc⟩ := h
  cases e
  intro b h0 e
  obtain ⟨b', e', q0, _⟩ := hc 0 h0
  rw [e] at e'
  cases e'
  exact World.block_lt_of_cell? w _ q0
end Go.Proofs.Ytefffjlcfghniaa
