/- Both clients beside each other, with the variable in which the law keeps the document's; conditions: what turns is told. -/
import Derived.Test.YthjfkmjeppdcnaaGreatKl25
namespace Go.Proofs.YthjfkmjeppdcnaaGreat
open Go.RowKit Go.Lib
set_option linter.unusedVariables false
set_option linter.unusedSimpArgs false
set_option maxRecDepth 20000
structure Bx (w0 : World) (cb mb : Nat) (FB : List Nat) (s : Cs) (base : Nat) (mv ov rv : Value) (D : List Dt) (t : Cs) (w : World) : Prop where
 k : KSx w0 cb FB s w
 d : DcAt base mv ov rv D t w
 lo : w0.heap.size ≤ base ∧ base ≤ w.heap.size
 ml : w0.heap.size ≤ mb ∧ mb < w.heap.size
 n1 : mb ∉ FB
 n2 : mb ∉ dbl mv ov rv D
 n3 : ∀ g ∈ dbl mv ov rv D, g ∉ FB
theorem Bx.old {w0 : World} {cb mb : Nat} {FB : List Nat} {s t : Cs} {base : Nat} {mv ov rv : Value} {D : List Dt} {w w' : World} (h : Bx w0 cb mb FB s base mv ov rv D t w) (u : Old w w') : Bx w0 cb mb FB s base mv ov rv D t w' :=
 ⟨h.k.old u, h.d.old u, ⟨h.lo.1, Nat.le_trans h.lo.2 u.size⟩, ⟨h.ml.1, Nat.lt_of_lt_of_le h.ml.2 u.size⟩, h.n1, h.n2, h.n3⟩
theorem Bx.lt {w0 : World} {cb mb : Nat} {FB : List Nat} {s t : Cs} {base : Nat} {mv ov rv : Value} {D : List Dt} {w : World} (h : Bx w0 cb mb FB s base mv ov rv D t w) : (∀ g ∈ FB, w0.heap.size ≤ g ∧ g < w.heap.size) ∧ (∀ g ∈ dbl mv ov rv D, w0.heap.size ≤ g ∧ g < w.heap.size) ∧ w0.heap.size ≤ mb ∧ mb < w.heap.size :=
 ⟨h.k.lt, fun g q => ⟨Nat.le_trans h.lo.1 (h.d.lt g q).1, (h.d.lt g q).2⟩, h.ml⟩
theorem Bx.far {w0 : World} {cb mb : Nat} {FB : List Nat} {s t : Cs} {base : Nat} {mv ov rv : Value} {D : List Dt} {w w' : World} {S : List Nat} (h : Bx w0 cb mb FB s base mv ov rv D t w) (c : Chg S w w') (hs : ∀ g ∈ S, w0.heap.size ≤ g ∧ g ∉ FB ∧ g ∉ dbl mv ov rv D) : Bx w0 cb mb FB s base mv ov rv D t w' :=
 ⟨h.k.chg c (fun g q z => (hs g z).2.1 q) (h.k.2.2.1.below (c.below w0.heap.size (fun g q => (hs g q).1) h.k.2.2.1.size)), h.d.chg c (fun g q z => (hs g z).2.2 q), ⟨h.lo.1, Nat.le_trans h.lo.2 c.size⟩, ⟨h.ml.1, Nat.lt_of_lt_of_le h.ml.2 c.size⟩, h.n1, h.n2, h.n3⟩
theorem Bx.prog {w0 : World} {cb mb : Nat} {FB FB' : List Nat} {s s' t : Cs} {base : Nat} {mv ov rv : Value} {D : List Dt} {w w' : World} (h : Bx w0 cb mb FB s base mv ov rv D t w) (k : KSx w0 cb FB' s' w') (m : FMv FB w FB' w') : Bx w0 cb mb FB' s' base mv ov rv D t w' := by
 refine ⟨k, h.d.chg m.c (fun g q => h.n3 g q), ⟨h.lo.1, Nat.le_trans h.lo.2 m.c.size⟩, ⟨h.ml.1, Nat.lt_of_lt_of_le h.ml.2 m.c.size⟩, fun q => ?_, h.n2, fun g q z => ?_⟩
 ·rcases m.r mb q with y | y
  ·exact h.n1 y
  ·have := h.ml.2; omega
 ·rcases m.r g z with y | y
  ·exact h.n3 g q y
  ·have := (h.d.lt g q).2; omega
theorem Bx.doc {w0 : World} {cb mb : Nat} {FB : List Nat} {s t t' : Cs} {base : Nat} {mv ov rv mv' ov' rv' : Value} {D D' : List Dt} {w w' : World} (h : Bx w0 cb mb FB s base mv ov rv D t w) (d : DcAt base mv' ov' rv' D' t' w') (hn : ∀ g ∈ dbl mv' ov' rv' D', g ∈ dbl mv ov rv D ∨ w.heap.size ≤ g) (u : Old w w') : Bx w0 cb mb FB s base mv' ov' rv' D' t' w' := by
 refine ⟨h.k.old u, d, ⟨h.lo.1, Nat.le_trans h.lo.2 u.size⟩, ⟨h.ml.1, Nat.lt_of_lt_of_le h.ml.2 u.size⟩, h.n1, fun q => ?_, fun g q z => ?_⟩
 ·rcases hn mb q with y | y
  ·exact h.n2 y
  ·have := h.ml.2; omega
 ·rcases hn g q with y | y
  ·exact h.n3 g y z
  ·have := (h.k.lt g z).2; omega
theorem Bx.var {w0 : World} {cb mb : Nat} {FB : List Nat} {s t : Cs} {base : Nat} {mv ov rv : Value} {D : List Dt} {w w' : World} (h : Bx w0 cb mb FB s base mv ov rv D t w) (c : Chg [mb] w w') : Bx w0 cb mb FB s base mv ov rv D t w' :=
 h.far c fun g q => by simp only [List.mem_singleton] at q; subst q; exact ⟨h.ml.1, h.n1, h.n2⟩
abbrev MB (mb : Nat) (ss la tg : Int) (mv ov rv : Value) (w : World) : Prop := w.heap[mb]? = some (.cells #[.int .i64 ss, .int .i64 la, mv, .int .i64 tg, ov, rv] 56 (0, 0))
theorem Bx.bytes {w0 : World} {cb mb : Nat} {FB : List Nat} {s : Cs} {base : Nat} {mv ov rv : Value} {D : List Dt} {w : World} (h : Bx w0 cb mb FB s base mv ov rv D s w) (i : Nat) (hi : i < D.length) (hi2 : i < s.op.length) : D[i].q = s.op[i].1 ∧ D[i].B = s.op[i].2.enc ∧ ∃ b, Pk.OwnL b w D[i].v s.op[i].2.enc := by
 have e := h.d.eq
 have e2 : (D.map (fun d => (d.q, d.B)))[i]? = (s.op.map (fun p => (p.1, p.2.enc)))[i]? := by rw [e]
 rw [List.getElem?_map, List.getElem?_map, List.getElem?_eq_getElem hi, List.getElem?_eq_getElem hi2] at e2
 simp only [Option.map_some, Option.some.injEq, Prod.mk.injEq] at e2
 obtain ⟨b, hb, o⟩ := h.d.by_ D[i] (List.getElem_mem hi)
 exact ⟨e2.1, e2.2, b, e2.2 ▸ o⟩
theorem Bx.new {w0 : World} {cb : Nat} {FB : List Nat} {ss : Int} {n : Nat} {f : Nat → Int} {v' : Value} {w1 w2 w3 : World} (hk : KSx w0 cb FB (newC ss f n) w1) (u0 : Old w0 w1) (hd : Ci.OwnI w1.heap.size w2 v' (msL f n)) (u : Old w1 w2) (u3 : Old w2 w3) (hs : w3.heap.size = w2.heap.size + 1) : Bx w0 cb w2.heap.size FB (newC ss f n) w1.heap.size v' (.slice none 0 0) (.slice none 0 0) [] (newC ss f n) w3 := by
 have hd2 : DcAt w1.heap.size v' (.slice none 0 0) (.slice none 0 0) [] (newC ss f n) w2 := DcAt.new hd
 refine ⟨hk.old (u.trans u3), hd2.old u3, ⟨u0.size, Nat.le_trans u.size u3.size⟩, ⟨Nat.le_trans u0.size u.size, by omega⟩, fun q => ?_, fun q => ?_, fun g q z => ?_⟩
 ·have := (hk.lt _ q).2; have := u.size; omega
 ·have := (hd2.lt _ q).2; omega
 ·have := (hd2.lt _ q).1; have := (hk.lt _ z).2; omega
end Go.Proofs.YthjfkmjeppdcnaaGreat
