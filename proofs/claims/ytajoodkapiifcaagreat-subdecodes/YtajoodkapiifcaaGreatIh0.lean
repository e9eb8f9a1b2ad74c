/- Steps for the document's Decode: rows of int64, one span appended in a region that draws, the two boxes; no condition. -/
import Derived.Test.YtajoodkapiifcaaGreatIg
import Derived.Test.YtajoodkapiifcaaGreatScN
namespace Go.Proofs.YtajoodkapiifcaaGreat
open Go.RowKit Go.Lib
set_option linter.unusedVariables false
set_option linter.unusedSimpArgs false
set_option maxRecDepth 20000
theorem step_lift1 {ops : Array Oper} {o : Oper} {a : Act} {w : World} {K : Act → World → Prop} {Q : Exit → Act → World → Prop} {E : Prop} (hgd : o.guard = none)
    (h2 : wpList Tryz.prog ops (fun e a' w' => e = .normal ∧ K a' w') [o] a w) : if Region.wanted o (yielded ops a.tmps) = true then Oper.wp Tryz.prog o a w K Q else E := by
 have hw : Region.wanted o (yielded ops a.tmps) = true := by simp [Region.wanted, hgd]
 rw [if_pos hw]
 unfold wpList at h2
 rw [if_pos hw] at h2
 rcases h2 with h2 | ⟨_, a', w', h3, _⟩
 ·unfold Oper.wp at *
  generalize (execOp a.eval o).run Tryz.prog w = r at *
  cases r with
  | ok nx w' =>
   cases nx <;> simp only [Oper.upon] at h2 ⊢ <;>
    first
     | exact h2.2
     | exact h2
     | exact Calls.mono h2 (fun e w'' he => by
         cases e with
         | returned r => exact he.2
         | panicked c => exact absurd he.1 (by simp)
         | outgrown => obtain ⟨a', w', h3, _⟩ := he; exact absurd h3 (by simp))
     | exact Rows.mono h2 (fun _ _ he => he.2)
  | halt x w' => cases x <;> simp only [Oper.upon] at h2 ⊢ <;> first | exact h2 | exact absurd h2.1 (by simp)
 ·exact absurd h3 (by simp)
theorem step_appS1 {ops : Array Oper} {o : Oper} {a : Act} {w : World} {K : Act → World → Prop} {Q : Exit → Act → World → Prop} {E : Prop} (hgd : o.guard = none) (s x : Operand)
    (ho : o.op = .call { callee := .builtin .append, args := #[s, x], argTypes := #[26, 26] }) (base : Nat) (v : Value) (L : List Sp) (g : Nat) (y : Sp)
    (hs : a.eval s = v) (hx : a.eval x = .slice (some ⟨g, 0, none⟩) 1 1) (hown : OwnS base w v L) (hc : SpIn w g 0 y) (hb : L.length + 1 ≤ 5864062014805) (hbase : base ≤ w.heap.size)
    (h : ∀ v' w', OwnS base w' v' (L ++ [y]) → w.grownBy w' v.ownBlock → K (a.put o.dst v') w') :
    if Region.wanted o (yielded ops a.tmps) = true then Oper.wp Tryz.prog o a w K Q else E := by
 refine step_lift1 hgd ?_
 obtain ⟨i0, hi, hz0, hz1, hz2⟩ := info_parts infoSpanZ
 refine wpList_append_own w hgd s x 26 ho base 31 i0 _ 4 24 Tryz.underlying26 hi hz0 hz1 hz2 rfl (by decide) v L.length (spcs L) hs hown ⟨g, 0, none⟩ 1 1 (spcs [y]) hx rfl ?_ (spcs_one _) (by unfold maxLen; omega) (by omega) hbase ?_
 ·intro j u hj
  rw [Go.WideShapes.add_plain, Nat.zero_add]
  have e : spcs [y] = [.float .f64 y.a, .float .f64 y.b, .bool y.p, .bool y.q] := rfl
  rw [e] at hj
  match j, hj with
  | 0, hj => cases hj; exact hc.1
  | 1, hj => cases hj; exact hc.2.1
  | 2, hj => cases hj; exact hc.2.2.1
  | 3, hj => cases hj; exact hc.2.2.2
  | j + 4, hj => simp at hj
 ·intro v' w' h1 h2 h3
  exact ⟨rfl, h v' w' (by unfold OwnS; rw [spcs_app] at h1; simpa using h1) h2⟩
theorem stepBuild1S {ops : Array Oper} {o : Oper} {a : Act} {w : World} {K : Act → World → Prop} {Q : Exit → Act → World → Prop} {E : Prop} (hg : o.guard = none) (x : Operand) (hop : o.op = Op.buildSlice 26 1 #[(0, x)]) (p : Sp)
    (hx : a.eval x = .agg #[.float .f64 p.a, .float .f64 p.b, .bool p.p, .bool p.q])
    (hK : ∀ m w', m = w.heap.size → w' = w.alloc (.cells #[.float .f64 p.a, .float .f64 p.b, .bool p.p, .bool p.q] 31) → K (a.put o.dst (.slice (some ⟨m, 0, none⟩) 1 1)) w') :
    if Region.wanted o (yielded ops a.tmps) = true then Oper.wp Tryz.prog o a w K Q else E := by
 have hw : Region.wanted o (yielded ops a.tmps) = true := by simp [Region.wanted, hg]
 rw [if_pos hw]
 obtain ⟨d, p', t, ps, af, gd⟩ := o
 subst hop
 unfold Oper.wp execOp
 simp only [List.map_toArray, List.map_cons, List.map_nil, hx]
 go_simp
 exact hK _ _ rfl rfl
def ils (L : List Int) : List Value := L.map fun b => .int .i64 b
theorem ils_app (L M : List Int) : ils L ++ ils M = ils (L ++ M) := by simp [ils]
theorem infoI64 : (Tryz.prog.info? 2).map (fun i => (i.zero, i.size, i.bytes)) = some (some (.int .i64 0), 1, 8) := by kernel_rfl
def OwnN (base : Nat) (w : World) (v : Value) (L : List Int) : Prop := w.ownsRow base 2 1 v L.length (ils L)
theorem OwnN.empty {base g : Nat} {w : World} (hb : base ≤ w.heap.size) (hg : w.heap.size = g) : OwnN base (w.alloc (.cells #[] 2)) (.slice (some ⟨g, 0, none⟩) 0 0) [] := by
 subst hg
 exact World.ownsRow_made w #[] 0 hb (by unfold maxLen; omega) rfl
theorem OwnN.up {base : Nat} {w w' : World} {v : Value} {L : List Int} (h : OwnN base w v L) (u : Old w w') : OwnN base w' v L := by
 refine ⟨h.1, ?_⟩
 rcases h.2 with e | ⟨g, cap, cur, e, hb', hg, r⟩
 ·exact .inl e
 ·exact .inr ⟨g, cap, cur, e, hb', by rw [u.block g (lt_of_block hg)]; exact hg, r⟩
theorem OwnN.shape {base : Nat} {w : World} {v : Value} {L : List Int} (h : OwnN base w v L) (hn : 0 < L.length) :
    ∃ g cap, v = .slice (some ⟨g, 0, none⟩) L.length cap ∧ base ≤ g ∧ g < w.heap.size ∧ ∀ i (hi : i < L.length), w.cell? ⟨g, i, none⟩ = some (.int .i64 L[i]) := by
 have h2 := h
 unfold OwnN at h2
 rcases h2.2 with ⟨_, e⟩ | ⟨g, cap, cur, rfl, hb, hg, hnc, hcm, hcs, htk⟩
 ·omega
 ·refine ⟨g, cap, rfl, hb, lt_of_block hg, fun i hi => ?_⟩
  rw [h2.cellAt i (by omega)]
  simp [ils, hi]
theorem wp_appN {ops : Array Oper} {rest : List Oper} {o : Oper} {a : Act} {Q : Exit → Act → World → Prop} {w : World} (hgd : o.guard = none) (s x : Operand)
    (ho : o.op = .call { callee := .builtin .append, args := #[s, x], argTypes := #[55, 55] }) (base : Nat) (v : Value) (L : List Int) (g c1 : Nat) (y : Int)
    (hs : a.eval s = v) (hx : a.eval x = .slice (some ⟨g, 0, none⟩) 1 c1) (hown : OwnN base w v L) (hc : w.cell? ⟨g, 0, none⟩ = some (.int .i64 y)) (hb : L.length + 1 ≤ 1000) (hbase : base ≤ w.heap.size)
    (h : ∀ v' w', OwnN base w' v' (L ++ [y]) → w.grownBy w' v.ownBlock → wpList Tryz.prog ops Q rest (a.put o.dst v') w') : wpList Tryz.prog ops Q (o :: rest) a w := by
 obtain ⟨i0, hi, hz0, hz1, hz2⟩ := info_parts infoI64
 refine wpList_append_own w hgd s x 55 ho base 2 i0 _ 1 8 Tryz.underlying55 hi hz0 hz1 hz2 rfl (by decide) v L.length (ils L) hs hown ⟨g, 0, none⟩ 1 c1 (ils [y]) hx rfl ?_ ?_ (by unfold maxLen; omega) (by omega) hbase ?_
 ·intro j u hj
  match j with
  | 0 => simp [ils] at hj; subst hj; rw [Go.WideShapes.add_plain]; exact hc
  | j + 1 => simp [ils] at hj
 ·intro u hu; simp [ils] at hu; subst hu; rfl
 ·intro v' w' h1 h2 h3
  exact h v' w' (by unfold OwnN; rw [ils_app] at h1; simpa using h1) h2
theorem cell_oneN (w : World) (y : Int) (g : Nat) (hg : w.heap.size = g) : (w.alloc (.cells #[.int .i64 y] 2)).cell? ⟨g, 0, none⟩ = some (.int .i64 y) := by subst hg; simp
theorem BX.grown {W W' : World} {m : Nat} {s1 s2 s3 : Int} {v1 v2 v3 : Value} {row : Option Nat} (h : BX W m s1 s2 s3 v1 v2 v3) (g : W.grownBy W' row) (hn : some m ≠ row) : BX W' m s1 s2 s3 v1 v2 v3 := by
 have hz : m < W.heap.size := World.block_lt_of_cell? W _ h.1.1
 exact ⟨h.1.grown g hn, fun j hj => by rw [g.frozen_far ⟨m, j, none⟩ hz hn]; exact h.2 j hj⟩
theorem BX.other {W : World} {m k o : Nat} {s1 s2 s3 : Int} {v1 v2 v3 : Value} (h : BX W m s1 s2 s3 v1 v2 v3) (hk : k ≠ m) (u : Value) : BX (W.setCell ⟨k, o, none⟩ u) m s1 s2 s3 v1 v2 v3 :=
 ⟨h.1.otherB hk u, fun j hj => by simp [h.2 j hj]⟩
structure DBx (w : World) (rb sb : Nat) (s1 s2 s3 : Int) (v1 v2 v3 : Value) (W : World) : Prop where
 hr : BX W rb 0 0 0 (.slice none 0 0) (.slice none 0 0) (.slice none 0 0)
 hs : BX W sb s1 s2 s3 v1 v2 v3
 u : Old w W
 le : w.heap.size ≤ rb
 lt : rb < sb
 z : sb < W.heap.size
theorem DBx.old {w W W' : World} {rb sb : Nat} {s1 s2 s3 : Int} {v1 v2 v3 : Value} (h : DBx w rb sb s1 s2 s3 v1 v2 v3 W) (u : Old W W') : DBx w rb sb s1 s2 s3 v1 v2 v3 W' :=
 ⟨h.hr.chg (S := []) (Pk.Chg.old u) (by simp), h.hs.chg (S := []) (Pk.Chg.old u) (by simp), h.u.trans u, h.le, h.lt, Nat.lt_of_lt_of_le h.z u.size⟩
theorem DBx.grown {w W W' : World} {rb sb : Nat} {s1 s2 s3 : Int} {v1 v2 v3 : Value} {row : Option Nat} (h : DBx w rb sb s1 s2 s3 v1 v2 v3 W) (g : W.grownBy W' row) (hr : ∀ k, row = some k → sb < k) : DBx w rb sb s1 s2 s3 v1 v2 v3 W' := by
 have n1 : some rb ≠ row := fun e => by have := hr rb e.symm; have := h.lt; omega
 have n2 : some sb ≠ row := fun e => by have := hr sb e.symm; omega
 exact ⟨h.hr.grown g n1, h.hs.grown g n2, Below.grown h.u g (by have := h.le; have := h.lt; have := h.z; omega) (fun k e => by have := hr k e; have := h.le; have := h.lt; omega), h.le, h.lt, Nat.lt_of_lt_of_le h.z g.size⟩
theorem DBx.set {w W : World} {rb sb : Nat} {s1 s2 s3 : Int} {v1 v2 v3 : Value} (h : DBx w rb sb s1 s2 s3 v1 v2 v3 W) (x : Value) : DBx w rb sb s1 s2 s3 x v2 v3 (W.setCell ⟨sb, 3, none⟩ x) ∧ DBx w rb sb s1 s2 s3 v1 x v3 (W.setCell ⟨sb, 4, none⟩ x) ∧ DBx w rb sb s1 s2 s3 v1 v2 x (W.setCell ⟨sb, 5, none⟩ x) := by
 have hn : sb ≠ rb := by have := h.lt; omega
 have U : ∀ o, Old w (W.setCell ⟨sb, o, none⟩ x) := fun o => h.u.setCell (by show w.heap.size ≤ sb; have := h.le; have := h.lt; omega) x
 have Z : ∀ o, sb < (W.setCell ⟨sb, o, none⟩ x).heap.size := fun o => by simpa using h.z
 exact ⟨⟨h.hr.other hn x, (h.hs.setV x).1, U 3, h.le, h.lt, Z 3⟩, ⟨h.hr.other hn x, (h.hs.setV x).2.1, U 4, h.le, h.lt, Z 4⟩, ⟨h.hr.other hn x, (h.hs.setV x).2.2, U 5, h.le, h.lt, Z 5⟩⟩
theorem DBx.set012 {w W : World} {rb sb : Nat} {r1 r2 r3 : Int} {v1 v2 v3 : Value} (h : DBx w rb sb r1 r2 r3 v1 v2 v3 W) (s1 s2 s3 : Int) : DBx w rb sb s1 s2 s3 v1 v2 v3 (((W.setCell ⟨sb, 0, none⟩ (.int .i64 s1)).setCell ⟨sb, 1, none⟩ (.int .i64 s2)).setCell ⟨sb, 2, none⟩ (.int .i64 s3)) := by
 have hn : sb ≠ rb := by have := h.lt; omega
 have hl : w.heap.size ≤ sb := by have := h.le; have := h.lt; omega
 exact ⟨((h.hr.other hn _).other hn _).other hn _, h.hs.set012 s1 s2 s3, ((h.u.setCell (p := ⟨sb, 0, none⟩) hl _).setCell (p := ⟨sb, 1, none⟩) hl _).setCell (p := ⟨sb, 2, none⟩) hl _, h.le, h.lt, by simpa using h.z⟩
theorem DBx.th {w W : World} {rb sb : Nat} {s1 s2 s3 : Int} {v1 v2 v3 : Value} (h : DBx w rb sb s1 s2 s3 v1 v2 v3 W) : (∃ z, W.cell? ⟨sb, 4, none⟩ = some z) ∧ W.frozen? ⟨sb, 4, none⟩ = false := ⟨⟨_, h.hs.1.2.2.2.2.1⟩, h.hs.2 4 (by omega)⟩
theorem own_far {base : Nat} {t : TypeId} {c n : Nat} {W : World} {v u : Value} {vs : List Value} {a : Addr} (h : W.ownsRow base t c v n vs) (ha : a.block < base) : (W.setCell a u).ownsRow base t c v n vs := by
 refine ⟨h.1, ?_⟩
 rcases h.2 with e | ⟨g, cap, cur, e, hb', hg, r⟩
 ·exact .inl e
 ·exact .inr ⟨g, cap, cur, e, hb', by rw [Below.heap_setCell W a u g (fun q => by omega)]; exact hg, r⟩
theorem one_S {W y : World} {p : Sp} {m : Nat} (hm : m = W.heap.size) (hy : y = W.alloc (.cells #[.float .f64 p.a, .float .f64 p.b, .bool p.p, .bool p.q] 31)) : SpIn y m 0 p := by
 subst hm hy; simp [SpIn]
theorem alloc_old {W y : World} {o : Obj} (hy : y = W.alloc o) : Old W y := by
 rw [hy]; exact (Old.refl W).alloc o
def tkNs : Nat → List Nat → Option (List Int × List Nat)
 | 0, L => some ([], L)
 | n + 1, L => match tkN L with | none => none | some (x, B) => match tkNs n B with | none => none | some (xs, C) => some (x :: xs, C)
theorem tkNs_succ (n : Nat) (L : List Nat) : tkNs (n + 1) L = match tkN L with | none => none | some (x, B) => match tkNs n B with | none => none | some (xs, C) => some (x :: xs, C) := rfl
def tkTail (zs : List Int) (C : List Nat) : Option (Raw × List Nat) := match tkR 16 1 C with
 | none => none
 | some (xs, D) => match tkR 8 2 D with
  | none => none
  | some (ys, E) => match tkR 16 1 E with
   | none => none
   | some (qs, F) => some (⟨zs.getD 0 0, zs.getD 1 0, zs.getD 2 0, xs, ys, qs⟩, F)
theorem tkSub_start (L : List Nat) : tkSub L = (tkNs 3 L).bind fun p => tkTail ([] ++ p.1) p.2 := by
 unfold tkSub
 rw [tkNs_succ]
 cases tkN L with
 | none => rfl
 | some p1 =>
 obtain ⟨s1, A⟩ := p1
 simp only
 rw [tkNs_succ]
 cases tkN A with
 | none => rfl
 | some p2 =>
 obtain ⟨s2, B⟩ := p2
 simp only
 rw [tkNs_succ]
 cases tkN B with
 | none => rfl
 | some p3 =>
 obtain ⟨s3, C⟩ := p3
 rfl
theorem no_raw {L : List Nat} (h : ∀ r : Raw, tkSub L = some (r, []) → r.chk ≠ 0) : ∀ r : Raw, r.Ok → r.chk = 0 → L ≠ r.enc [] := fun r hr hc e => by
 have q := tkSub_at r hr []
 rw [← e] at q
 exact h r q hc
theorem tkN_cut {L B : List Nat} {z : Int} (h : tkN L = some (z, B)) : Pk.lnK (Pk.gd L) L.length ≠ 0 ∧ Pk.lnK (Pk.gd L) L.length ≤ L.length ∧ Pk.lnV (Pk.gd L) L.length = z ∧ B = L.drop (Pk.lnK (Pk.gd L) L.length) := by
 unfold tkN at h
 split at h
 ·cases h
 ·rename_i k
  cases h
  exact ⟨k, Pk.ln_le _ _ 11 0, rfl, rfl⟩
end Go.Proofs.YtajoodkapiifcaaGreat
