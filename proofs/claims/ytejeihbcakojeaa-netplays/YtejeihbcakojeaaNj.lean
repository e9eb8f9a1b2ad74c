/- The document's letters, its Join, Same, New, list; conditions: the rows lie in memory. -/
import Derived.Test.YtejeihbcakojeaaNh
namespace Go.Proofs.Ytejeihbcakojeaa
open Go.RowKit Go.Lib
set_option linter.unusedVariables false
set_option linter.unusedSimpArgs false
set_option maxRecDepth 20000
theorem infoRt : (Try.prog.info? 48).map (fun i => (i.zero, i.size, i.bytes)) = some (some (.agg #[.int .i64 0, .int .i64 0, .slice none 0 0]), 3, 40) := by kernel_rfl
/-- A row of letters that is owned. -/
def OwnR (base : Nat) (w : World) (v : Value) (X : List Lt) : Prop := w.ownsRow base 48 3 v X.length (ltcs X)
theorem OwnR.old {base : Nat} {w w' : World} {v : Value} {X : List Lt} (h : OwnR base w v X) (u : Old w w') : OwnR base w' v X := by
  refine ⟨h.1, ?_⟩
  rcases h.2 with e | ⟨g, cap, cur, e, hb', hg, r⟩
  · exact .inl e
  · exact .inr ⟨g, cap, cur, e, hb', u.block hg, r⟩
theorem OwnR.chg {base : Nat} {S : List Nat} {w w' : World} {v : Value} {X : List Lt} (h : OwnR base w v X) (u : Chg S w w') (hn : ∀ g, v.ownBlock = some g → g ∉ S) : OwnR base w' v X := by
  refine ⟨h.1, ?_⟩
  rcases h.2 with e | ⟨g, cap, cur, rfl, hb', hg, r⟩
  · exact .inl e
  · exact .inr ⟨g, cap, cur, rfl, hb', u.heapAt hg (hn g rfl), r⟩
theorem OwnR.mono {base b' : Nat} {w : World} {v : Value} {X : List Lt} (h : OwnR base w v X) (hb : b' ≤ base) : OwnR b' w v X := by
  refine ⟨h.1, ?_⟩
  rcases h.2 with e | ⟨g, cap, cur, e, hb', r⟩
  · exact .inl e
  · exact .inr ⟨g, cap, cur, e, Nat.le_trans hb hb', r⟩
theorem OwnR.lt {base : Nat} {w : World} {v : Value} {X : List Lt} (h : OwnR base w v X) (g : Nat) (hg : v.ownBlock = some g) : base ≤ g ∧ g < w.heap.size := World.ownsRow.lt h g hg
theorem OwnR.nil (base : Nat) (w : World) : OwnR base w (.slice none 0 0) [] := World.ownsRow_nil w base _ 3
theorem OwnR.len {base : Nat} {w : World} {v : Value} {X : List Lt} (h : OwnR base w v X) : ∃ a c, v = .slice a X.length c := by
  rcases h.2 with ⟨rfl, e⟩ | ⟨g, cap, cur, rfl, _⟩
  · exact ⟨none, 0, by rw [e]⟩
  · exact ⟨_, _, rfl⟩
/-- A row's block. -/
theorem OwnR.cases {base : Nat} {w : World} {v : Value} {X : List Lt} (h : OwnR base w v X) : (v = .slice none 0 0 ∧ X = []) ∨ ∃ g cap cur, v = .slice (some ⟨g, 0, none⟩) X.length cap ∧ base ≤ g ∧ w.heap[g]? = some (.cells cur 48 (0, 0)) ∧ X.length ≤ cap ∧ cap ≤ maxLen ∧ cur.size = cap * 3 ∧ cur.toList.take (X.length * 3) = ltcs X := by
  rcases h.2 with ⟨e, h0⟩ | ⟨g, cap, cur, e, h1⟩
  · exact .inl ⟨e, List.length_eq_zero_iff.1 h0⟩
  · exact .inr ⟨g, cap, cur, e, h1⟩
theorem ownR_of {base : Nat} {w : World} {g cap : Nat} {cur : Array Value} {X : List Lt} (hb : base ≤ g) (hg : w.heap[g]? = some (.cells cur 48 (0, 0))) (h1 : X.length ≤ cap) (h2 : cap ≤ maxLen) (h3 : cur.size = cap * 3) (h4 : cur.toList.take (X.length * 3) = ltcs X) : OwnR base w (.slice (some ⟨g, 0, none⟩) X.length cap) X :=
  ⟨ltcs_len X, .inr ⟨g, cap, cur, rfl, hb, hg, h1, h2, h3, h4⟩⟩
theorem OwnR.at {base : Nat} {w : World} {v : Value} {X : List Lt} (h : OwnR base w v X) (i : Nat) (hi : i < X.length) : ∃ g c, v = .slice (some ⟨g, 0, none⟩) X.length c ∧ X.length ≤ c ∧ c ≤ 9223372036854775807 ∧ (w.cell? ⟨g, i * 3, none⟩ = some (.int .i64 X[i].f) ∧ w.cell? ⟨g, i * 3 + 1, none⟩ = some (.int .i64 X[i].t) ∧ w.cell? ⟨g, i * 3 + 2, none⟩ = some X[i].v) ∧ ∀ j, w.frozen? ⟨g, j, none⟩ = false := by
  rcases h.cases with ⟨_, rfl⟩ | ⟨g, cap, cur, rfl, hb, hg, h1, h2, h3, h4⟩
  · simp at hi
  · unfold maxLen at h2
    have q : ∀ j, j < 3 → w.cell? ⟨g, i * 3 + j, none⟩ = (ltc X[i])[j]? := fun j hj => by
      rw [Go.Joins.cell_of_block hg, ← Array.getElem?_toList]
      have q2 : (cur.toList.take (X.length * 3))[i * 3 + j]? = cur.toList[i * 3 + j]? := by rw [List.getElem?_take, if_pos (by omega)]
      rw [← q2, h4]
      exact flat_get ltc 3 ltc_len X i j hi hj
    exact ⟨g, cap, rfl, h1, by omega, ⟨q 0 (by omega), q 1 (by omega), q 2 (by omega)⟩, fun j => Go.Joins.unfrozen_of_block hg j⟩
/-- append of one letter. -/
theorem wp_appR {ops : Array Oper} {rest : List Oper} {o : Oper} {a : Act} {Q : Exit → Act → World → Prop} {w : World} (hgd : o.guard = none) (s x : Operand)
    (ho : o.op = .call { callee := .builtin .append, args := #[s, x], argTypes := #[44, 44] }) (base : Nat) (v : Value) (X : List Lt) (g : Nat) (y : Lt)
    (hs : a.eval s = v) (hx : a.eval x = .slice (some ⟨g, 0, none⟩) 1 1) (hown : OwnR base w v X) (hc : w.heap[g]? = some (.cells #[.int .i64 y.f, .int .i64 y.t, .slice y.a y.L.length y.c] 48 (0, 0))) (hb : X.length + 1 ≤ 3518437208883) (hbase : base ≤ w.heap.size)
    (h : ∀ v' w', OwnR base w' v' (X ++ [y]) → Chg v.ownBlock.toList w w' → (v'.ownBlock = v.ownBlock ∨ v'.ownBlock = some w.heap.size) → wpList Try.prog ops Q rest (a.put o.dst v') w') : wpList Try.prog ops Q (o :: rest) a w := by
  obtain ⟨i0, hi, hz0, hz1, hz2⟩ := info_parts infoRt
  refine wpList_append_own_at w hgd s x 44 ho base 48 i0 _ 3 40 Try.underlying44 hi hz0 hz1 hz2 rfl (by decide) v X.length (ltcs X) hs hown ⟨g, 0, none⟩ 1 1 (ltcs [y]) hx rfl ?_ (ltcs_one _) (by unfold maxLen; omega) (by omega) hbase ?_
  · intro j u hj
    rw [Go.WideShapes.add_plain, Nat.zero_add, Go.Joins.cell_of_block hc, ← hj, ltcs_one1, ← Array.getElem?_toList]
    rfl
  · intro v' w' h1 h2 h3 h4
    exact h v' w' (by unfold OwnR; rw [ltcs_app] at h1; simpa using h1) (Chg.grown h2 (fun k e => Option.mem_toList.2 e)) h4
theorem OwnR.empty (w : World) (g : Nat) (hg : w.heap.size = g) : OwnR w.heap.size (w.alloc (.cells #[] 48)) (.slice (some ⟨g, 0, none⟩) 0 0) [] := by
  subst hg
  exact ownR_of (X := []) (cap := 0) (Nat.le_refl _) (alloc_at w (.cells #[] 48)) (by simp) (by unfold maxLen; omega) rfl rfl
theorem cat_gd (L M : List Nat) : Pk.cat L.length (gd L) (gd M) = gd (L ++ M) := by
  funext i
  unfold Pk.cat
  by_cases h : i < L.length
  · rw [if_pos h]; simp [gd, List.getElem?_append_left h]
  · rw [if_neg h]; simp [gd, List.getElem?_append_right (by omega : L.length ≤ i)]
theorem wp_appL {ops : Array Oper} {rest : List Oper} {o : Oper} {a : Act} {Q : Exit → Act → World → Prop} {w : World} (hgd : o.guard = none) (s x : Operand)
    (ho : o.op = .call { callee := .builtin .append, args := #[s, x], argTypes := #[26, 26] }) (v u : Value) (L M : List Nat)
    (hs : a.eval s = v) (hx : a.eval x = u) (hown : Own w v L) (hrow : Rw w u M) (hb : L.length + M.length ≤ 140737488355328)
    (h : ∀ v' w', Own w' v' (L ++ M) → Grow w v w' v' → wpList Try.prog ops Q rest (a.put o.dst v') w') : wpList Try.prog ops Q (o :: rest) a w := by
  refine Pk.wp_app hgd s x ho 0 v u L.length M.length (gd L) (gd M) hs hx hown hrow hb (Nat.zero_le _) (fun v' w' h1 h2 h3 => ?_)
  have o' : Own w' v' (L ++ M) := by
    unfold Own
    rw [List.length_append, ← cat_gd]
    exact h1
  refine h v' w' o' ⟨⟨h2.by_.os, h2.by_.tape, h2.by_.output, h2.by_.size, fun k hk hn => h2.by_.block k hk (fun e => hn (by rw [Option.mem_toList]; exact e.symm))⟩, fun g e => ?_⟩
  rcases h2.row with r | r
  · exact .inl (by rw [← r]; exact e)
  · exact .inr ⟨r g e, (h1.own.lt g e).2⟩
theorem OwnR.ktA {base : Nat} {A : List Nat} {W W' : World} {v : Value} {X : List Lt} (h : OwnR base W v X) (k : Kt A W W') : OwnR base W' v X := by
  refine ⟨h.1, ?_⟩
  rcases h.2 with e | ⟨g, cap, cur, rfl, hb', hg, r⟩
  · exact .inl e
  · exact .inr ⟨g, cap, cur, rfl, hb', k.ty g cur _ _ hg (by decide) (by decide), r⟩
/-- Bytes that the document names: an argument's, or new ones. -/
def Sr (w0 W : World) (v : Value) (L : List Nat) : Prop := Rw w0 v L ∨ Own W v L
theorem Sr.row {w0 W : World} {v : Value} {L : List Nat} (h : Sr w0 W v L) (u : Old w0 W) : Rw W v L := h.elim (fun r => r.old u) (fun o => o.row)
theorem Sr.old {w0 W W' : World} {v : Value} {L : List Nat} (h : Sr w0 W v L) (u : Old W W') : Sr w0 W' v L := h.imp id (fun o => o.old u)
theorem Sr.kt {w0 W W' : World} {A : List Nat} {v : Value} {L : List Nat} (h : Sr w0 W v L) (k : Kt A W W') : Sr w0 W' v L := h.imp id (fun o => o.kt k)
theorem Sr.nil (w0 W : World) : Sr w0 W (.slice none 0 0) [] := .inr (Own.nil _)
/-- The document's net: its letters. -/
structure DocAt (w0 W : World) (v : Value) (Y : List Lt) : Prop where
  row : OwnR w0.heap.size W v Y
  byt : ∀ y ∈ Y, Sr w0 W y.v y.L ∧ y.L.length ≤ 140737488355328
theorem DocAt.old {w0 W W' : World} {v : Value} {Y : List Lt} (h : DocAt w0 W v Y) (u : Old W W') : DocAt w0 W' v Y := ⟨h.row.old u, fun y hy => ⟨(h.byt y hy).1.old u, (h.byt y hy).2⟩⟩
theorem DocAt.kt {w0 W W' : World} {A : List Nat} {v : Value} {Y : List Lt} (h : DocAt w0 W v Y) (k : Kt A W W') : DocAt w0 W' v Y := ⟨h.row.ktA k, fun y hy => ⟨(h.byt y hy).1.kt k, (h.byt y hy).2⟩⟩
set_option maxHeartbeats 1000000 in
set_option maxRecDepth 20000 in
theorem join_any (v : Value) (L : List Nat) (w : World) (h : Rw w v L) (hb : L.length ≤ 140737488355328) : Calls Try.prog 27 #[.slice none 0 0, v] w fun e w' => ∃ a c, e = .returned (.slice a L.length c) ∧ Own w' (.slice a L.length c) L ∧ Old w w' := by
  obtain ⟨pa, pc, rfl⟩ := h.len
  have HR := hid h
  have HB := hid hb
  have HC := hid (fun (i : Nat) (hi : i < L.length) => show ∃ b off, pa = some ⟨b, off, none⟩ ∧ L.length ≤ pc ∧ w.cell? ⟨b, off + i, none⟩ = some (.int .u8 ((L.getD i 0 : Nat) : Int)) from by
    obtain ⟨b, off, cap, e, hc, h1, _⟩ := h.cells (by omega)
    cases e
    exact ⟨b, off, rfl, h1, hc i _ (by simp [bv, hi, List.getD_eq_getElem?_getD])⟩)
  have HBy := hid h.byt
  clear h hb
  obtain ⟨n, hn⟩ : ∃ n, n = L.length := ⟨_, rfl⟩
  have HN := hid hn
  rw [← hn] at HR HB HC ⊢
  have l9 : (n : Int) ≤ 140737488355328 := by have := HB.out; omega
  go_enter Try.func27, Try.ntmps27
  clear hn
  go_wp2
  go_loopw [0, 5] (fun us c wr => ∃ (i : Nat) (a : Option Addr) (cp : Nat), i ≤ n ∧ c = .int .i64 (i : Nat) ∧ us = .slice a i cp ∧ Own wr (.slice a i cp) (L.take i) ∧ (∀ g, (Value.slice a i cp).ownBlock = some g → w.heap.size ≤ g) ∧ Old w wr) (fun _ c _ => n - (intOf c).toNat)
  case atStart => exact ⟨0, none, 0, Nat.zero_le _, rfl, rfl, by simpa using Own.nil w, (fun g e => by cases e), Old.refl _⟩
  case round =>
    obtain ⟨i, a, cp, hi, rfl, rfl, hO, hg, hU⟩ := hrel
    have HO := hid hO
    have HG := hid hg
    have HU := hid hU
    clear hO hg hU
    by_cases hlt : i < n
    · obtain ⟨b, off, e, hcap, hcell⟩ := HC.out i hlt
      subst e
      have k0 := HU.out.keep hcell
      have hil : i < L.length := by rw [← HN.out]; exact hlt
      have HT := hid (show L.take (i + 1) = L.take i ++ [L.getD i 0] from by rw [List.getD_eq_getElem?_getD, List.getElem?_eq_getElem hil]; exact (List.take_append_getElem hil).symm)
      have HL := hid (show (L.take i).length = i from by rw [List.length_take]; have := HN.out; omega)
      have hx : L.getD i 0 < 256 := by rw [List.getD_eq_getElem?_getD, List.getElem?_eq_getElem hil]; exact HBy.out _ (List.getElem_mem hil)
      have HX := hid hx
      have l2 : (0 : Int) ≤ (i : Int) := by omega
      have l3 : (i : Int) < (n : Int) := by omega
      clear hx hcell hil
      generalize L.getD i 0 = y at *
      go_wp2_with (at_builtin; refine wp_appL rfl (.tmp 12) (.tmp 17) rfl _ _ (L.take i) [y] rfl rfl (HO.out.old ((Old.refl wr).alloc _)) (Rw.one wr y _ HX.out rfl) (by rw [HL.out]; simp; omega) ?_; intro v5 w5 o5 g5; have O5 := hid o5; have G5 := hid g5; clear o5 g5)
      obtain ⟨a5, c5, e5⟩ := O5.out.len
      have hl5 : (L.take i ++ [y]).length = i + 1 := by rw [List.length_append, HL.out]; rfl
      rw [hl5] at e5
      subst e5
      clear hl5
      go_roundw
      case rel =>
        refine ⟨i + 1, a5, c5, hlt, by go_num, rfl, by rw [HT.out]; exact O5.out, fun g e => ?_, ?_⟩
        · rcases G5.out.2 g e with q | q
          · exact HG.out g q
          · have := HU.out.size; simp at q; omega
        · exact (G5.out.1).oldOf (HU.out.alloc _) (fun k hk => HG.out k (Option.mem_toList.1 hk))
      case measure => simp [intOf]; omega
    · obtain rfl : i = n := by omega
      have l3 : ¬ (i : Int) < (i : Int) := by omega
      have HE := hid (show L.take i = L from by rw [HN.out, List.take_length])
      go_wp2
      refine bodyPost_ret (v := .slice a i cp) (by simp [results, Try.results27, go_sem]) rfl ?_
      exact ⟨a, cp, rfl, by have := HO.out; rw [HE.out] at this; exact this, HU.out⟩
set_option maxHeartbeats 1000000 in
set_option maxRecDepth 20000 in
theorem rsame_any (f t : Int) (a b : Option Addr) (c d : Nat) (L : List Nat) (w : World) (h1 : Rw w (.slice a L.length c) L) (h2 : Rw w (.slice b L.length d) L) : Calls Try.prog 18 #[.agg #[.int .i64 f, .int .i64 t, .slice a L.length c], .agg #[.int .i64 f, .int .i64 t, .slice b L.length d]] w fun e w' => e = .returned (.bool true) ∧ Old w w' := by
  have HU := hid (show Old w ((w.alloc (.cells #[.int .i64 f, .int .i64 t, .slice a L.length c] 48)).alloc (.cells #[.int .i64 f, .int .i64 t, .slice b L.length d] 48)) from ((Old.refl w).alloc _).alloc _)
  have HS := hid (fun (W : World) (u : Old w W) => sameL (.slice a L.length c) (.slice b L.length d) L W (h1.old u) (h2.old u))
  clear h1 h2
  generalize L.length = n at *
  go_enter Try.func18, Try.ntmps18
  go_wp2_with (go_at_call 10; refine (HS.out _ HU.out).mono ?_; rintro e w1 ⟨rfl, u1⟩; have U1 := hid (HU.out.trans u1); clear u1)
  go_ret
  exact ⟨rfl, U1.out⟩
set_option maxHeartbeats 1000000 in
set_option maxRecDepth 20000 in
theorem rof_any (f t : Int) (a : Option Addr) (n c : Nat) (w : World) : Calls Try.prog 17 #[.agg #[.int .i64 f, .int .i64 t, .slice a n c]] w fun e w' => e = .returned (.agg #[.int .i64 f, .int .i64 t, .slice a n c]) ∧ Old w w' := by
  go_enter Try.func17, Try.ntmps17
  go_upto_region 1 with (fail)
  have HU := hid (show Old w ((w.alloc (.cells #[.int .i64 f, .int .i64 t, .slice a n c] 30)).alloc (.cells #[.int .i64 0, .int .i64 0, .slice none 0 0] 48)) from ((Old.refl w).alloc _).alloc _)
  have B1 := hid (show ((w.alloc (.cells #[.int .i64 f, .int .i64 t, .slice a n c] 30)).alloc (.cells #[.int .i64 0, .int .i64 0, .slice none 0 0] 48)).heap[w.heap.size]? = some (.cells #[.int .i64 f, .int .i64 t, .slice a n c] 30 (0, 0)) from alloc_keep (alloc_at w _))
  have B2 := hid (show ((w.alloc (.cells #[.int .i64 f, .int .i64 t, .slice a n c] 30)).alloc (.cells #[.int .i64 0, .int .i64 0, .slice none 0 0] 48)).heap[w.heap.size + 1]? = some (.cells #[.int .i64 0, .int .i64 0, .slice none 0 0] 48 (0, 0)) from by have := alloc_at (w.alloc (.cells #[.int .i64 f, .int .i64 t, .slice a n c] 30)) (.cells #[.int .i64 0, .int .i64 0, .slice none 0 0] 48); simpa using this)
  generalize (w.alloc (.cells #[.int .i64 f, .int .i64 t, .slice a n c] 30)).alloc (.cells #[.int .i64 0, .int .i64 0, .slice none 0 0] 48) = w0 at *
  obtain ⟨b1, hb1⟩ : ∃ b1, b1 = w.heap.size := ⟨_, rfl⟩
  obtain ⟨b2, hb2⟩ : ∃ b2, b2 = w.heap.size + 1 := ⟨_, rfl⟩
  have Q1 := hid (show w.heap.size ≤ b2 from by omega)
  rw [← hb1] at B1 ⊢
  rw [← hb2] at B2
  try rw [show b1 + 1 = b2 from by omega]
  clear hb1 hb2
  obtain ⟨x0, x1, x2, -, -, -⟩ := box3 B1.out
  obtain ⟨y0, y1, y2, f0, f1, f2⟩ := box3 B2.out
  obtain ⟨z0, z1, z2, -, -, -⟩ := box3 (box3_set (p := .int .i64 f) (q := .int .i64 t) (r := .slice a n c) B2.out)
  go_wp2
  refine bodyPost_ret (v := .agg #[.int .i64 f, .int .i64 t, .slice a n c]) (by simp [results, Try.results17, go_sem, z0, z1, z2]) rfl ⟨rfl, HU.out.set3 Q1.out⟩
end Go.Proofs.Ytejeihbcakojeaa
