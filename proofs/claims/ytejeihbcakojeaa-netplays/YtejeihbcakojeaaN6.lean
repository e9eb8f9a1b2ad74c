/- A net's Drop, Double and Take; conditions: it lies in memory. -/
import Derived.Test.YtejeihbcakojeaaN5
namespace Go.Proofs.Ytejeihbcakojeaa
open Go.RowKit Go.Lib
set_option linter.unusedVariables false
set_option linter.unusedSimpArgs false
set_option maxRecDepth 20000
theorem drop_res {w w1 : World} {d : Nt} {g c : Nat} {X5 : List Lt} {n5 : Nat} (h : NtAt w d) (hv : d.v.ownBlock = some g) (o1 : OwnT 0 w1 (.slice (some ⟨g, 0, none⟩) n5 c) X5) (hn : X5.length = n5) (ch : Chg [g] w w1) (hs : ∀ x ∈ X5, x ∈ d.X) (hl : X5.length ≤ d.X.length) : NRes w d X5 (w1.setCell ⟨d.nb, 1, none⟩ (.slice (some ⟨g, 0, none⟩) n5 c)) := by
  subst hn
  have hgm : g ∈ d.bs := Nt.mem.2 (.inr hv)
  have hne : d.nb ≠ g := fun e => h.ne (by rw [hv, e])
  have c1 : Chg d.bs w w1 := ch.mono (fun k hk _ => by simp at hk; rw [hk]; exact hgm)
  have c2 : Chg d.bs w (w1.setCell ⟨d.nb, 1, none⟩ (.slice (some ⟨g, 0, none⟩) X5.length c)) := c1.trans (Chg.set (S := d.bs) w1 ⟨d.nb, 1, none⟩ _ (Nt.mem.2 (.inl rfl)))
  have b1 : w1.heap[d.nb]? = some (.cells #[.int .i64 (d.most : Nat), d.v] 57 (0, 0)) := ch.heapAt h.blk (by simpa using hne)
  refine ⟨{ d with a := some ⟨g, 0, none⟩, c := c, X := X5 }, h.put _ c X5 c2 (Go.Joins.block_setCell b1 (.slice (some ⟨g, 0, none⟩) X5.length c) (i := 1)) (o1.chg (Chg.set (S := [d.nb]) w1 ⟨d.nb, 1, none⟩ _ (by simp)) (fun k e => by cases e; simpa using hne.symm)) (fun x hx => .inl (hs x hx)) (by have := h.le; omega), rfl, rfl, rfl, c2, fun k hk => ?_⟩
  rcases Nt.mem.1 hk with e | e
  · exact .inl (Nt.mem.2 (.inl e))
  · cases e; exact .inl hgm
theorem mem_erase {X : List Lt} {i : Nat} {x : Lt} (h : x ∈ X.eraseIdx i) : x ∈ X := List.mem_of_mem_eraseIdx h
set_option maxHeartbeats 1000000 in
set_option maxRecDepth 20000 in
theorem drop_ok (d : Nt) (i : Nat) (w : World) (h : NtAt w d) (hi : i < d.X.length) : Calls Try.prog 12 #[.pointer (some ⟨d.nb, 0, none⟩), .int .i64 (i : Nat)] w fun e w' => e = .returned (.bool true) ∧ NRes w d (d.X.eraseIdx i) w' := by
  have HH := hid (has_yes d i w h hi)
  have HD := hid h
  obtain ⟨c0, c1, -, f1⟩ := h.cells
  rcases h.row.cases with ⟨q, e⟩ | ⟨g, cap, cur, q, _, hg, h1, h2, h3, h4⟩
  · rw [e] at hi; simp at hi
  · have ha : d.a = some ⟨g, 0, none⟩ := by unfold Nt.v at q; exact (Value.slice.inj q).1
    have hc : d.c = cap := by unfold Nt.v at q; exact (Value.slice.inj q).2.2
    have hv : d.v.ownBlock = some g := by rw [q]; rfl
    obtain ⟨m, hm⟩ : ∃ m, m + 1 = d.X.length := ⟨d.X.length - 1, by omega⟩
    have HDel := hid (delete_any g cap cur d.X i m w hg h1 h2 h3 h4 hi hm)
    have hle : (d.X.eraseIdx i).length = m := by rw [List.length_eraseIdx_of_lt hi]; omega
    have HRs := hid (fun (w1 : World) (o1 : OwnT 0 w1 (.slice (some ⟨g, 0, none⟩) m cap) (d.X.eraseIdx i)) (ch : Chg [g] w w1) => drop_res h hv o1 hle ch (fun x hx => mem_erase hx) (by omega))
    have hne : d.nb ≠ g := fun e => h.ne (by rw [hv, e])
    have HFr := hid (show ∀ w1, Chg [g] w w1 → w1.cell? ⟨d.nb, 1, none⟩ = some (.slice (some ⟨g, 0, none⟩) d.X.length cap) ∧ w1.frozen? ⟨d.nb, 1, none⟩ = false from fun w1 ch => ⟨by rw [← ha, ← hc]; exact ch.cell c1 (by simpa using hne), Go.Joins.unfrozen_of_block (ch.heapAt h.blk (by simpa using hne)) 1⟩)
    rw [ha, hc] at c1
    have hb : (i : Int) + 1 ≤ 9223372036854775807 := by unfold maxLen at h2; omega
    have hw1 : IntKind.i64.wrap ((i : Int) + 1) = (i : Int) + 1 := by rw [IntKind.wrap_i64]; omega
    clear h q hg h1 h2 h3 h4 hv hm hle ha hc hne f1 c0
    have HI := hid hi
    clear hi
    generalize d.X.length = n at *
    generalize d.X.eraseIdx i = X5 at *
    generalize d.nb = nb at *
    go_enter Try.func12, Try.ntmps12
    go_upto_region 3 with (go_at_call 22; refine HH.out.mono ?_; rintro e w' ⟨rfl, hw⟩; have hw2 := hw.symm; subst hw2)
    go_wp2_with (go_at_call 23; refine HDel.out.mono ?_; rintro e w1 ⟨rfl, o1, ch⟩; obtain ⟨k1, k2⟩ := HFr.out w1 ch; have R1 := hid (HRs.out w1 o1 ch); clear o1 ch)
    go_ret
    exact ⟨rfl, R1.out⟩
set_option maxHeartbeats 1000000 in
set_option maxRecDepth 20000 in
theorem drop_no (d : Nt) (i : Int) (w : World) (h : NtAt w d) (hi : i < 0 ∨ (d.X.length : Int) ≤ i) : Calls Try.prog 12 #[.pointer (some ⟨d.nb, 0, none⟩), .int .i64 i] w fun e w' => e = .returned (.bool false) ∧ w' = w := by
  have HH := hid (has_no d i w h hi)
  clear h hi
  go_enter Try.func12, Try.ntmps12
  go_wp2_with (go_at_call 22; refine HH.out.mono ?_; rintro e w' ⟨rfl, hw⟩; have hw2 := hw.symm; subst hw2)
  go_ret
  exact ⟨rfl, rfl⟩
set_option maxHeartbeats 1000000 in
set_option maxRecDepth 20000 in
theorem double_no (d : Nt) (i : Int) (w : World) (h : NtAt w d) (hi : i < 0 ∨ (d.X.length : Int) ≤ i) : Calls Try.prog 19 #[.pointer (some ⟨d.nb, 0, none⟩), .int .i64 i] w fun e w' => e = .returned (.bool false) ∧ w' = w := by
  have HH := hid (has_no d i w h hi)
  clear h hi
  go_enter Try.func19, Try.ntmps19
  go_wp2_with (go_at_call 22; refine HH.out.mono ?_; rintro e w' ⟨rfl, hw⟩; have hw2 := hw.symm; subst hw2)
  go_ret
  exact ⟨rfl, rfl⟩
set_option maxHeartbeats 1000000 in
set_option maxRecDepth 20000 in
theorem double_full (d : Nt) (i : Nat) (w : World) (h : NtAt w d) (hi : i < d.X.length) (hf : d.most ≤ d.X.length) : Calls Try.prog 19 #[.pointer (some ⟨d.nb, 0, none⟩), .int .i64 (i : Nat)] w fun e w' => e = .returned (.bool false) ∧ Old w w' := by
  have HH := hid (has_yes d i w h hi)
  obtain ⟨c0, c1, -, -⟩ := h.cells
  obtain ⟨g, c, q, hnc, hcm, ⟨y0, y1, y2⟩, -⟩ := h.row.at i hi
  have HS := hid (send_no d d.X[i].f d.X[i].t d.X[i].v w h hf rfl)
  have ha : d.a = some ⟨g, 0, none⟩ := (Value.slice.inj q).1
  have hc : d.c = c := (Value.slice.inj q).2.2
  rw [ha, hc] at c1
  have l1 : (0 : Int) ≤ (i : Int) := by omega
  have l2 : (i : Int) < (d.X.length : Int) := by omega
  unfold Lt.v at y2 HS
  clear h q ha hc hf c0
  generalize d.X[i].f = xf at *
  generalize d.X[i].t = xt at *
  generalize d.X[i].a = xa at *
  generalize d.X[i].c = xc at *
  generalize d.X[i].L.length = xl at *
  generalize d.X.length = n at *
  generalize d.nb = nb at *
  clear hi
  go_enter Try.func19, Try.ntmps19
  go_wp2_with (first | (go_at_call 22; refine HH.out.mono ?_; rintro e w' ⟨rfl, hw⟩; have hw2 := hw.symm; subst hw2) | (go_at_call 8; refine HS.out.mono ?_; rintro e w1 ⟨rfl, u1⟩; have U1 := hid u1; clear u1))
  go_ret
  exact ⟨rfl, U1.out⟩
set_option maxHeartbeats 1000000 in
set_option maxRecDepth 20000 in
theorem double_ok (d : Nt) (i : Nat) (w : World) (h : NtAt w d) (hi : i < d.X.length) (hf : d.X.length < d.most) : Calls Try.prog 19 #[.pointer (some ⟨d.nb, 0, none⟩), .int .i64 (i : Nat)] w fun e w' => e = .returned (.bool true) ∧ ∃ a c, NRes w d (d.X ++ [⟨d.X[i].f, d.X[i].t, a, c, d.X[i].L⟩]) w' := by
  have HH := hid (has_yes d i w h hi)
  obtain ⟨c0, c1, -, -⟩ := h.cells
  obtain ⟨g, c, q, hnc, hcm, ⟨y0, y1, y2⟩, -⟩ := h.row.at i hi
  have HS := hid (send_ok d d.X[i].f d.X[i].t d.X[i].v d.X[i].L w h hf (h.byt _ (List.getElem_mem hi)).1.row (h.byt _ (List.getElem_mem hi)).2)
  have ha : d.a = some ⟨g, 0, none⟩ := (Value.slice.inj q).1
  have hc : d.c = c := (Value.slice.inj q).2.2
  rw [ha, hc] at c1
  have l1 : (0 : Int) ≤ (i : Int) := by omega
  have l2 : (i : Int) < (d.X.length : Int) := by omega
  unfold Lt.v at y2 HS
  have HP := hid (show ∀ w', (∃ a c, NRes w d (d.X ++ [⟨d.X[i].f, d.X[i].t, a, c, d.X[i].L⟩]) w') → (∃ a c, NRes w d (d.X ++ [⟨d.X[i].f, d.X[i].t, a, c, d.X[i].L⟩]) w') from fun _ h => h)
  clear h q ha hc hf c0
  generalize hPd : (fun w' => ∃ a c, NRes w d (d.X ++ [⟨d.X[i].f, d.X[i].t, a, c, d.X[i].L⟩]) w') = Pd
  have HPd := hid (fun w' => congrFun hPd w')
  have HS2 : Hid (Calls Try.prog 8 #[.pointer (some ⟨d.nb, 0, none⟩), .agg #[.int .i64 d.X[i].f, .int .i64 d.X[i].t, .slice d.X[i].a d.X[i].L.length d.X[i].c]] w fun e w' => e = .returned (.int .i64 0) ∧ Pd w') := hid (HS.out.mono fun e w' q => ⟨q.1, by rw [← hPd]; exact q.2⟩)
  have goal : Calls Try.prog 19 #[.pointer (some ⟨d.nb, 0, none⟩), .int .i64 (i : Nat)] w fun e w' => e = .returned (.bool true) ∧ Pd w' := by
    clear HS HP hPd HPd
    generalize d.X[i].f = xf at *
    generalize d.X[i].t = xt at *
    generalize d.X[i].a = xa at *
    generalize d.X[i].c = xc at *
    generalize d.X[i].L.length = xl at *
    clear hi
    generalize d.X.length = n at *
    generalize d.nb = nb at *
    go_enter Try.func19, Try.ntmps19
    go_wp2_with (first | (go_at_call 22; refine HH.out.mono ?_; rintro e w' ⟨rfl, hw⟩; have hw2 := hw.symm; subst hw2) | (go_at_call 8; refine HS2.out.mono ?_; rintro e w1 ⟨rfl, p1⟩; have P1 := hid p1; clear p1))
    go_ret
    exact ⟨rfl, P1.out⟩
  exact goal.mono fun e w' q => ⟨q.1, by have := q.2; rw [← hPd] at this; exact this⟩
theorem infoLt3 : (Try.prog.info? 30).map (·.size) = some 3 := by kernel_rfl
theorem there3 {w : World} {b : Nat} {x y z : Value} {T : TypeId} (h : w.heap[b]? = some (.cells #[x, y, z] T (0, 0))) : w.there b 0 3 := fun j hj => by
  refine ⟨?_, Go.Joins.unfrozen_of_block h _⟩
  rw [Nat.zero_add, Go.Joins.cell_of_block h]
  match j, hj with
  | 0, _ => rfl
  | 1, _ => rfl
  | 2, _ => rfl
theorem stepStoreLt {ops : Array Oper} {o : Oper} {a : Act} {w : World} {K : Act → World → Prop} {Q : Exit → Act → World → Prop} {E : Prop} (hg : o.guard = none) (x y : Operand) (hop : o.op = Op.store 30 x y) (m : Nat) (p q r : Value)
    (hx : a.eval x = .pointer (some ⟨m, 0, none⟩)) (hy : a.eval y = .agg #[p, q, r]) (ht : w.there m 0 3) (h1 : p.oneCell' = true ∧ q.oneCell' = true ∧ r.oneCell' = true)
    (hK : K (a.put o.dst undef) (((w.setCell ⟨m, 0, none⟩ p).setCell ⟨m, 1, none⟩ q).setCell ⟨m, 2, none⟩ r)) :
    if Region.wanted o (yielded ops a.tmps) = true then Oper.wp Try.prog o a w K Q else E := by
  have hw : Region.wanted o (yielded ops a.tmps) = true := by simp [Region.wanted, hg]
  rw [if_pos hw]
  exact wp_store_mid _ x y hop m 0 #[p, q, r] hx hy ht infoLt3 (by simp [h1]) hK
theorem chg3 (w : World) (b : Nat) (p q r : Value) : Chg [b] w (((w.setCell ⟨b, 0, none⟩ p).setCell ⟨b, 1, none⟩ q).setCell ⟨b, 2, none⟩ r) :=
  ((Chg.set (S := [b]) w ⟨b, 0, none⟩ p (by simp)).trans (Chg.set (S := [b]) _ ⟨b, 1, none⟩ q (by simp))).trans (Chg.set (S := [b]) _ ⟨b, 2, none⟩ r (by simp))
theorem B3S.set4 {w : World} {b b4 : Nat} {x y z p q r : Value} {cs : Array Value} {T : TypeId} (hb : w.heap[b4]? = some (.cells cs T (0, 0))) (h : B3S b x y z w) (hn : b ≠ b4) : B3S b x y z (((w.setCell ⟨b4, 0, none⟩ p).setCell ⟨b4, 1, none⟩ q).setCell ⟨b4, 2, none⟩ r) := B3S.chg (chg3 w b4 p q r) (by simpa using hn) h
theorem Own.offT {w : World} {v : Value} {L : List Nat} {b : Nat} {cs : Array Value} {T : TypeId} {fr : Nat × Nat} (o : Own w v L) (h : w.heap[b]? = some (.cells cs T fr)) (hT : T ≠ 5) : ∀ g, v.ownBlock = some g → g ∉ [b] := fun g e k => by
  rcases o.cases with ⟨q, _⟩ | ⟨g', cap, cur, q, hg, _⟩
  · rw [q] at e; cases e
  · rw [q] at e; cases e; simp at k; subst k; rw [hg] at h; cases h; exact hT rfl
/-- A box of the call's own is written behind. -/
theorem NRes.box {w w3 x : World} {d : Nt} {X5 : List Lt} {b4 : Nat} {cs : Array Value} (u : Old w w3) (r : NRes w3 d X5 x) (h : NtAt w d) (hb : x.heap[b4]? = some (.cells cs 30 (0, 0))) (h1 : w.heap.size ≤ b4) (h2 : b4 < w3.heap.size) (p q s : Value) : NRes w d X5 (((x.setCell ⟨b4, 0, none⟩ p).setCell ⟨b4, 1, none⟩ q).setCell ⟨b4, 2, none⟩ s) := by
  obtain ⟨d', n1, n2, n3, n4, n5, n6⟩ := r
  have hl := h.lt
  have hn : b4 ∉ d'.bs := fun e => by
    rcases n6 b4 e with z | z
    · have := hl b4 z; omega
    · omega
  refine ⟨d', n1.chg (chg3 x b4 p q s) (fun e => hn (by simp at e; exact Nt.mem.2 (.inl e.symm))) (fun g e k => hn (by simp at k; subst k; exact Nt.mem.2 (.inr e))) (fun y hy => (n1.byt y hy).1.offT hb (by decide)), n2, n3, n4, ?_, fun k hk => (n6 k hk).imp id (fun z => by have := u.size; omega)⟩
  have c1 : Chg (d.bs ++ [b4]) w x := (Chg.ofOld u).trans (n5.mono (fun k hk _ => List.mem_append_left _ hk))
  exact (c1.trans ((chg3 x b4 p q s).mono (fun k hk _ => List.mem_append_right _ hk))).mono (fun k hk hlt => by
    rcases List.mem_append.1 hk with z | z
    · exact z
    · simp at z; omega)
set_option maxHeartbeats 1000000 in
set_option maxRecDepth 20000 in
theorem take_no (d : Nt) (i : Int) (w : World) (h : NtAt w d) (hi : i < 0 ∨ (d.X.length : Int) ≤ i) : Calls Try.prog 9 #[.pointer (some ⟨d.nb, 0, none⟩), .int .i64 i] w fun e w' => e = .returned (.tuple #[.agg #[.int .i64 0, .int .i64 0, .slice none 0 0], .bool false]) ∧ Old w w' := by
  have HH := hid (fun (W : World) (u : Old w W) => has_no d i W (h.old u) hi)
  have HB := hid (alloc_at w (.cells #[.int .i64 0, .int .i64 0, .slice none 0 0] 30))
  clear h hi
  go_enter Try.func9, Try.ntmps9
  go_upto_region 2 with (go_at_call 22; refine (HH.out _ ((Old.refl w).alloc _)).mono ?_; rintro e w' ⟨rfl, hw⟩; have hw2 := hw.symm; subst hw2)
  have U0 := hid (show Old w (w.alloc (.cells #[.int .i64 0, .int .i64 0, .slice none 0 0] 30)) from (Old.refl w).alloc _)
  generalize w.alloc (.cells #[.int .i64 0, .int .i64 0, .slice none 0 0] 30) = w1 at *
  obtain ⟨b4, hb4⟩ : ∃ b4, b4 = w.heap.size := ⟨_, rfl⟩
  have Q4 := hid (show w.heap.size ≤ b4 from by omega)
  rw [← hb4] at HB ⊢
  clear hb4
  obtain ⟨y0, y1, y2, f0, f1, f2⟩ := box3 HB.out
  go_wp2
  obtain ⟨z0, z1, z2, -, -, -⟩ := box3 (box3_set (p := .int .i64 0) (q := .int .i64 0) (r := .slice none 0 0) HB.out)
  refine bodyPost_ret (v := .tuple #[.agg #[.int .i64 0, .int .i64 0, .slice none 0 0], .bool false]) (by simp [results, Try.results9, go_sem, z0, z1, z2]) rfl ⟨rfl, U0.out.set3 Q4.out⟩
set_option maxHeartbeats 1000000 in
set_option maxRecDepth 20000 in
theorem take_ok (d : Nt) (i : Nat) (w : World) (h : NtAt w d) (hi : i < d.X.length) : Calls Try.prog 9 #[.pointer (some ⟨d.nb, 0, none⟩), .int .i64 (i : Nat)] w fun e w' => ∃ a c, e = .returned (.tuple #[.agg #[.int .i64 d.X[i].f, .int .i64 d.X[i].t, .slice a d.X[i].L.length c], .bool true]) ∧ Own w' (.slice a d.X[i].L.length c) d.X[i].L ∧ NRes w d (d.X.eraseIdx i) w' := by
  have HH := hid (fun (W : World) (u : Old w W) => has_yes d i W (h.old u) hi)
  have HDr := hid (fun (W : World) (u : Old w W) => drop_ok d i W (h.old u) hi)
  have HD := hid h
  have HLt := hid h.lt
  obtain ⟨c0, c1, -, -⟩ := h.cells
  obtain ⟨g, c, q, hnc, hcm, ⟨y0, y1, y2⟩, -⟩ := h.row.at i hi
  have HC := hid (fun (W : World) (u : Old w W) => clone_any d.X[i].f d.X[i].t d.X[i].v d.X[i].L W ((h.byt _ (List.getElem_mem hi)).1.old u).row (h.byt _ (List.getElem_mem hi)).2)
  have ha : d.a = some ⟨g, 0, none⟩ := (Value.slice.inj q).1
  have hc : d.c = c := (Value.slice.inj q).2.2
  rw [ha, hc] at c1
  have l1 : (0 : Int) ≤ (i : Int) := by omega
  have l2 : (i : Int) < (d.X.length : Int) := by omega
  unfold Lt.v at y2 HC
  clear h q ha hc c0
  generalize d.X[i].f = xf at *
  generalize d.X[i].t = xt at *
  generalize d.X[i].a = xa at *
  generalize d.X[i].c = xc at *
  generalize d.X[i].L = xL at *
  clear hi
  generalize hnl : d.X.length = n at *
  clear hnl
  generalize hX5 : d.X.eraseIdx i = X5 at *
  clear hX5
  have HB := hid (alloc_at w (.cells #[.int .i64 0, .int .i64 0, .slice none 0 0] 30))
  have U0 := hid (show Old w (w.alloc (.cells #[.int .i64 0, .int .i64 0, .slice none 0 0] 30)) from (Old.refl w).alloc _)
  have k1 := U0.out.keep c1
  have k2 := U0.out.keep y0
  have k3 := U0.out.keep y1
  have k4 := U0.out.keep y2
  clear c1 y0 y1 y2
  go_enter Try.func9, Try.ntmps9
  go_upto_region 3 with (go_at_call 22; refine (HH.out _ U0.out).mono ?_; rintro e w' ⟨rfl, hw⟩; have hw2 := hw.symm; subst hw2)
  generalize w.alloc (.cells #[.int .i64 0, .int .i64 0, .slice none 0 0] 30) = w1 at *
  obtain ⟨b4, hb4⟩ : ∃ b4, b4 = w.heap.size := ⟨_, rfl⟩
  have Q4 := hid (show w.heap.size ≤ b4 from by omega)
  rw [← hb4] at HB ⊢
  clear hb4
  go_upto_region 4 with (go_at_call 21; refine (HC.out _ U0.out).mono ?_; rintro e w2 ⟨a2, c2, rfl, n2, u2⟩; have O2 := hid n2.1; have U2 := hid (U0.out.trans u2); have B4 := hid (u2.block HB.out); clear n2 u2)
  have B6 := hid (alloc_at w2 (.cells #[.int .i64 xf, .int .i64 xt, .slice a2 xL.length c2] 30))
  have U3 := hid (show Old w2 (w2.alloc (.cells #[.int .i64 xf, .int .i64 xt, .slice a2 xL.length c2] 30)) from (Old.refl w2).alloc _)
  have B43 := hid (U3.out.block B4.out)
  have O3 := hid (O2.out.old U3.out)
  have V3 := hid (U2.out.trans U3.out)
  have Q6 := hid (show w.heap.size ≤ w2.heap.size from U2.out.size)
  have HNe := hid (show w2.heap.size ≠ b4 from by have := heap_lt B4.out; omega)
  clear k1 k2 k3 k4 B4 O2 U2 U3 HB U0 HC HH
  generalize w2.alloc (.cells #[.int .i64 xf, .int .i64 xt, .slice a2 xL.length c2] 30) = w3 at *
  generalize w2.heap.size = b6 at *
  have HB3 := hid (show B3S b6 (.int .i64 xf) (.int .i64 xt) (.slice a2 xL.length c2) w3 from ⟨(box3 B6.out).1, (box3 B6.out).2.1, (box3 B6.out).2.2.1⟩)
  have N6 := hid (show b6 ∉ d.bs from fun e => by have := HLt.out b6 e; have := Q6.out; omega)
  have N4 := hid (show b4 ∉ d.bs from fun e => by have := HLt.out b4 e; have := Q4.out; omega)
  have HRs := hid (fun (x : World) (r : NRes w3.drew d X5 x) (hb : x.heap[b4]? = some (.cells #[.int .i64 0, .int .i64 0, .slice none 0 0] 30 (0, 0))) => NRes.box (V3.out.drew) r HD.out hb Q4.out (heap_lt (((Old.refl w3).drew).block B43.out)) (.int .i64 xf) (.int .i64 xt) (.slice a2 xL.length c2))
  refine wp_region_noPanic ?_
  refine wp_region_held_drew (S := B3S b6 (.int .i64 xf) (.int .i64 xt) (.slice a2 xL.length c2)) (by kernel_rfl) ?_ (fun hHeld => ?_)
  · exact B3S.old ((Old.refl w3).drew) HB3.out
  (try simp only [Act.put]); (try simp only [List.setIfInBounds_toArray]); (try simp only [List.set_cons_succ]); (try simp only [List.set_cons_zero])
  clear hHeld
  refine wpAnyH_take (i := 0) (oi := { dst := some 20, op := Op.load 30 (Operand.tmp 6), type := 30, pos := "net.go:51", after := #[], guard := none }) (v := ?vk1) rfl (by kernel_rfl) (by kernel_rfl) (by kernel_rfl) (fun _ _ _ h => h) (Or.inl ⟨by rfl, ?hk1⟩) (B3S.old ((Old.refl w3).drew) HB3.out) ?rk1
  case hk1 => (intro wz hSw; (try dsimp only at hSw); go_simp; try with_reducible rfl)
  (try simp only [Act.put]); (try simp only [List.setIfInBounds_toArray]); (try simp only [List.set_cons_succ]); (try simp only [List.set_cons_zero])
  refine wpAnyH_take (i := 1) (oi := { dst := some 21, op := Op.move (Operand.tmp 0), type := 23, pos := "net.go:51", after := #[], guard := none }) (v := ?vk2) rfl (by kernel_rfl) (by kernel_rfl) (by kernel_rfl) (fun _ _ _ h => h) (Or.inl ⟨by rfl, ?hk2⟩) (B3S.old ((Old.refl w3).drew) HB3.out) ?rk2
  case hk2 => (intro wz hSw; (try dsimp only at hSw); go_simp; try with_reducible rfl)
  (try simp only [Act.put]); (try simp only [List.setIfInBounds_toArray]); (try simp only [List.set_cons_succ]); (try simp only [List.set_cons_zero])
  refine wpAnyH_take (i := 2) (oi := { dst := some 22, op := Op.move (Operand.tmp 1), type := 3, pos := "net.go:51", after := #[], guard := none }) (v := ?vk3) rfl (by kernel_rfl) (by kernel_rfl) (by kernel_rfl) (fun _ _ _ h => h) (Or.inl ⟨by rfl, ?hk3⟩) (B3S.old ((Old.refl w3).drew) HB3.out) ?rk3
  case hk3 => (intro wz hSw; (try dsimp only at hSw); go_simp; try with_reducible rfl)
  (try simp only [Act.put]); (try simp only [List.setIfInBounds_toArray]); (try simp only [List.set_cons_succ]); (try simp only [List.set_cons_zero])
  refine wpAnyH_ready (rs := [3]) (by kernel_rfl) (by simp) ?_
  refine AllReadyH.cons (o := { dst := some 23, op := Op.call { callee := Callee.value (Operand.func 12), args := #[Operand.tmp 21, Operand.tmp 22], argTypes := #[23, 3] }, type := 4, pos := "net.go:51", after := #[{ on := 1, ground := Ground.data }, { on := 2, ground := Ground.data }], guard := none }) rfl (fun K hK => ?_) AllReadyH.nil
  · skip
    refine wantCall2 ?_ 12 (.tmp 21) (.tmp 22) #[23, 3] ?_ (.pointer (some ⟨d.nb, 0, none⟩)) (.int .i64 (i : Nat)) ?_ ?_ ?_ ((enters_of Try.func12 (by kernel_rfl) rfl) _ _) ?_
    · rfl
    · rfl
    · rfl
    · rfl
    · rfl
    refine (HDr.out w3.drew V3.out.drew).mono ?_
    rintro o w4 ⟨rfl, r4⟩
    refine ⟨_, rfl, ?_⟩
    have C4 := r4.choose_spec.2.2.2.2.1
    have S4 := B3S.chg C4 N6.out (B3S.old ((Old.refl w3).drew) HB3.out)
    have BX4 := C4.heapAt (((Old.refl w3).drew).block B43.out) N4.out
    have O4 := (O3.out.old ((Old.refl w3).drew)).chg C4 ((O3.out.old ((Old.refl w3).drew)).off (HD.out.old (V3.out.drew)))
    have R4 := hid (HRs.out w4 r4 BX4)
    clear r4
    refine hK.out _ _ S4 (fun _ => ?_)
    clear hK K
    (try simp only [Act.put]); (try simp only [List.setIfInBounds_toArray]); (try simp only [List.set_cons_succ]); (try simp only [List.set_cons_zero])
    refine wpAnyH_ready (rs := [4]) (by kernel_rfl) (by simp) ?_
    refine AllReadyH.cons (o := { dst := none, op := Op.store 30 (Operand.tmp 4) (Operand.tmp 20), type := 0, pos := "net.go:51", after := #[{ on := 0, ground := Ground.data }, { on := 3, ground := Ground.chain }, { on := 0, ground := Ground.phase }, { on := 1, ground := Ground.textOnly Departure.lateStores }, { on := 2, ground := Ground.textOnly Departure.lateStores }, { on := 3, ground := Ground.textOnly Departure.lateStoresUnsure }], guard := none }) rfl (fun K hK => ?_) AllReadyH.nil
    · skip
      refine stepStoreLt ?_ (.tmp 4) (.tmp 20) ?_ b4 (.int .i64 xf) (.int .i64 xt) (.slice a2 xL.length c2) ?_ ?_ (there3 BX4) ⟨rfl, rfl, rfl⟩ ?_
      · rfl
      · rfl
      · rfl
      · rfl
      have S5 := B3S.set4 BX4 (p := .int .i64 xf) (q := .int .i64 xt) (r := .slice a2 xL.length c2) S4 HNe.out
      refine hK.out _ _ S5 (fun _ => ?_)
      clear hK K
      (try simp only [Act.put]); (try simp only [List.setIfInBounds_toArray]); (try simp only [List.set_cons_succ]); (try simp only [List.set_cons_zero])
      refine wpAnyH_ready (rs := [5]) (by kernel_rfl) (by simp) ?_
      refine AllReadyH.cons (o := { dst := some 5, op := Op.assign (Operand.tmp 23), type := 4, pos := "net.go:51", after := #[{ on := 3, ground := Ground.data }, { on := 4, ground := Ground.chain }, { on := 0, ground := Ground.phase }, { on := 1, ground := Ground.phase }, { on := 2, ground := Ground.phase }, { on := 3, ground := Ground.phase }, { on := 4, ground := Ground.phase }], guard := none }) rfl (fun K hK => ?_) AllReadyH.nil
      · skip
        go_simp
        refine hK.out _ _ S5 (fun _ => ?_)
        clear hK K
        (try simp only [Act.put]); (try simp only [List.setIfInBounds_toArray]); (try simp only [List.set_cons_succ]); (try simp only [List.set_cons_zero])
        refine wpAnyH_done (by kernel_rfl) ?_ _
        refine NoPanic.normal ?_
        have O5 := hid (O4.chg (chg3 w4 b4 (.int .i64 xf) (.int .i64 xt) (.slice a2 xL.length c2)) (O4.offT BX4 (by decide)))
        obtain ⟨z0, z1, z2, -, -, -⟩ := box3 (box3_set (p := .int .i64 xf) (q := .int .i64 xt) (r := .slice a2 xL.length c2) BX4)
        go_wp2
        refine bodyPost_ret (v := .tuple #[.agg #[.int .i64 xf, .int .i64 xt, .slice a2 xL.length c2], .bool true]) (by simp [results, Try.results9, go_sem, z0, z1, z2]) rfl ⟨a2, c2, rfl, O5.out, R4.out⟩
end Go.Proofs.Ytejeihbcakojeaa
