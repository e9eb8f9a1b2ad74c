/- A net's Swap and Short; conditions: it lies in memory. -/
import Derived.Test.YtejeihbcakojeaaN6
import Derived.Laws.IdiomCopy
namespace Go.Proofs.Ytejeihbcakojeaa
open Go.RowKit Go.Lib
set_option linter.unusedVariables false
set_option linter.unusedSimpArgs false
set_option maxRecDepth 20000
theorem setCells_row {w : World} {g o : Nat} {cur : Array Value} {t : TypeId} {vs : List Value} (hg : w.heap[g]? = some (.cells cur t (0, 0))) (hf : o + vs.length ≤ cur.size) (h1 : ∀ v ∈ vs, v.oneCell' = true) : w.setCells g o vs = w.setRow g (cur.toList.take o ++ vs ++ cur.toList.drop (o + vs.length)).toArray := by
  have a := run_storeCells_cells (P := Try.prog) g o vs 0 w (fun j hj => by rw [Go.Joins.cell_of_block hg, Array.getElem?_eq_getElem (by omega)]; rfl) (fun j hj => Go.Joins.unfrozen_of_block hg _) h1
  have b := run_storeCells_at (P := Try.prog) g o t vs 0 cur w hg (by omega) h1
  rw [a] at b
  simp only [Result.ok.injEq, true_and, Nat.add_zero] at b
  exact b
theorem NS.chg {S : List Nat} {nb : Nat} {m : Int} {v : Value} {w w' : World} (o : Chg S w w') (hb : nb ∉ S) (h : NS nb m v w) : NS nb m v w' := ⟨o.cell h.1 hb, o.cell h.2 hb⟩
theorem flat_set (X : List Lt) (i : Nat) (y : Lt) (hi : i < X.length) : ltcs (X.set i y) = ltcs (X.take i) ++ ltc y ++ ltcs (X.drop (i + 1)) := by
  rw [List.set_eq_take_append_cons_drop, if_pos hi]
  simp [ltcs]
/-- A letter of a row is another. -/
theorem OwnT.set {base : Nat} {w : World} {g n c : Nat} {X : List Lt} (h : OwnT base w (.slice (some ⟨g, 0, none⟩) n c) X) (i : Nat) (y : Lt) (hi : i < X.length) : OwnT base (w.setCells g (i * 3) (ltc y)) (.slice (some ⟨g, 0, none⟩) n c) (X.set i y) ∧ Chg [g] w (w.setCells g (i * 3) (ltc y)) := by
  rcases h.cases with ⟨q, _⟩ | ⟨g', cap, cur, q, hb, hg, h1, h2, h3, h4⟩
  · cases q
  · cases q
    have e := setCells_row (vs := ltc y) (o := i * 3) hg (by rw [ltc_len]; omega) (ltc_one y)
    rw [e]
    refine ⟨?_, Chg.setRow w g _ _ (by simp)⟩
    have hl : (X.set i y).length = X.length := List.length_set ..
    have q := ownT_of (base := base) (X := X.set i y) hb (setRow_heap w g _ (cur.toList.take (i * 3) ++ ltc y ++ cur.toList.drop (i * 3 + (ltc y).length)).toArray _ _ hg) (by omega) h2 (by simp [ltc_len]; omega) (by
      have e1 : cur.toList.take (i * 3) = ltcs (X.take i) := by rw [← ltcs_take, ← h4, List.take_take, Nat.min_eq_left (by omega)]
      have e2 : cur.toList.drop (i * 3 + 3) = ltcs (X.drop (i + 1)) ++ cur.toList.drop (X.length * 3) := by
        have e3 : cur.toList = ltcs X ++ cur.toList.drop (X.length * 3) := by rw [← h4, List.take_append_drop]
        conv => lhs; rw [e3]
        rw [List.drop_append_of_le_length (by rw [ltcs_len]; omega), show i * 3 + 3 = (i + 1) * 3 from by omega, ltcs_drop]
      rw [List.toList_toArray, ltc_len, e1, e2, hl, flat_set X i y hi, ← List.append_assoc, List.take_append_of_le_length (by simp [ltcs_len, ltc_len]; omega), List.take_of_length_le (by simp [ltcs_len, ltc_len]; omega)])
    rw [hl] at q
    exact q
theorem OwnT.there {base : Nat} {w : World} {g n c : Nat} {X : List Lt} (h : OwnT base w (.slice (some ⟨g, 0, none⟩) n c) X) (i : Nat) (hi : i < X.length) : w.there g (i * 3) 3 := fun j hj => by
  rcases h.cases with ⟨q, _⟩ | ⟨g', cap, cur, q, hb, hg, h1, h2, h3, h4⟩
  · cases q
  · cases q
    exact ⟨by rw [Go.Joins.cell_of_block hg, Array.getElem?_eq_getElem (by omega)]; rfl, Go.Joins.unfrozen_of_block hg _⟩
theorem stepLoadLt {ops : Array Oper} {o : Oper} {a : Act} {w : World} {K : Act → World → Prop} {Q : Exit → Act → World → Prop} {E : Prop} (hg : o.guard = none) (x : Operand) (hop : o.op = Op.load 30 x) (b off : Nat) (p q r : Value)
    (hx : a.eval x = .pointer (some ⟨b, off, none⟩)) (h0 : w.cell? ⟨b, off, none⟩ = some p) (h1 : w.cell? ⟨b, off + 1, none⟩ = some q) (h2 : w.cell? ⟨b, off + 2, none⟩ = some r) (hK : K (a.put o.dst (.agg #[p, q, r])) w) :
    if Region.wanted o (yielded ops a.tmps) = true then Oper.wp Try.prog o a w K Q else E := by
  have hw : Region.wanted o (yielded ops a.tmps) = true := by simp [Region.wanted, hg]
  rw [if_pos hw]
  obtain ⟨d, p', t, ps, af, gd⟩ := o
  subst hop
  unfold Oper.wp execOp
  simp only [hx]
  go_simp
  exact hK
theorem stepStoreLtAt {ops : Array Oper} {o : Oper} {a : Act} {w : World} {K : Act → World → Prop} {Q : Exit → Act → World → Prop} {E : Prop} (hg : o.guard = none) (x y : Operand) (hop : o.op = Op.store 30 x y) (m off : Nat) (z : Lt)
    (hx : a.eval x = .pointer (some ⟨m, off, none⟩)) (hy : a.eval y = .agg #[.int .i64 z.f, .int .i64 z.t, .slice z.a z.L.length z.c]) (ht : w.there m off 3)
    (hK : ∀ w', w' = w.setCells m off (ltc z) → K (a.put o.dst undef) w') :
    if Region.wanted o (yielded ops a.tmps) = true then Oper.wp Try.prog o a w K Q else E := by
  have hw : Region.wanted o (yielded ops a.tmps) = true := by simp [Region.wanted, hg]
  rw [if_pos hw]
  exact wp_store_mid _ x y hop m off #[.int .i64 z.f, .int .i64 z.t, .slice z.a z.L.length z.c] hx hy ht infoLt3 (by have e1 : (Value.int .i64 z.f).oneCell' = true := rfl; have e2 : (Value.int .i64 z.t).oneCell' = true := rfl; have e3 : (Value.slice z.a z.L.length z.c).oneCell' = true := rfl; simp [e1, e2, e3]) (hK _ rfl)
/-- The row's letters are others, at their place. -/
theorem row_res {w w1 : World} {d : Nt} {g : Nat} {X5 : List Lt} (h : NtAt w d) (hv : d.v.ownBlock = some g) (hl : X5.length = d.X.length) (o1 : OwnT 0 w1 d.v X5) (ch : Chg [g] w w1) (hs : ∀ x ∈ X5, x ∈ d.X ∨ (Own w1 x.v x.L ∧ x.L.length ≤ 140737488355328)) : NRes w d X5 w1 := by
  have hgm : g ∈ d.bs := Nt.mem.2 (.inr hv)
  have hne : d.nb ≠ g := fun e => h.ne (by rw [hv, e])
  have c1 : Chg d.bs w w1 := ch.mono (fun k hk _ => by simp at hk; rw [hk]; exact hgm)
  have b1 : w1.heap[d.nb]? = some (.cells #[.int .i64 (d.most : Nat), d.v] 57 (0, 0)) := ch.heapAt h.blk (by simpa using hne)
  have ev : d.v = .slice d.a X5.length d.c := by unfold Nt.v; rw [hl]
  rw [ev] at b1 o1
  refine ⟨{ d with X := X5 }, h.put d.a d.c X5 c1 b1 o1 hs (by have := h.le; omega), rfl, rfl, rfl, c1, fun k hk => ?_⟩
  rcases Nt.mem.1 hk with e | e
  · exact .inl (Nt.mem.2 (.inl e))
  · exact .inl (Nt.mem.2 (.inr (by rw [ev]; exact e)))
def swapL (X : List Lt) (i k : Nat) (x y : Lt) : List Lt := (X.set i y).set k x
set_option maxHeartbeats 1000000 in
set_option maxRecDepth 20000 in
theorem swap_no1 (d : Nt) (i k : Int) (w : World) (h : NtAt w d) (hi : i < 0 ∨ (d.X.length : Int) ≤ i) : Calls Try.prog 20 #[.pointer (some ⟨d.nb, 0, none⟩), .int .i64 i, .int .i64 k] w fun e w' => e = .returned (.bool false) ∧ w' = w := by
  have HH := hid (has_no d i w h hi)
  clear h hi
  go_enter Try.func20, Try.ntmps20
  go_wp2_with (go_at_call 22; refine HH.out.mono ?_; rintro e w' ⟨rfl, hw⟩; have hw2 := hw.symm; subst hw2)
  go_ret
  exact ⟨rfl, rfl⟩
set_option maxHeartbeats 1000000 in
set_option maxRecDepth 20000 in
theorem swap_no2 (d : Nt) (i : Nat) (k : Int) (w : World) (h : NtAt w d) (hi : i < d.X.length) (hk : k < 0 ∨ (d.X.length : Int) ≤ k) : Calls Try.prog 20 #[.pointer (some ⟨d.nb, 0, none⟩), .int .i64 (i : Nat), .int .i64 k] w fun e w' => e = .returned (.bool false) ∧ w' = w := by
  have HH := hid (has_yes d i w h hi)
  have HK := hid (has_no d k w h hk)
  have tok1 : True := trivial
  clear h hi hk
  go_enter Try.func20, Try.ntmps20
  go_wp2_with (first | (go_at_call 22; have _t := tok1; clear tok1 _t; refine HH.out.mono ?_; rintro e w' ⟨rfl, hw⟩; have hw2 := hw.symm; subst hw2) | (go_at_call 22; refine HK.out.mono ?_; rintro e w' ⟨rfl, hw⟩; have hw2 := hw.symm; subst hw2))
  go_ret
  exact ⟨rfl, rfl⟩
set_option maxHeartbeats 2000000 in
set_option maxRecDepth 20000 in
theorem swap_ok (d : Nt) (i k : Nat) (w : World) (h : NtAt w d) (hi : i < d.X.length) (hk : k < d.X.length) : Calls Try.prog 20 #[.pointer (some ⟨d.nb, 0, none⟩), .int .i64 (i : Nat), .int .i64 (k : Nat)] w fun e w' => e = .returned (.bool true) ∧ NRes w d (swapL d.X i k d.X[i] d.X[k]) w' := by
  have HH := hid (has_yes d i w h hi)
  have HK := hid (has_yes d k w h hk)
  obtain ⟨c0, c1, -, -⟩ := h.cells
  obtain ⟨g, c, q, hnc, hcm, ⟨y0, y1, y2⟩, -⟩ := h.row.at i hi
  obtain ⟨g', c', q', -, -, ⟨x0, x1, x2⟩, -⟩ := h.row.at k hk
  rw [q] at q'
  obtain ⟨eg, -, -⟩ := Value.slice.inj q'
  cases eg
  have hv : d.v.ownBlock = some g := by rw [q]; rfl
  have hne : d.nb ≠ g := fun e => h.ne (by rw [hv, e])
  have HRow := hid (show OwnT 0 w (.slice (some ⟨g, 0, none⟩) d.X.length c) d.X from by have := h.row; rw [q] at this; exact this)
  have HRs := hid (fun (w1 : World) (o1 : OwnT 0 w1 (.slice (some ⟨g, 0, none⟩) d.X.length c) (swapL d.X i k d.X[i] d.X[k])) (ch : Chg [g] w w1) => row_res (X5 := swapL d.X i k d.X[i] d.X[k]) h hv (by unfold swapL; rw [List.length_set, List.length_set]) (by rw [q]; exact o1) ch (fun x hx => .inl (by
    unfold swapL at hx
    rcases List.mem_or_eq_of_mem_set hx with z | z
    · rcases List.mem_or_eq_of_mem_set z with z2 | z2
      · exact z2
      · rw [z2]; exact List.getElem_mem hk
    · rw [z]; exact List.getElem_mem hi)))
  have ha : d.a = some ⟨g, 0, none⟩ := (Value.slice.inj q).1
  have hc : d.c = c := (Value.slice.inj q).2.2
  rw [ha, hc] at c1
  have HNS := hid (show NS d.nb d.most (.slice (some ⟨g, 0, none⟩) d.X.length c) w from ⟨c0, c1⟩)
  have l1 : (0 : Int) ≤ (i : Int) := by omega
  have l2 : (i : Int) < (d.X.length : Int) := by omega
  have l3 : (0 : Int) ≤ (k : Int) := by omega
  have l4 : (k : Int) < (d.X.length : Int) := by omega
  have HI := hid hi
  have HKk := hid hk
  have HX := hid (And.intro y0 (And.intro y1 y2))
  have HY := hid (And.intro x0 (And.intro x1 x2))
  clear h q q' hv ha hc c0 c1 y0 y1 y2 x0 x1 x2
  have HNe := hid hne
  clear hne
  generalize d.X[i] = xi at *
  generalize d.X[k] = xk at *
  unfold Lt.v at HX HY
  clear hi hk
  have tok1 : True := trivial
  generalize hX0 : d.X = X at *
  generalize d.nb = nb at *
  generalize d.most = mo at *
  obtain ⟨n, hn⟩ : ∃ n, n = X.length := ⟨_, rfl⟩
  rw [← hn] at l2 l4 HNS HRow HRs
  have HN := hid hn
  clear hn hX0
  go_enter Try.func20, Try.ntmps20
  go_upto_region 3 with (first | (go_at_call 22; have _t := tok1; clear tok1 _t; refine HH.out.mono ?_; rintro e w' ⟨rfl, hw⟩; have hw2 := hw.symm; subst hw2) | (go_at_call 22; refine HK.out.mono ?_; rintro e w' ⟨rfl, hw⟩; have hw2 := hw.symm; subst hw2))
  clear HH HK
  refine wp_region_noPanic ?_
  refine wp_region_held_drew (S := NS nb mo (.slice (some ⟨g, 0, none⟩) n c)) (by kernel_rfl) ?_ (fun hHeld => ?_)
  · exact NS.old ((Old.refl w).drew) HNS.out
  (try simp only [Act.put]); (try simp only [List.setIfInBounds_toArray]); (try simp only [List.set_cons_succ]); (try simp only [List.set_cons_zero])
  clear hHeld
  refine wpAnyH_take (i := 0) (oi := { dst := some 17, op := Op.move (Operand.tmp 0), type := 23, pos := "net.go:71", after := #[], guard := none }) (v := ?vk1) rfl (by kernel_rfl) (by kernel_rfl) (by kernel_rfl) (fun _ _ _ h => h) (Or.inl ⟨by rfl, ?hk1⟩) (NS.old ((Old.refl w).drew) HNS.out) ?rk1
  case hk1 => (intro wz hSw; (try dsimp only at hSw); go_simp; try with_reducible rfl)
  (try simp only [Act.put]); (try simp only [List.setIfInBounds_toArray]); (try simp only [List.set_cons_succ]); (try simp only [List.set_cons_zero])
  refine wpAnyH_take (i := 1) (oi := { dst := some 18, op := Op.nilCheck (Operand.tmp 17), type := 0, pos := "net.go:71", after := #[{ on := 0, ground := Ground.data }], guard := none }) (v := ?vk2) rfl (by kernel_rfl) (by kernel_rfl) (by kernel_rfl) (fun _ _ _ h => h) (Or.inl ⟨by rfl, ?hk2⟩) (NS.old ((Old.refl w).drew) HNS.out) ?rk2
  case hk2 => (intro wz hSw; (try dsimp only at hSw); go_simp; try with_reducible rfl)
  (try simp only [Act.put]); (try simp only [List.setIfInBounds_toArray]); (try simp only [List.set_cons_succ]); (try simp only [List.set_cons_zero])
  refine wpAnyH_take (i := 2) (oi := { dst := some 19, op := Op.fieldAddr 57 (Operand.tmp 18) 1, type := 0, pos := "net.go:71", after := #[{ on := 1, ground := Ground.data }], guard := none }) (v := ?vk3) rfl (by kernel_rfl) (by kernel_rfl) (by kernel_rfl) (fun _ _ _ h => h) (Or.inl ⟨by rfl, ?hk3⟩) (NS.old ((Old.refl w).drew) HNS.out) ?rk3
  case hk3 => (intro wz hSw; (try dsimp only at hSw); go_simp; try with_reducible rfl)
  (try simp only [Act.put]); (try simp only [List.setIfInBounds_toArray]); (try simp only [List.set_cons_succ]); (try simp only [List.set_cons_zero])
  refine wpAnyH_take (i := 3) (oi := { dst := some 20, op := Op.load 38 (Operand.tmp 19), type := 38, pos := "net.go:71", after := #[{ on := 2, ground := Ground.data }], guard := none }) (v := ?vk4) rfl (by kernel_rfl) (by kernel_rfl) (by kernel_rfl) (fun _ _ _ h => h) (Or.inl ⟨by rfl, ?hk4⟩) (NS.old ((Old.refl w).drew) HNS.out) ?rk4
  case hk4 => (intro wz hSw; (try dsimp only at hSw); go_simp; try with_reducible rfl)
  (try simp only [Act.put]); (try simp only [List.setIfInBounds_toArray]); (try simp only [List.set_cons_succ]); (try simp only [List.set_cons_zero])
  refine wpAnyH_take (i := 4) (oi := { dst := some 21, op := Op.move (Operand.tmp 1), type := 3, pos := "net.go:71", after := #[], guard := none }) (v := ?vk5) rfl (by kernel_rfl) (by kernel_rfl) (by kernel_rfl) (fun _ _ _ h => h) (Or.inl ⟨by rfl, ?hk5⟩) (NS.old ((Old.refl w).drew) HNS.out) ?rk5
  case hk5 => (intro wz hSw; (try dsimp only at hSw); go_simp; try with_reducible rfl)
  (try simp only [Act.put]); (try simp only [List.setIfInBounds_toArray]); (try simp only [List.set_cons_succ]); (try simp only [List.set_cons_zero])
  refine wpAnyH_take (i := 5) (oi := { dst := some 22, op := Op.move (Operand.tmp 0), type := 23, pos := "net.go:71", after := #[], guard := none }) (v := ?vk6) rfl (by kernel_rfl) (by kernel_rfl) (by kernel_rfl) (fun _ _ _ h => h) (Or.inl ⟨by rfl, ?hk6⟩) (NS.old ((Old.refl w).drew) HNS.out) ?rk6
  case hk6 => (intro wz hSw; (try dsimp only at hSw); go_simp; try with_reducible rfl)
  (try simp only [Act.put]); (try simp only [List.setIfInBounds_toArray]); (try simp only [List.set_cons_succ]); (try simp only [List.set_cons_zero])
  refine wpAnyH_take (i := 6) (oi := { dst := some 23, op := Op.nilCheck (Operand.tmp 22), type := 0, pos := "net.go:71", after := #[{ on := 5, ground := Ground.data }], guard := none }) (v := ?vk7) rfl (by kernel_rfl) (by kernel_rfl) (by kernel_rfl) (fun _ _ _ h => h) (Or.inl ⟨by rfl, ?hk7⟩) (NS.old ((Old.refl w).drew) HNS.out) ?rk7
  case hk7 => (intro wz hSw; (try dsimp only at hSw); go_simp; try with_reducible rfl)
  (try simp only [Act.put]); (try simp only [List.setIfInBounds_toArray]); (try simp only [List.set_cons_succ]); (try simp only [List.set_cons_zero])
  refine wpAnyH_take (i := 7) (oi := { dst := some 24, op := Op.fieldAddr 57 (Operand.tmp 23) 1, type := 0, pos := "net.go:71", after := #[{ on := 6, ground := Ground.data }], guard := none }) (v := ?vk8) rfl (by kernel_rfl) (by kernel_rfl) (by kernel_rfl) (fun _ _ _ h => h) (Or.inl ⟨by rfl, ?hk8⟩) (NS.old ((Old.refl w).drew) HNS.out) ?rk8
  case hk8 => (intro wz hSw; (try dsimp only at hSw); go_simp; try with_reducible rfl)
  (try simp only [Act.put]); (try simp only [List.setIfInBounds_toArray]); (try simp only [List.set_cons_succ]); (try simp only [List.set_cons_zero])
  refine wpAnyH_take (i := 8) (oi := { dst := some 25, op := Op.load 38 (Operand.tmp 24), type := 38, pos := "net.go:71", after := #[{ on := 7, ground := Ground.data }], guard := none }) (v := ?vk9) rfl (by kernel_rfl) (by kernel_rfl) (by kernel_rfl) (fun _ _ _ h => h) (Or.inl ⟨by rfl, ?hk9⟩) (NS.old ((Old.refl w).drew) HNS.out) ?rk9
  case hk9 => (intro wz hSw; (try dsimp only at hSw); go_simp; try with_reducible rfl)
  (try simp only [Act.put]); (try simp only [List.setIfInBounds_toArray]); (try simp only [List.set_cons_succ]); (try simp only [List.set_cons_zero])
  refine wpAnyH_take (i := 9) (oi := { dst := some 26, op := Op.move (Operand.tmp 2), type := 3, pos := "net.go:71", after := #[{ on := 25, ground := Ground.gcOnly Departure.lateStores }], guard := none }) (v := ?vk10) rfl (by kernel_rfl) (by kernel_rfl) (by kernel_rfl) (fun _ _ _ h => h) (Or.inl ⟨by rfl, ?hk10⟩) (NS.old ((Old.refl w).drew) HNS.out) ?rk10
  case hk10 => (intro wz hSw; (try dsimp only at hSw); go_simp; try with_reducible rfl)
  (try simp only [Act.put]); (try simp only [List.setIfInBounds_toArray]); (try simp only [List.set_cons_succ]); (try simp only [List.set_cons_zero])
  refine wpAnyH_take (i := 10) (oi := { dst := some 27, op := Op.move (Operand.tmp 0), type := 23, pos := "net.go:71", after := #[], guard := none }) (v := ?vk11) rfl (by kernel_rfl) (by kernel_rfl) (by kernel_rfl) (fun _ _ _ h => h) (Or.inl ⟨by rfl, ?hk11⟩) (NS.old ((Old.refl w).drew) HNS.out) ?rk11
  case hk11 => (intro wz hSw; (try dsimp only at hSw); go_simp; try with_reducible rfl)
  (try simp only [Act.put]); (try simp only [List.setIfInBounds_toArray]); (try simp only [List.set_cons_succ]); (try simp only [List.set_cons_zero])
  refine wpAnyH_take (i := 11) (oi := { dst := some 28, op := Op.nilCheck (Operand.tmp 27), type := 0, pos := "net.go:71", after := #[{ on := 10, ground := Ground.data }], guard := none }) (v := ?vk12) rfl (by kernel_rfl) (by kernel_rfl) (by kernel_rfl) (fun _ _ _ h => h) (Or.inl ⟨by rfl, ?hk12⟩) (NS.old ((Old.refl w).drew) HNS.out) ?rk12
  case hk12 => (intro wz hSw; (try dsimp only at hSw); go_simp; try with_reducible rfl)
  (try simp only [Act.put]); (try simp only [List.setIfInBounds_toArray]); (try simp only [List.set_cons_succ]); (try simp only [List.set_cons_zero])
  refine wpAnyH_take (i := 12) (oi := { dst := some 29, op := Op.fieldAddr 57 (Operand.tmp 28) 1, type := 0, pos := "net.go:71", after := #[{ on := 11, ground := Ground.data }], guard := none }) (v := ?vk13) rfl (by kernel_rfl) (by kernel_rfl) (by kernel_rfl) (fun _ _ _ h => h) (Or.inl ⟨by rfl, ?hk13⟩) (NS.old ((Old.refl w).drew) HNS.out) ?rk13
  case hk13 => (intro wz hSw; (try dsimp only at hSw); go_simp; try with_reducible rfl)
  (try simp only [Act.put]); (try simp only [List.setIfInBounds_toArray]); (try simp only [List.set_cons_succ]); (try simp only [List.set_cons_zero])
  refine wpAnyH_take (i := 13) (oi := { dst := some 30, op := Op.load 38 (Operand.tmp 29), type := 38, pos := "net.go:71", after := #[{ on := 12, ground := Ground.data }], guard := none }) (v := ?vk14) rfl (by kernel_rfl) (by kernel_rfl) (by kernel_rfl) (fun _ _ _ h => h) (Or.inl ⟨by rfl, ?hk14⟩) (NS.old ((Old.refl w).drew) HNS.out) ?rk14
  case hk14 => (intro wz hSw; (try dsimp only at hSw); go_simp; try with_reducible rfl)
  (try simp only [Act.put]); (try simp only [List.setIfInBounds_toArray]); (try simp only [List.set_cons_succ]); (try simp only [List.set_cons_zero])
  refine wpAnyH_take (i := 14) (oi := { dst := some 31, op := Op.move (Operand.tmp 2), type := 3, pos := "net.go:71", after := #[], guard := none }) (v := ?vk15) rfl (by kernel_rfl) (by kernel_rfl) (by kernel_rfl) (fun _ _ _ h => h) (Or.inl ⟨by rfl, ?hk15⟩) (NS.old ((Old.refl w).drew) HNS.out) ?rk15
  case hk15 => (intro wz hSw; (try dsimp only at hSw); go_simp; try with_reducible rfl)
  (try simp only [Act.put]); (try simp only [List.setIfInBounds_toArray]); (try simp only [List.set_cons_succ]); (try simp only [List.set_cons_zero])
  refine wpAnyH_take (i := 15) (oi := { dst := some 32, op := Op.indexAddr 38 (Operand.tmp 30) (Operand.tmp 31), type := 0, pos := "net.go:71", after := #[{ on := 13, ground := Ground.data }, { on := 14, ground := Ground.data }], guard := none }) (v := ?vk16) rfl (by kernel_rfl) (by kernel_rfl) (by kernel_rfl) (fun _ _ _ h => h) (Or.inl ⟨by rfl, ?hk16⟩) (NS.old ((Old.refl w).drew) HNS.out) ?rk16
  case hk16 => (intro wz hSw; (try dsimp only at hSw); go_simp; try with_reducible rfl)
  (try simp only [Act.put]); (try simp only [List.setIfInBounds_toArray]); (try simp only [List.set_cons_succ]); (try simp only [List.set_cons_zero])
  refine wpAnyH_take (i := 17) (oi := { dst := some 34, op := Op.move (Operand.tmp 0), type := 23, pos := "net.go:71", after := #[], guard := none }) (v := ?vk17) rfl (by kernel_rfl) (by kernel_rfl) (by kernel_rfl) (fun _ _ _ h => h) (Or.inl ⟨by rfl, ?hk17⟩) (NS.old ((Old.refl w).drew) HNS.out) ?rk17
  case hk17 => (intro wz hSw; (try dsimp only at hSw); go_simp; try with_reducible rfl)
  (try simp only [Act.put]); (try simp only [List.setIfInBounds_toArray]); (try simp only [List.set_cons_succ]); (try simp only [List.set_cons_zero])
  refine wpAnyH_take (i := 18) (oi := { dst := some 35, op := Op.nilCheck (Operand.tmp 34), type := 0, pos := "net.go:71", after := #[{ on := 17, ground := Ground.data }], guard := none }) (v := ?vk18) rfl (by kernel_rfl) (by kernel_rfl) (by kernel_rfl) (fun _ _ _ h => h) (Or.inl ⟨by rfl, ?hk18⟩) (NS.old ((Old.refl w).drew) HNS.out) ?rk18
  case hk18 => (intro wz hSw; (try dsimp only at hSw); go_simp; try with_reducible rfl)
  (try simp only [Act.put]); (try simp only [List.setIfInBounds_toArray]); (try simp only [List.set_cons_succ]); (try simp only [List.set_cons_zero])
  refine wpAnyH_take (i := 19) (oi := { dst := some 36, op := Op.fieldAddr 57 (Operand.tmp 35) 1, type := 0, pos := "net.go:71", after := #[{ on := 18, ground := Ground.data }], guard := none }) (v := ?vk19) rfl (by kernel_rfl) (by kernel_rfl) (by kernel_rfl) (fun _ _ _ h => h) (Or.inl ⟨by rfl, ?hk19⟩) (NS.old ((Old.refl w).drew) HNS.out) ?rk19
  case hk19 => (intro wz hSw; (try dsimp only at hSw); go_simp; try with_reducible rfl)
  (try simp only [Act.put]); (try simp only [List.setIfInBounds_toArray]); (try simp only [List.set_cons_succ]); (try simp only [List.set_cons_zero])
  refine wpAnyH_take (i := 20) (oi := { dst := some 37, op := Op.load 38 (Operand.tmp 36), type := 38, pos := "net.go:71", after := #[{ on := 19, ground := Ground.data }], guard := none }) (v := ?vk20) rfl (by kernel_rfl) (by kernel_rfl) (by kernel_rfl) (fun _ _ _ h => h) (Or.inl ⟨by rfl, ?hk20⟩) (NS.old ((Old.refl w).drew) HNS.out) ?rk20
  case hk20 => (intro wz hSw; (try dsimp only at hSw); go_simp; try with_reducible rfl)
  (try simp only [Act.put]); (try simp only [List.setIfInBounds_toArray]); (try simp only [List.set_cons_succ]); (try simp only [List.set_cons_zero])
  refine wpAnyH_take (i := 21) (oi := { dst := some 38, op := Op.move (Operand.tmp 1), type := 3, pos := "net.go:71", after := #[], guard := none }) (v := ?vk21) rfl (by kernel_rfl) (by kernel_rfl) (by kernel_rfl) (fun _ _ _ h => h) (Or.inl ⟨by rfl, ?hk21⟩) (NS.old ((Old.refl w).drew) HNS.out) ?rk21
  case hk21 => (intro wz hSw; (try dsimp only at hSw); go_simp; try with_reducible rfl)
  (try simp only [Act.put]); (try simp only [List.setIfInBounds_toArray]); (try simp only [List.set_cons_succ]); (try simp only [List.set_cons_zero])
  refine wpAnyH_take (i := 22) (oi := { dst := some 39, op := Op.indexAddr 38 (Operand.tmp 37) (Operand.tmp 38), type := 0, pos := "net.go:71", after := #[{ on := 20, ground := Ground.data }, { on := 21, ground := Ground.data }], guard := none }) (v := ?vk22) rfl (by kernel_rfl) (by kernel_rfl) (by kernel_rfl) (fun _ _ _ h => h) (Or.inl ⟨by rfl, ?hk22⟩) (NS.old ((Old.refl w).drew) HNS.out) ?rk22
  case hk22 => (intro wz hSw; (try dsimp only at hSw); go_simp; try with_reducible rfl)
  (try simp only [Act.put]); (try simp only [List.setIfInBounds_toArray]); (try simp only [List.set_cons_succ]); (try simp only [List.set_cons_zero])
  refine wpAnyH_ready (rs := [16, 23]) (by kernel_rfl) (by simp) ?_
  refine AllReadyH.cons (o := { dst := some 33, op := Op.load 30 (Operand.tmp 32), type := 30, pos := "net.go:71", after := #[{ on := 15, ground := Ground.data }], guard := none }) rfl (fun K hK => ?_) (AllReadyH.cons (o := { dst := some 40, op := Op.load 30 (Operand.tmp 39), type := 30, pos := "net.go:71", after := #[{ on := 22, ground := Ground.data }], guard := none }) rfl (fun K hK => ?_) AllReadyH.nil)
  · skip
    refine stepLoadLt ?_ (.tmp 32) ?_ g (k * 3) (.int .i64 xk.f) (.int .i64 xk.t) (.slice xk.a xk.L.length xk.c) ?_ (Old.keep ((Old.refl w).drew) HY.out.1) (Old.keep ((Old.refl w).drew) HY.out.2.1) (Old.keep ((Old.refl w).drew) HY.out.2.2) ?_
    · rfl
    · rfl
    · rfl
    refine hK.out _ _ (NS.old ((Old.refl w).drew) HNS.out) (fun _ => ?_)
    clear hK K
    (try simp only [Act.put]); (try simp only [List.setIfInBounds_toArray]); (try simp only [List.set_cons_succ]); (try simp only [List.set_cons_zero])
    refine wpAnyH_ready (rs := [23]) (by kernel_rfl) (by simp) ?_
    refine AllReadyH.cons (o := { dst := some 40, op := Op.load 30 (Operand.tmp 39), type := 30, pos := "net.go:71", after := #[{ on := 22, ground := Ground.data }], guard := none }) rfl (fun K hK => ?_) AllReadyH.nil
    · skip
      refine stepLoadLt ?_ (.tmp 39) ?_ g (i * 3) (.int .i64 xi.f) (.int .i64 xi.t) (.slice xi.a xi.L.length xi.c) ?_ (Old.keep ((Old.refl w).drew) HX.out.1) (Old.keep ((Old.refl w).drew) HX.out.2.1) (Old.keep ((Old.refl w).drew) HX.out.2.2) ?_
      · rfl
      · rfl
      · rfl
      refine hK.out _ _ (NS.old ((Old.refl w).drew) HNS.out) (fun _ => ?_)
      clear hK K
      (try simp only [Act.put]); (try simp only [List.setIfInBounds_toArray]); (try simp only [List.set_cons_succ]); (try simp only [List.set_cons_zero])
      refine wpAnyH_take (i := 24) (oi := { dst := some 41, op := Op.indexAddr 38 (Operand.tmp 20) (Operand.tmp 21), type := 0, pos := "net.go:71", after := #[{ on := 3, ground := Ground.data }, { on := 4, ground := Ground.data }, { on := 0, ground := Ground.phase }, { on := 1, ground := Ground.phase }, { on := 2, ground := Ground.phase }, { on := 3, ground := Ground.phase }, { on := 4, ground := Ground.phase }, { on := 5, ground := Ground.textOnly Departure.lateStores }, { on := 6, ground := Ground.textOnly Departure.lateStoresUnsure }, { on := 7, ground := Ground.textOnly Departure.lateStoresUnsure }, { on := 8, ground := Ground.phase }, { on := 9, ground := Ground.textOnly Departure.lateStores }, { on := 10, ground := Ground.phase }, { on := 11, ground := Ground.phase }, { on := 12, ground := Ground.phase }, { on := 13, ground := Ground.phase }, { on := 14, ground := Ground.phase }, { on := 15, ground := Ground.phase }, { on := 16, ground := Ground.phase }, { on := 17, ground := Ground.textOnly Departure.lateStores }, { on := 18, ground := Ground.textOnly Departure.lateStoresUnsure }, { on := 19, ground := Ground.textOnly Departure.lateStoresUnsure }, { on := 20, ground := Ground.phase }, { on := 21, ground := Ground.textOnly Departure.lateStores }, { on := 22, ground := Ground.textOnly Departure.lateStoresUnsure }, { on := 23, ground := Ground.phase }], guard := none }) (v := ?vk23) rfl (by kernel_rfl) (by kernel_rfl) (by kernel_rfl) (fun _ _ _ h => h) (Or.inl ⟨by rfl, ?hk23⟩) (NS.old ((Old.refl w).drew) HNS.out) ?rk23
      case hk23 => (intro wz hSw; (try dsimp only at hSw); go_simp; try with_reducible rfl)
      (try simp only [Act.put]); (try simp only [List.setIfInBounds_toArray]); (try simp only [List.set_cons_succ]); (try simp only [List.set_cons_zero])
      refine wpAnyH_ready (rs := [25]) (by kernel_rfl) (by simp) ?_
      refine AllReadyH.cons (o := { dst := none, op := Op.store 30 (Operand.tmp 41) (Operand.tmp 33), type := 0, pos := "net.go:71", after := #[{ on := 24, ground := Ground.data }, { on := 16, ground := Ground.data }, { on := 0, ground := Ground.phase }, { on := 1, ground := Ground.phase }, { on := 2, ground := Ground.phase }, { on := 3, ground := Ground.phase }, { on := 4, ground := Ground.phase }, { on := 5, ground := Ground.textOnly Departure.lateStores }, { on := 6, ground := Ground.textOnly Departure.lateStoresUnsure }, { on := 7, ground := Ground.textOnly Departure.lateStoresUnsure }, { on := 8, ground := Ground.phase }, { on := 9, ground := Ground.textOnly Departure.lateStores }, { on := 10, ground := Ground.phase }, { on := 11, ground := Ground.phase }, { on := 12, ground := Ground.phase }, { on := 13, ground := Ground.phase }, { on := 14, ground := Ground.phase }, { on := 15, ground := Ground.phase }, { on := 16, ground := Ground.phase }, { on := 17, ground := Ground.textOnly Departure.lateStores }, { on := 18, ground := Ground.textOnly Departure.lateStoresUnsure }, { on := 19, ground := Ground.textOnly Departure.lateStoresUnsure }, { on := 20, ground := Ground.phase }, { on := 21, ground := Ground.textOnly Departure.lateStores }, { on := 22, ground := Ground.textOnly Departure.lateStoresUnsure }, { on := 23, ground := Ground.phase }], guard := none }) rfl (fun K hK => ?_) AllReadyH.nil
      · skip
        refine stepStoreLtAt ?_ (.tmp 41) (.tmp 33) ?_ g (i * 3) xk ?_ ?_ ((OwnT.old HRow.out ((Old.refl w).drew)).there i HI.out) ?_
        · rfl
        · rfl
        · rfl
        · rfl
        intro w4 hw4
        obtain ⟨o4, ch4⟩ := (OwnT.old HRow.out ((Old.refl w).drew)).set i xk HI.out
        rw [← hw4] at o4 ch4
        clear hw4
        have S4 := NS.chg ch4 (by simpa using HNe.out) (NS.old ((Old.refl w).drew) HNS.out)
        refine hK.out _ _ S4 (fun _ => ?_)
        clear hK K
        (try simp only [Act.put]); (try simp only [List.setIfInBounds_toArray]); (try simp only [List.set_cons_succ]); (try simp only [List.set_cons_zero])
        refine wpAnyH_take (i := 26) (oi := { dst := some 42, op := Op.indexAddr 38 (Operand.tmp 25) (Operand.tmp 26), type := 0, pos := "net.go:71", after := #[{ on := 8, ground := Ground.data }, { on := 9, ground := Ground.data }, { on := 0, ground := Ground.phase }, { on := 1, ground := Ground.phase }, { on := 2, ground := Ground.phase }, { on := 3, ground := Ground.phase }, { on := 4, ground := Ground.phase }, { on := 5, ground := Ground.phase }, { on := 6, ground := Ground.phase }, { on := 7, ground := Ground.phase }, { on := 8, ground := Ground.phase }, { on := 9, ground := Ground.phase }, { on := 10, ground := Ground.phase }, { on := 11, ground := Ground.phase }, { on := 12, ground := Ground.phase }, { on := 13, ground := Ground.phase }, { on := 14, ground := Ground.phase }, { on := 15, ground := Ground.phase }, { on := 16, ground := Ground.phase }, { on := 17, ground := Ground.phase }, { on := 18, ground := Ground.phase }, { on := 19, ground := Ground.phase }, { on := 20, ground := Ground.phase }, { on := 21, ground := Ground.phase }, { on := 22, ground := Ground.phase }, { on := 23, ground := Ground.phase }, { on := 24, ground := Ground.phase }, { on := 25, ground := Ground.phase }], guard := none }) (v := ?vk24) rfl (by kernel_rfl) (by kernel_rfl) (by kernel_rfl) (fun _ _ _ h => h) (Or.inl ⟨by rfl, ?hk24⟩) S4 ?rk24
        case hk24 => (intro wz hSw; (try dsimp only at hSw); go_simp; try with_reducible rfl)
        (try simp only [Act.put]); (try simp only [List.setIfInBounds_toArray]); (try simp only [List.set_cons_succ]); (try simp only [List.set_cons_zero])
        refine wpAnyH_ready (rs := [27]) (by kernel_rfl) (by simp) ?_
        refine AllReadyH.cons (o := { dst := none, op := Op.store 30 (Operand.tmp 42) (Operand.tmp 40), type := 0, pos := "net.go:71", after := #[{ on := 26, ground := Ground.data }, { on := 23, ground := Ground.data }, { on := 25, ground := Ground.chain }, { on := 0, ground := Ground.phase }, { on := 1, ground := Ground.phase }, { on := 2, ground := Ground.phase }, { on := 3, ground := Ground.phase }, { on := 4, ground := Ground.phase }, { on := 5, ground := Ground.phase }, { on := 6, ground := Ground.phase }, { on := 7, ground := Ground.phase }, { on := 8, ground := Ground.phase }, { on := 9, ground := Ground.phase }, { on := 10, ground := Ground.phase }, { on := 11, ground := Ground.phase }, { on := 12, ground := Ground.phase }, { on := 13, ground := Ground.phase }, { on := 14, ground := Ground.phase }, { on := 15, ground := Ground.phase }, { on := 16, ground := Ground.phase }, { on := 17, ground := Ground.phase }, { on := 18, ground := Ground.phase }, { on := 19, ground := Ground.phase }, { on := 20, ground := Ground.phase }, { on := 21, ground := Ground.phase }, { on := 22, ground := Ground.phase }, { on := 23, ground := Ground.phase }, { on := 24, ground := Ground.phase }, { on := 25, ground := Ground.phase }], guard := none }) rfl (fun K hK => ?_) AllReadyH.nil
        · skip
          refine stepStoreLtAt ?_ (.tmp 42) (.tmp 40) ?_ g (k * 3) xi ?_ ?_ (o4.there k (by rw [List.length_set]; exact HKk.out)) ?_
          · rfl
          · rfl
          · rfl
          · rfl
          intro w5 hw5
          obtain ⟨o5, ch5⟩ := o4.set k xi (by rw [List.length_set]; exact HKk.out)
          rw [← hw5] at o5 ch5
          clear hw5
          have S5 := NS.chg ch5 (by simpa using HNe.out) S4
          have R5 := hid (HRs.out w5 o5 (((Chg.ofOld ((Old.refl w).drew)).trans ch4).trans ch5))
          refine hK.out _ _ S5 (fun _ => ?_)
          clear hK K
          (try simp only [Act.put]); (try simp only [List.setIfInBounds_toArray]); (try simp only [List.set_cons_succ]); (try simp only [List.set_cons_zero])
          refine wpAnyH_done (by kernel_rfl) ?_ _
          refine NoPanic.normal ?_
          go_wp2
          go_ret
          exact ⟨rfl, R5.out⟩
  · skip
    refine stepLoadLt ?_ (.tmp 39) ?_ g (i * 3) (.int .i64 xi.f) (.int .i64 xi.t) (.slice xi.a xi.L.length xi.c) ?_ (Old.keep ((Old.refl w).drew) HX.out.1) (Old.keep ((Old.refl w).drew) HX.out.2.1) (Old.keep ((Old.refl w).drew) HX.out.2.2) ?_
    · rfl
    · rfl
    · rfl
    refine hK.out _ _ (NS.old ((Old.refl w).drew) HNS.out) (fun _ => ?_)
    clear hK K
    (try simp only [Act.put]); (try simp only [List.setIfInBounds_toArray]); (try simp only [List.set_cons_succ]); (try simp only [List.set_cons_zero])
    refine wpAnyH_ready (rs := [16]) (by kernel_rfl) (by simp) ?_
    refine AllReadyH.cons (o := { dst := some 33, op := Op.load 30 (Operand.tmp 32), type := 30, pos := "net.go:71", after := #[{ on := 15, ground := Ground.data }], guard := none }) rfl (fun K hK => ?_) AllReadyH.nil
    · skip
      refine stepLoadLt ?_ (.tmp 32) ?_ g (k * 3) (.int .i64 xk.f) (.int .i64 xk.t) (.slice xk.a xk.L.length xk.c) ?_ (Old.keep ((Old.refl w).drew) HY.out.1) (Old.keep ((Old.refl w).drew) HY.out.2.1) (Old.keep ((Old.refl w).drew) HY.out.2.2) ?_
      · rfl
      · rfl
      · rfl
      refine hK.out _ _ (NS.old ((Old.refl w).drew) HNS.out) (fun _ => ?_)
      clear hK K
      (try simp only [Act.put]); (try simp only [List.setIfInBounds_toArray]); (try simp only [List.set_cons_succ]); (try simp only [List.set_cons_zero])
      refine wpAnyH_take (i := 24) (oi := { dst := some 41, op := Op.indexAddr 38 (Operand.tmp 20) (Operand.tmp 21), type := 0, pos := "net.go:71", after := #[{ on := 3, ground := Ground.data }, { on := 4, ground := Ground.data }, { on := 0, ground := Ground.phase }, { on := 1, ground := Ground.phase }, { on := 2, ground := Ground.phase }, { on := 3, ground := Ground.phase }, { on := 4, ground := Ground.phase }, { on := 5, ground := Ground.textOnly Departure.lateStores }, { on := 6, ground := Ground.textOnly Departure.lateStoresUnsure }, { on := 7, ground := Ground.textOnly Departure.lateStoresUnsure }, { on := 8, ground := Ground.phase }, { on := 9, ground := Ground.textOnly Departure.lateStores }, { on := 10, ground := Ground.phase }, { on := 11, ground := Ground.phase }, { on := 12, ground := Ground.phase }, { on := 13, ground := Ground.phase }, { on := 14, ground := Ground.phase }, { on := 15, ground := Ground.phase }, { on := 16, ground := Ground.phase }, { on := 17, ground := Ground.textOnly Departure.lateStores }, { on := 18, ground := Ground.textOnly Departure.lateStoresUnsure }, { on := 19, ground := Ground.textOnly Departure.lateStoresUnsure }, { on := 20, ground := Ground.phase }, { on := 21, ground := Ground.textOnly Departure.lateStores }, { on := 22, ground := Ground.textOnly Departure.lateStoresUnsure }, { on := 23, ground := Ground.phase }], guard := none }) (v := ?vk25) rfl (by kernel_rfl) (by kernel_rfl) (by kernel_rfl) (fun _ _ _ h => h) (Or.inl ⟨by rfl, ?hk25⟩) (NS.old ((Old.refl w).drew) HNS.out) ?rk25
      case hk25 => (intro wz hSw; (try dsimp only at hSw); go_simp; try with_reducible rfl)
      (try simp only [Act.put]); (try simp only [List.setIfInBounds_toArray]); (try simp only [List.set_cons_succ]); (try simp only [List.set_cons_zero])
      refine wpAnyH_ready (rs := [25]) (by kernel_rfl) (by simp) ?_
      refine AllReadyH.cons (o := { dst := none, op := Op.store 30 (Operand.tmp 41) (Operand.tmp 33), type := 0, pos := "net.go:71", after := #[{ on := 24, ground := Ground.data }, { on := 16, ground := Ground.data }, { on := 0, ground := Ground.phase }, { on := 1, ground := Ground.phase }, { on := 2, ground := Ground.phase }, { on := 3, ground := Ground.phase }, { on := 4, ground := Ground.phase }, { on := 5, ground := Ground.textOnly Departure.lateStores }, { on := 6, ground := Ground.textOnly Departure.lateStoresUnsure }, { on := 7, ground := Ground.textOnly Departure.lateStoresUnsure }, { on := 8, ground := Ground.phase }, { on := 9, ground := Ground.textOnly Departure.lateStores }, { on := 10, ground := Ground.phase }, { on := 11, ground := Ground.phase }, { on := 12, ground := Ground.phase }, { on := 13, ground := Ground.phase }, { on := 14, ground := Ground.phase }, { on := 15, ground := Ground.phase }, { on := 16, ground := Ground.phase }, { on := 17, ground := Ground.textOnly Departure.lateStores }, { on := 18, ground := Ground.textOnly Departure.lateStoresUnsure }, { on := 19, ground := Ground.textOnly Departure.lateStoresUnsure }, { on := 20, ground := Ground.phase }, { on := 21, ground := Ground.textOnly Departure.lateStores }, { on := 22, ground := Ground.textOnly Departure.lateStoresUnsure }, { on := 23, ground := Ground.phase }], guard := none }) rfl (fun K hK => ?_) AllReadyH.nil
      · skip
        refine stepStoreLtAt ?_ (.tmp 41) (.tmp 33) ?_ g (i * 3) xk ?_ ?_ ((OwnT.old HRow.out ((Old.refl w).drew)).there i HI.out) ?_
        · rfl
        · rfl
        · rfl
        · rfl
        intro w4 hw4
        obtain ⟨o4, ch4⟩ := (OwnT.old HRow.out ((Old.refl w).drew)).set i xk HI.out
        rw [← hw4] at o4 ch4
        clear hw4
        have S4 := NS.chg ch4 (by simpa using HNe.out) (NS.old ((Old.refl w).drew) HNS.out)
        refine hK.out _ _ S4 (fun _ => ?_)
        clear hK K
        (try simp only [Act.put]); (try simp only [List.setIfInBounds_toArray]); (try simp only [List.set_cons_succ]); (try simp only [List.set_cons_zero])
        refine wpAnyH_take (i := 26) (oi := { dst := some 42, op := Op.indexAddr 38 (Operand.tmp 25) (Operand.tmp 26), type := 0, pos := "net.go:71", after := #[{ on := 8, ground := Ground.data }, { on := 9, ground := Ground.data }, { on := 0, ground := Ground.phase }, { on := 1, ground := Ground.phase }, { on := 2, ground := Ground.phase }, { on := 3, ground := Ground.phase }, { on := 4, ground := Ground.phase }, { on := 5, ground := Ground.phase }, { on := 6, ground := Ground.phase }, { on := 7, ground := Ground.phase }, { on := 8, ground := Ground.phase }, { on := 9, ground := Ground.phase }, { on := 10, ground := Ground.phase }, { on := 11, ground := Ground.phase }, { on := 12, ground := Ground.phase }, { on := 13, ground := Ground.phase }, { on := 14, ground := Ground.phase }, { on := 15, ground := Ground.phase }, { on := 16, ground := Ground.phase }, { on := 17, ground := Ground.phase }, { on := 18, ground := Ground.phase }, { on := 19, ground := Ground.phase }, { on := 20, ground := Ground.phase }, { on := 21, ground := Ground.phase }, { on := 22, ground := Ground.phase }, { on := 23, ground := Ground.phase }, { on := 24, ground := Ground.phase }, { on := 25, ground := Ground.phase }], guard := none }) (v := ?vk26) rfl (by kernel_rfl) (by kernel_rfl) (by kernel_rfl) (fun _ _ _ h => h) (Or.inl ⟨by rfl, ?hk26⟩) S4 ?rk26
        case hk26 => (intro wz hSw; (try dsimp only at hSw); go_simp; try with_reducible rfl)
        (try simp only [Act.put]); (try simp only [List.setIfInBounds_toArray]); (try simp only [List.set_cons_succ]); (try simp only [List.set_cons_zero])
        refine wpAnyH_ready (rs := [27]) (by kernel_rfl) (by simp) ?_
        refine AllReadyH.cons (o := { dst := none, op := Op.store 30 (Operand.tmp 42) (Operand.tmp 40), type := 0, pos := "net.go:71", after := #[{ on := 26, ground := Ground.data }, { on := 23, ground := Ground.data }, { on := 25, ground := Ground.chain }, { on := 0, ground := Ground.phase }, { on := 1, ground := Ground.phase }, { on := 2, ground := Ground.phase }, { on := 3, ground := Ground.phase }, { on := 4, ground := Ground.phase }, { on := 5, ground := Ground.phase }, { on := 6, ground := Ground.phase }, { on := 7, ground := Ground.phase }, { on := 8, ground := Ground.phase }, { on := 9, ground := Ground.phase }, { on := 10, ground := Ground.phase }, { on := 11, ground := Ground.phase }, { on := 12, ground := Ground.phase }, { on := 13, ground := Ground.phase }, { on := 14, ground := Ground.phase }, { on := 15, ground := Ground.phase }, { on := 16, ground := Ground.phase }, { on := 17, ground := Ground.phase }, { on := 18, ground := Ground.phase }, { on := 19, ground := Ground.phase }, { on := 20, ground := Ground.phase }, { on := 21, ground := Ground.phase }, { on := 22, ground := Ground.phase }, { on := 23, ground := Ground.phase }, { on := 24, ground := Ground.phase }, { on := 25, ground := Ground.phase }], guard := none }) rfl (fun K hK => ?_) AllReadyH.nil
        · skip
          refine stepStoreLtAt ?_ (.tmp 42) (.tmp 40) ?_ g (k * 3) xi ?_ ?_ (o4.there k (by rw [List.length_set]; exact HKk.out)) ?_
          · rfl
          · rfl
          · rfl
          · rfl
          intro w5 hw5
          obtain ⟨o5, ch5⟩ := o4.set k xi (by rw [List.length_set]; exact HKk.out)
          rw [← hw5] at o5 ch5
          clear hw5
          have S5 := NS.chg ch5 (by simpa using HNe.out) S4
          have R5 := hid (HRs.out w5 o5 (((Chg.ofOld ((Old.refl w).drew)).trans ch4).trans ch5))
          refine hK.out _ _ S5 (fun _ => ?_)
          clear hK K
          (try simp only [Act.put]); (try simp only [List.setIfInBounds_toArray]); (try simp only [List.set_cons_succ]); (try simp only [List.set_cons_zero])
          refine wpAnyH_done (by kernel_rfl) ?_ _
          refine NoPanic.normal ?_
          go_wp2
          go_ret
          exact ⟨rfl, R5.out⟩
end Go.Proofs.Ytejeihbcakojeaa
