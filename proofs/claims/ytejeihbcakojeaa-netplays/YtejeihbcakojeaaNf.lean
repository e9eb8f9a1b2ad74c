/- A net's Short; conditions: it lies in memory. -/
import Derived.Test.YtejeihbcakojeaaNb
namespace Go.Proofs.Ytejeihbcakojeaa
open Go.RowKit Go.Lib
set_option linter.unusedVariables false
set_option linter.unusedSimpArgs false
set_option maxRecDepth 20000
theorem flat_set2 : ∀ (X : List Lt) (i : Nat) (y : Lt) (hi : i < X.length), y.f = X[i].f → y.t = X[i].t → (ltcs X).set (i * 3 + 2) (.slice y.a y.L.length y.c) = ltcs (X.set i y)
  | x :: t, 0, y, _, h1, h2 => by
    simp at h1 h2
    simp [ltcs, ltc, h1, h2]
  | x :: t, i + 1, y, hi, h1, h2 => by
    have e : ∀ (z : Lt) (u : List Lt), ltcs (z :: u) = ltc z ++ ltcs u := fun z u => by simp [ltcs]
    rw [e, List.set_append_right _ _ (by rw [ltc_len]; omega), ltc_len, show (i + 1) * 3 + 2 - 3 = i * 3 + 2 from by omega, flat_set2 t i y (by simpa using hi) (by simpa using h1) (by simpa using h2), List.set_cons_succ, e]
theorem OwnT.set2 {base : Nat} {w : World} {g n c : Nat} {X : List Lt} (h : OwnT base w (.slice (some ⟨g, 0, none⟩) n c) X) (i : Nat) (y : Lt) (hi : i < X.length) (h1 : y.f = X[i].f) (h2 : y.t = X[i].t) : OwnT base (w.setCell ⟨g, i * 3 + 2, none⟩ (.slice y.a y.L.length y.c)) (.slice (some ⟨g, 0, none⟩) n c) (X.set i y) := by
  rcases h.cases with ⟨q, _⟩ | ⟨g', cap, cur, q, hb, hg, k1, k2, k3, k4⟩
  · cases q
  · cases q
    have hl : (X.set i y).length = X.length := List.length_set ..
    have q := ownT_of (base := base) (X := X.set i y) hb (Go.Joins.block_setCell hg (.slice y.a y.L.length y.c) (i := i * 3 + 2)) (by omega) k2 (by simpa using k3) (by
      rw [hl, Array.toList_setIfInBounds, List.take_set, k4, flat_set2 X i y hi h1 h2])
    rw [hl] at q
    exact q
theorem Own.take {w : World} {a : Option Addr} {n c : Nat} {L : List Nat} (h : Own w (.slice a n c) L) (m : Nat) (hm : m ≤ L.length) (h0 : 0 < L.length) : Own w (.slice a m c) (L.take m) := by
  have hb := h.byt
  rcases h.cases with ⟨_, rfl⟩ | ⟨g, cap, cur, q, hg, h1, h2, h3, h4⟩
  · simp at h0
  · obtain ⟨e1, -, e3⟩ := Value.slice.inj q
    subst e1 e3
    have hl : (L.take m).length = m := by rw [List.length_take]; omega
    have q := own_of (L := L.take m) (cap := c) hg (by omega) h2 h3 (by
      rw [hl]
      have e : cur.toList.take m = (cur.toList.take L.length).take m := by rw [List.take_take, Nat.min_eq_left hm]
      rw [e, h4]
      simp [bv]) (fun x hx => hb x (List.mem_of_mem_take hx))
    rw [hl] at q
    exact q
theorem stepLoadB {ops : Array Oper} {o : Oper} {a : Act} {w : World} {K : Act → World → Prop} {Q : Exit → Act → World → Prop} {E : Prop} (hg : o.guard = none) (x : Operand) (hop : o.op = Op.load 26 x) (b off : Nat) (v : Value)
    (hx : a.eval x = .pointer (some ⟨b, off, none⟩)) (hc : w.cell? ⟨b, off, none⟩ = some v) (hK : K (a.put o.dst v) w) :
    if Region.wanted o (yielded ops a.tmps) = true then Oper.wp Try.prog o a w K Q else E := by
  have hw : Region.wanted o (yielded ops a.tmps) = true := by simp [Region.wanted, hg]
  rw [if_pos hw]
  obtain ⟨d, p, t, ps, af, gd⟩ := o
  subst hop
  unfold Oper.wp execOp
  simp only [hx]
  go_simp
  exact hK
theorem stepStoreB {ops : Array Oper} {o : Oper} {a : Act} {w : World} {K : Act → World → Prop} {Q : Exit → Act → World → Prop} {E : Prop} (hg : o.guard = none) (x y : Operand) (hop : o.op = Op.store 26 x y) (m off : Nat) (p : Option Addr) (n c : Nat) (z : Value)
    (hx : a.eval x = .pointer (some ⟨m, off, none⟩)) (hy : a.eval y = .slice p n c) (h1 : w.cell? ⟨m, off, none⟩ = some z) (h2 : w.frozen? ⟨m, off, none⟩ = false)
    (hK : K (a.put o.dst undef) (w.setCell ⟨m, off, none⟩ (.slice p n c))) :
    if Region.wanted o (yielded ops a.tmps) = true then Oper.wp Try.prog o a w K Q else E := by
  have hw : Region.wanted o (yielded ops a.tmps) = true := by simp [Region.wanted, hg]
  rw [if_pos hw]
  obtain ⟨d, p', t, ps, af, gd⟩ := o
  subst hop
  unfold Oper.wp execOp
  simp only [hx, hy]
  go_simp
  exact hK
set_option maxHeartbeats 1000000 in
set_option maxRecDepth 20000 in
theorem short_no1 (d : Nt) (i : Int) (w : World) (h : NtAt w d) (hi : i < 0 ∨ (d.X.length : Int) ≤ i) : Calls Try.prog 24 #[.pointer (some ⟨d.nb, 0, none⟩), .int .i64 i] w fun e w' => e = .returned (.bool false) ∧ w' = w := by
  have HH := hid (has_no d i w h hi)
  clear h hi
  go_enter Try.func24, Try.ntmps24
  go_wp2_with (go_at_call 22; refine HH.out.mono ?_; rintro e w' ⟨rfl, hw⟩; have hw2 := hw.symm; subst hw2)
  go_ret
  exact ⟨rfl, rfl⟩
set_option maxHeartbeats 1000000 in
set_option maxRecDepth 20000 in
theorem short_no2 (d : Nt) (i : Nat) (w : World) (h : NtAt w d) (hi : i < d.X.length) (h0 : d.X[i].L = []) : Calls Try.prog 24 #[.pointer (some ⟨d.nb, 0, none⟩), .int .i64 (i : Nat)] w fun e w' => e = .returned (.bool false) ∧ w' = w := by
  have HH := hid (has_yes d i w h hi)
  obtain ⟨c0, c1, -, -⟩ := h.cells
  obtain ⟨g, c, q, hnc, hcm, ⟨y0, y1, y2⟩, -⟩ := h.row.at i hi
  have ha : d.a = some ⟨g, 0, none⟩ := (Value.slice.inj q).1
  have hc : d.c = c := (Value.slice.inj q).2.2
  rw [ha, hc] at c1
  have l1 : (0 : Int) ≤ (i : Int) := by omega
  have l2 : (i : Int) < (d.X.length : Int) := by omega
  unfold Lt.v at y2
  rw [h0] at y2
  simp only [List.length_nil] at y2
  clear h q ha hc c0 y0 y1 h0
  generalize d.X[i].a = xa at *
  generalize d.X[i].c = xc at *
  clear hi
  generalize d.X.length = n at *
  generalize d.nb = nb at *
  go_enter Try.func24, Try.ntmps24
  go_wp2_with (go_at_call 22; refine HH.out.mono ?_; rintro e w' ⟨rfl, hw⟩; have hw2 := hw.symm; subst hw2)
  go_ret
  exact ⟨rfl, rfl⟩
set_option maxHeartbeats 1000000 in
set_option maxRecDepth 20000 in
theorem short_ok (d : Nt) (i m : Nat) (w : World) (h : NtAt w d) (hi : i < d.X.length) (h0 : d.X[i].L.length = m + 1) : Calls Try.prog 24 #[.pointer (some ⟨d.nb, 0, none⟩), .int .i64 (i : Nat)] w fun e w' => e = .returned (.bool true) ∧ NRes w d (d.X.set i ⟨d.X[i].f, d.X[i].t, d.X[i].a, d.X[i].c, d.X[i].L.take m⟩) w' := by
  have HH := hid (has_yes d i w h hi)
  obtain ⟨c0, c1, -, -⟩ := h.cells
  obtain ⟨g, c, q, hnc, hcm, ⟨y0, y1, y2⟩, hfr⟩ := h.row.at i hi
  have hby := h.byt _ (List.getElem_mem hi)
  have hv : d.v.ownBlock = some g := by rw [q]; rfl
  have hm1 : (d.X[i].L.take m).length = m := by rw [List.length_take]; omega
  have hcap : d.X[i].L.length ≤ d.X[i].c ∧ d.X[i].c ≤ 9223372036854775807 := by
    rcases hby.1.cases with ⟨_, e⟩ | ⟨g', cap', cur, q', _, k1, k2, _⟩
    · rw [e] at h0; simp at h0
    · have := (Value.slice.inj q').2.2
      unfold maxLen at k2
      rw [this]
      omega
  have HRs := hid (show ∀ w1 : World, OwnT 0 w1 (.slice (some ⟨g, 0, none⟩) d.X.length c) (d.X.set i ⟨d.X[i].f, d.X[i].t, d.X[i].a, d.X[i].c, d.X[i].L.take m⟩) → Chg [g] w w1 → NRes w d (d.X.set i ⟨d.X[i].f, d.X[i].t, d.X[i].a, d.X[i].c, d.X[i].L.take m⟩) w1 from fun w1 o1 ch => row_res h hv (List.length_set ..) (by rw [q]; exact o1) ch (fun x hx => by
    rcases List.mem_or_eq_of_mem_set hx with z | z
    · exact .inl z
    · refine .inr ?_
      rw [z]
      have ho := (hby.1.chg ch (fun k e hk => (hby.1.off h) k e (by simp at hk; rw [hk]; exact Nt.mem.2 (.inr hv)))).take m (by omega) (by omega)
      refine ⟨?_, by show (d.X[i].L.take m).length ≤ _; have := hby.2; omega⟩
      unfold Lt.v
      dsimp only
      rw [hm1]
      exact ho))
  have HSet := hid (show ∀ w1 : World, Old w w1 → OwnT 0 (w1.setCell ⟨g, i * 3 + 2, none⟩ (.slice d.X[i].a m d.X[i].c)) (.slice (some ⟨g, 0, none⟩) d.X.length c) (d.X.set i ⟨d.X[i].f, d.X[i].t, d.X[i].a, d.X[i].c, d.X[i].L.take m⟩) from fun w1 u => by
    have o0 : OwnT 0 w1 (.slice (some ⟨g, 0, none⟩) d.X.length c) d.X := by have := (h.old u).row; rw [q] at this; exact this
    have := o0.set2 i ⟨d.X[i].f, d.X[i].t, d.X[i].a, d.X[i].c, d.X[i].L.take m⟩ hi rfl rfl
    dsimp only at this
    rw [hm1] at this
    exact this)
  have ha : d.a = some ⟨g, 0, none⟩ := (Value.slice.inj q).1
  have hc : d.c = c := (Value.slice.inj q).2.2
  rw [ha, hc] at c1
  have l1 : (0 : Int) ≤ (i : Int) := by omega
  have l2 : (i : Int) < (d.X.length : Int) := by omega
  unfold Lt.v at y2
  rw [h0] at y2 hcap
  have HF := hid (hfr (i * 3 + 2))
  have HFo := hid (show ∀ w1, Old w w1 → w1.frozen? ⟨g, i * 3 + 2, none⟩ = false from fun w1 u => u.keepF y2 (hfr _))
  have HY := hid y2
  clear h q ha hc c0 y0 y1 h0 hby hv hm1 hfr HF
  generalize d.X.set i ⟨d.X[i].f, d.X[i].t, d.X[i].a, d.X[i].c, d.X[i].L.take m⟩ = X5 at *
  generalize d.X[i].a = xa at *
  generalize d.X[i].c = xc at *
  clear hi
  generalize d.X.length = n at *
  generalize d.nb = nb at *
  have e1 : IntKind.i64.wrap (((m + 1 : Nat) : Int) - 1) = (m : Int) := by rw [IntKind.wrap_i64]; omega
  have e2 : (((m + 1 : Nat) : Int) == 0) = false := by rw [beq_eq_false_iff_ne]; omega
  have e3 : (m : Int) ≤ (xc : Int) := by omega
  have e4 : (xc : Int) ≤ 9223372036854775807 := by omega
  have e5 : (0 : Int) ≤ (m : Int) := by omega
  obtain ⟨l, hl⟩ : ∃ l, l = m + 1 := ⟨_, rfl⟩
  rw [← hl] at y2 HY e1 e2
  clear hl hcap hnc hcm
  go_enter Try.func24, Try.ntmps24
  go_upto_region 4 with (go_at_call 22; refine HH.out.mono ?_; rintro e w' ⟨rfl, hw⟩; have hw2 := hw.symm; subst hw2)
  clear HH c1 y2
  refine wp_region_noPanic ?_
  refine wp_region_held_drew (S := fun _ => True) (by kernel_rfl) ?_ (fun hHeld => ?_)
  · exact trivial
  (try simp only [Act.put]); (try simp only [List.setIfInBounds_toArray]); (try simp only [List.set_cons_succ]); (try simp only [List.set_cons_zero])
  clear hHeld
  refine wpAnyH_take (i := 0) (oi := { dst := some 28, op := Op.move (Operand.tmp 5), type := 65, pos := "net.go:81", after := #[], guard := none }) (v := ?vk1) rfl (by kernel_rfl) (by kernel_rfl) (by kernel_rfl) (fun _ _ _ h => h) (Or.inl ⟨by rfl, ?hk1⟩) trivial ?rk1
  case hk1 => (intro wz hSw; (try dsimp only at hSw); go_simp; try with_reducible rfl)
  (try simp only [Act.put]); (try simp only [List.setIfInBounds_toArray]); (try simp only [List.set_cons_succ]); (try simp only [List.set_cons_zero])
  refine wpAnyH_take (i := 1) (oi := { dst := some 29, op := Op.move (Operand.tmp 5), type := 65, pos := "net.go:81", after := #[], guard := none }) (v := ?vk2) rfl (by kernel_rfl) (by kernel_rfl) (by kernel_rfl) (fun _ _ _ h => h) (Or.inl ⟨by rfl, ?hk2⟩) trivial ?rk2
  case hk2 => (intro wz hSw; (try dsimp only at hSw); go_simp; try with_reducible rfl)
  (try simp only [Act.put]); (try simp only [List.setIfInBounds_toArray]); (try simp only [List.set_cons_succ]); (try simp only [List.set_cons_zero])
  refine wpAnyH_take (i := 2) (oi := { dst := some 30, op := Op.nilCheck (Operand.tmp 29), type := 0, pos := "net.go:81", after := #[{ on := 1, ground := Ground.data }], guard := none }) (v := ?vk3) rfl (by kernel_rfl) (by kernel_rfl) (by kernel_rfl) (fun _ _ _ h => h) (Or.inl ⟨by rfl, ?hk3⟩) trivial ?rk3
  case hk3 => (intro wz hSw; (try dsimp only at hSw); go_simp; try with_reducible rfl)
  (try simp only [Act.put]); (try simp only [List.setIfInBounds_toArray]); (try simp only [List.set_cons_succ]); (try simp only [List.set_cons_zero])
  refine wpAnyH_take (i := 3) (oi := { dst := some 31, op := Op.fieldAddr 30 (Operand.tmp 30) 2, type := 0, pos := "net.go:81", after := #[{ on := 2, ground := Ground.data }], guard := none }) (v := ?vk4) rfl (by kernel_rfl) (by kernel_rfl) (by kernel_rfl) (fun _ _ _ h => h) (Or.inl ⟨by rfl, ?hk4⟩) trivial ?rk4
  case hk4 => (intro wz hSw; (try dsimp only at hSw); go_simp; try with_reducible rfl)
  (try simp only [Act.put]); (try simp only [List.setIfInBounds_toArray]); (try simp only [List.set_cons_succ]); (try simp only [List.set_cons_zero])
  refine wpAnyH_take (i := 5) (oi := { dst := some 33, op := Op.move (Operand.tmp 5), type := 65, pos := "net.go:81", after := #[], guard := none }) (v := ?vk5) rfl (by kernel_rfl) (by kernel_rfl) (by kernel_rfl) (fun _ _ _ h => h) (Or.inl ⟨by rfl, ?hk5⟩) trivial ?rk5
  case hk5 => (intro wz hSw; (try dsimp only at hSw); go_simp; try with_reducible rfl)
  (try simp only [Act.put]); (try simp only [List.setIfInBounds_toArray]); (try simp only [List.set_cons_succ]); (try simp only [List.set_cons_zero])
  refine wpAnyH_take (i := 6) (oi := { dst := some 34, op := Op.nilCheck (Operand.tmp 33), type := 0, pos := "net.go:81", after := #[{ on := 5, ground := Ground.data }], guard := none }) (v := ?vk6) rfl (by kernel_rfl) (by kernel_rfl) (by kernel_rfl) (fun _ _ _ h => h) (Or.inl ⟨by rfl, ?hk6⟩) trivial ?rk6
  case hk6 => (intro wz hSw; (try dsimp only at hSw); go_simp; try with_reducible rfl)
  (try simp only [Act.put]); (try simp only [List.setIfInBounds_toArray]); (try simp only [List.set_cons_succ]); (try simp only [List.set_cons_zero])
  refine wpAnyH_take (i := 7) (oi := { dst := some 35, op := Op.fieldAddr 30 (Operand.tmp 34) 2, type := 0, pos := "net.go:81", after := #[{ on := 6, ground := Ground.data }], guard := none }) (v := ?vk7) rfl (by kernel_rfl) (by kernel_rfl) (by kernel_rfl) (fun _ _ _ h => h) (Or.inl ⟨by rfl, ?hk7⟩) trivial ?rk7
  case hk7 => (intro wz hSw; (try dsimp only at hSw); go_simp; try with_reducible rfl)
  (try simp only [Act.put]); (try simp only [List.setIfInBounds_toArray]); (try simp only [List.set_cons_succ]); (try simp only [List.set_cons_zero])
  refine wpAnyH_ready (rs := [4, 8]) (by kernel_rfl) (by simp) ?_
  refine AllReadyH.cons (o := { dst := some 32, op := Op.load 26 (Operand.tmp 31), type := 26, pos := "net.go:81", after := #[{ on := 3, ground := Ground.data }], guard := none }) rfl (fun K hK => ?_) (AllReadyH.cons (o := { dst := some 36, op := Op.load 26 (Operand.tmp 35), type := 26, pos := "net.go:81", after := #[{ on := 7, ground := Ground.data }], guard := none }) rfl (fun K hK => ?_) AllReadyH.nil)
  · skip
    refine stepLoadB ?_ (.tmp 31) ?_ g (i * 3 + 2) (.slice xa l xc) ?_ (Old.keep ((Old.refl w).drew) HY.out) ?_
    · rfl
    · rfl
    · rfl
    refine hK.out _ _ trivial (fun _ => ?_)
    clear hK K
    (try simp only [Act.put]); (try simp only [List.setIfInBounds_toArray]); (try simp only [List.set_cons_succ]); (try simp only [List.set_cons_zero])
    refine wpAnyH_ready (rs := [8]) (by kernel_rfl) (by simp) ?_
    refine AllReadyH.cons (o := { dst := some 36, op := Op.load 26 (Operand.tmp 35), type := 26, pos := "net.go:81", after := #[{ on := 7, ground := Ground.data }], guard := none }) rfl (fun K hK => ?_) AllReadyH.nil
    · skip
      refine stepLoadB ?_ (.tmp 35) ?_ g (i * 3 + 2) (.slice xa l xc) ?_ (Old.keep ((Old.refl w).drew) HY.out) ?_
      · rfl
      · rfl
      · rfl
      refine hK.out _ _ trivial (fun _ => ?_)
      clear hK K
      (try simp only [Act.put]); (try simp only [List.setIfInBounds_toArray]); (try simp only [List.set_cons_succ]); (try simp only [List.set_cons_zero])
      refine wpAnyH_take (i := 9) (oi := { dst := some 37, op := Op.call { callee := Callee.builtin Builtin.len, args := #[Operand.tmp 36], argTypes := #[26] }, type := 3, pos := "net.go:81", after := #[{ on := 8, ground := Ground.data }], guard := none }) (v := ?vk8) rfl (by kernel_rfl) (by kernel_rfl) (by kernel_rfl) (fun _ _ _ h => h) (Or.inl ⟨by rfl, ?hk8⟩) trivial ?rk8
      case hk8 => (intro wz hSw; (try dsimp only at hSw); go_simp; try with_reducible rfl)
      (try simp only [Act.put]); (try simp only [List.setIfInBounds_toArray]); (try simp only [List.set_cons_succ]); (try simp only [List.set_cons_zero])
      refine wpAnyH_take (i := 10) (oi := { dst := some 38, op := Op.binOp BinOp.sub 3 (Operand.tmp 37) (Operand.const (Value.int IntKind.i64 1)) 3, type := 3, pos := "net.go:81", after := #[{ on := 9, ground := Ground.data }], guard := none }) (v := ?vk9) rfl (by kernel_rfl) (by kernel_rfl) (by kernel_rfl) (fun _ _ _ h => h) (Or.inl ⟨by rfl, ?hk9⟩) trivial ?rk9
      case hk9 => (intro wz hSw; (try dsimp only at hSw); go_simp; try with_reducible rfl)
      (try simp only [Act.put]); (try simp only [List.setIfInBounds_toArray]); (try simp only [List.set_cons_succ]); (try simp only [List.set_cons_zero])
      refine wpAnyH_take (i := 11) (oi := { dst := some 39, op := Op.slice 26 (Operand.tmp 32) none (some (Operand.tmp 38)) none, type := 26, pos := "net.go:81", after := #[{ on := 4, ground := Ground.data }, { on := 10, ground := Ground.data }], guard := none }) (v := ?vk10) rfl (by kernel_rfl) (by kernel_rfl) (by kernel_rfl) (fun _ _ _ h => h) (Or.inl ⟨by rfl, ?hk10⟩) trivial ?rk10
      case hk10 => (intro wz hSw; (try dsimp only at hSw); go_simp; try with_reducible rfl)
      (try simp only [Act.put]); (try simp only [List.setIfInBounds_toArray]); (try simp only [List.set_cons_succ]); (try simp only [List.set_cons_zero])
      refine wpAnyH_take (i := 12) (oi := { dst := some 40, op := Op.nilCheck (Operand.tmp 28), type := 0, pos := "net.go:81", after := #[{ on := 0, ground := Ground.data }, { on := 0, ground := Ground.phase }, { on := 1, ground := Ground.phase }, { on := 2, ground := Ground.phase }, { on := 3, ground := Ground.phase }, { on := 4, ground := Ground.phase }, { on := 5, ground := Ground.phase }, { on := 6, ground := Ground.phase }, { on := 7, ground := Ground.phase }, { on := 8, ground := Ground.phase }, { on := 9, ground := Ground.phase }, { on := 10, ground := Ground.phase }, { on := 11, ground := Ground.phase }], guard := none }) (v := ?vk11) rfl (by kernel_rfl) (by kernel_rfl) (by kernel_rfl) (fun _ _ _ h => h) (Or.inl ⟨by rfl, ?hk11⟩) trivial ?rk11
      case hk11 => (intro wz hSw; (try dsimp only at hSw); go_simp; try with_reducible rfl)
      (try simp only [Act.put]); (try simp only [List.setIfInBounds_toArray]); (try simp only [List.set_cons_succ]); (try simp only [List.set_cons_zero])
      refine wpAnyH_take (i := 13) (oi := { dst := some 41, op := Op.fieldAddr 30 (Operand.tmp 40) 2, type := 0, pos := "net.go:81", after := #[{ on := 12, ground := Ground.data }, { on := 0, ground := Ground.phase }, { on := 1, ground := Ground.phase }, { on := 2, ground := Ground.phase }, { on := 3, ground := Ground.phase }, { on := 4, ground := Ground.phase }, { on := 5, ground := Ground.phase }, { on := 6, ground := Ground.phase }, { on := 7, ground := Ground.phase }, { on := 8, ground := Ground.phase }, { on := 9, ground := Ground.phase }, { on := 10, ground := Ground.phase }, { on := 11, ground := Ground.phase }], guard := none }) (v := ?vk12) rfl (by kernel_rfl) (by kernel_rfl) (by kernel_rfl) (fun _ _ _ h => h) (Or.inl ⟨by rfl, ?hk12⟩) trivial ?rk12
      case hk12 => (intro wz hSw; (try dsimp only at hSw); go_simp; try with_reducible rfl)
      (try simp only [Act.put]); (try simp only [List.setIfInBounds_toArray]); (try simp only [List.set_cons_succ]); (try simp only [List.set_cons_zero])
      refine wpAnyH_ready (rs := [14]) (by kernel_rfl) (by simp) ?_
      refine AllReadyH.cons (o := { dst := none, op := Op.store 26 (Operand.tmp 41) (Operand.tmp 39), type := 0, pos := "net.go:81", after := #[{ on := 13, ground := Ground.data }, { on := 11, ground := Ground.data }, { on := 0, ground := Ground.phase }, { on := 1, ground := Ground.phase }, { on := 2, ground := Ground.phase }, { on := 3, ground := Ground.phase }, { on := 4, ground := Ground.phase }, { on := 5, ground := Ground.phase }, { on := 6, ground := Ground.phase }, { on := 7, ground := Ground.phase }, { on := 8, ground := Ground.phase }, { on := 9, ground := Ground.phase }, { on := 10, ground := Ground.phase }, { on := 11, ground := Ground.phase }], guard := none }) rfl (fun K hK => ?_) AllReadyH.nil
      · skip
        refine stepStoreB ?_ (.tmp 41) (.tmp 39) ?_ g (i * 3 + 2) xa m xc _ ?_ ?_ (Old.keep ((Old.refl w).drew) HY.out) (HFo.out _ ((Old.refl w).drew)) ?_
        · rfl
        · rfl
        · rfl
        · rfl
        have R5 := hid (HRs.out _ (HSet.out _ ((Old.refl w).drew)) ((Chg.ofOld ((Old.refl w).drew)).trans (Chg.set (S := [g]) _ ⟨g, i * 3 + 2, none⟩ _ (by simp))))
        refine hK.out _ _ trivial (fun _ => ?_)
        clear hK K
        (try simp only [Act.put]); (try simp only [List.setIfInBounds_toArray]); (try simp only [List.set_cons_succ]); (try simp only [List.set_cons_zero])
        refine wpAnyH_done (by kernel_rfl) ?_ _
        refine NoPanic.normal ?_
        go_wp2
        go_ret
        exact ⟨rfl, R5.out⟩
  · skip
    refine stepLoadB ?_ (.tmp 35) ?_ g (i * 3 + 2) (.slice xa l xc) ?_ (Old.keep ((Old.refl w).drew) HY.out) ?_
    · rfl
    · rfl
    · rfl
    refine hK.out _ _ trivial (fun _ => ?_)
    clear hK K
    (try simp only [Act.put]); (try simp only [List.setIfInBounds_toArray]); (try simp only [List.set_cons_succ]); (try simp only [List.set_cons_zero])
    refine wpAnyH_take (i := 9) (oi := { dst := some 37, op := Op.call { callee := Callee.builtin Builtin.len, args := #[Operand.tmp 36], argTypes := #[26] }, type := 3, pos := "net.go:81", after := #[{ on := 8, ground := Ground.data }], guard := none }) (v := ?vk13) rfl (by kernel_rfl) (by kernel_rfl) (by kernel_rfl) (fun _ _ _ h => h) (Or.inl ⟨by rfl, ?hk13⟩) trivial ?rk13
    case hk13 => (intro wz hSw; (try dsimp only at hSw); go_simp; try with_reducible rfl)
    (try simp only [Act.put]); (try simp only [List.setIfInBounds_toArray]); (try simp only [List.set_cons_succ]); (try simp only [List.set_cons_zero])
    refine wpAnyH_take (i := 10) (oi := { dst := some 38, op := Op.binOp BinOp.sub 3 (Operand.tmp 37) (Operand.const (Value.int IntKind.i64 1)) 3, type := 3, pos := "net.go:81", after := #[{ on := 9, ground := Ground.data }], guard := none }) (v := ?vk14) rfl (by kernel_rfl) (by kernel_rfl) (by kernel_rfl) (fun _ _ _ h => h) (Or.inl ⟨by rfl, ?hk14⟩) trivial ?rk14
    case hk14 => (intro wz hSw; (try dsimp only at hSw); go_simp; try with_reducible rfl)
    (try simp only [Act.put]); (try simp only [List.setIfInBounds_toArray]); (try simp only [List.set_cons_succ]); (try simp only [List.set_cons_zero])
    refine wpAnyH_ready (rs := [4]) (by kernel_rfl) (by simp) ?_
    refine AllReadyH.cons (o := { dst := some 32, op := Op.load 26 (Operand.tmp 31), type := 26, pos := "net.go:81", after := #[{ on := 3, ground := Ground.data }], guard := none }) rfl (fun K hK => ?_) AllReadyH.nil
    · skip
      refine stepLoadB ?_ (.tmp 31) ?_ g (i * 3 + 2) (.slice xa l xc) ?_ (Old.keep ((Old.refl w).drew) HY.out) ?_
      · rfl
      · rfl
      · rfl
      refine hK.out _ _ trivial (fun _ => ?_)
      clear hK K
      (try simp only [Act.put]); (try simp only [List.setIfInBounds_toArray]); (try simp only [List.set_cons_succ]); (try simp only [List.set_cons_zero])
      refine wpAnyH_take (i := 11) (oi := { dst := some 39, op := Op.slice 26 (Operand.tmp 32) none (some (Operand.tmp 38)) none, type := 26, pos := "net.go:81", after := #[{ on := 4, ground := Ground.data }, { on := 10, ground := Ground.data }], guard := none }) (v := ?vk15) rfl (by kernel_rfl) (by kernel_rfl) (by kernel_rfl) (fun _ _ _ h => h) (Or.inl ⟨by rfl, ?hk15⟩) trivial ?rk15
      case hk15 => (intro wz hSw; (try dsimp only at hSw); go_simp; try with_reducible rfl)
      (try simp only [Act.put]); (try simp only [List.setIfInBounds_toArray]); (try simp only [List.set_cons_succ]); (try simp only [List.set_cons_zero])
      refine wpAnyH_take (i := 12) (oi := { dst := some 40, op := Op.nilCheck (Operand.tmp 28), type := 0, pos := "net.go:81", after := #[{ on := 0, ground := Ground.data }, { on := 0, ground := Ground.phase }, { on := 1, ground := Ground.phase }, { on := 2, ground := Ground.phase }, { on := 3, ground := Ground.phase }, { on := 4, ground := Ground.phase }, { on := 5, ground := Ground.phase }, { on := 6, ground := Ground.phase }, { on := 7, ground := Ground.phase }, { on := 8, ground := Ground.phase }, { on := 9, ground := Ground.phase }, { on := 10, ground := Ground.phase }, { on := 11, ground := Ground.phase }], guard := none }) (v := ?vk16) rfl (by kernel_rfl) (by kernel_rfl) (by kernel_rfl) (fun _ _ _ h => h) (Or.inl ⟨by rfl, ?hk16⟩) trivial ?rk16
      case hk16 => (intro wz hSw; (try dsimp only at hSw); go_simp; try with_reducible rfl)
      (try simp only [Act.put]); (try simp only [List.setIfInBounds_toArray]); (try simp only [List.set_cons_succ]); (try simp only [List.set_cons_zero])
      refine wpAnyH_take (i := 13) (oi := { dst := some 41, op := Op.fieldAddr 30 (Operand.tmp 40) 2, type := 0, pos := "net.go:81", after := #[{ on := 12, ground := Ground.data }, { on := 0, ground := Ground.phase }, { on := 1, ground := Ground.phase }, { on := 2, ground := Ground.phase }, { on := 3, ground := Ground.phase }, { on := 4, ground := Ground.phase }, { on := 5, ground := Ground.phase }, { on := 6, ground := Ground.phase }, { on := 7, ground := Ground.phase }, { on := 8, ground := Ground.phase }, { on := 9, ground := Ground.phase }, { on := 10, ground := Ground.phase }, { on := 11, ground := Ground.phase }], guard := none }) (v := ?vk17) rfl (by kernel_rfl) (by kernel_rfl) (by kernel_rfl) (fun _ _ _ h => h) (Or.inl ⟨by rfl, ?hk17⟩) trivial ?rk17
      case hk17 => (intro wz hSw; (try dsimp only at hSw); go_simp; try with_reducible rfl)
      (try simp only [Act.put]); (try simp only [List.setIfInBounds_toArray]); (try simp only [List.set_cons_succ]); (try simp only [List.set_cons_zero])
      refine wpAnyH_ready (rs := [14]) (by kernel_rfl) (by simp) ?_
      refine AllReadyH.cons (o := { dst := none, op := Op.store 26 (Operand.tmp 41) (Operand.tmp 39), type := 0, pos := "net.go:81", after := #[{ on := 13, ground := Ground.data }, { on := 11, ground := Ground.data }, { on := 0, ground := Ground.phase }, { on := 1, ground := Ground.phase }, { on := 2, ground := Ground.phase }, { on := 3, ground := Ground.phase }, { on := 4, ground := Ground.phase }, { on := 5, ground := Ground.phase }, { on := 6, ground := Ground.phase }, { on := 7, ground := Ground.phase }, { on := 8, ground := Ground.phase }, { on := 9, ground := Ground.phase }, { on := 10, ground := Ground.phase }, { on := 11, ground := Ground.phase }], guard := none }) rfl (fun K hK => ?_) AllReadyH.nil
      · skip
        refine stepStoreB ?_ (.tmp 41) (.tmp 39) ?_ g (i * 3 + 2) xa m xc _ ?_ ?_ (Old.keep ((Old.refl w).drew) HY.out) (HFo.out _ ((Old.refl w).drew)) ?_
        · rfl
        · rfl
        · rfl
        · rfl
        have R5 := hid (HRs.out _ (HSet.out _ ((Old.refl w).drew)) ((Chg.ofOld ((Old.refl w).drew)).trans (Chg.set (S := [g]) _ ⟨g, i * 3 + 2, none⟩ _ (by simp))))
        refine hK.out _ _ trivial (fun _ => ?_)
        clear hK K
        (try simp only [Act.put]); (try simp only [List.setIfInBounds_toArray]); (try simp only [List.set_cons_succ]); (try simp only [List.set_cons_zero])
        refine wpAnyH_done (by kernel_rfl) ?_ _
        refine NoPanic.normal ?_
        go_wp2
        go_ret
        exact ⟨rfl, R5.out⟩
end Go.Proofs.Ytejeihbcakojeaa
