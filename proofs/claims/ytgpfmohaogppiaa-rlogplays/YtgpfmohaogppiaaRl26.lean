/- The document's ConfAt of layer 16 at every log; conditions: it lies in memory. -/
import Derived.Test.YtgpfmohaogppiaaRl25
namespace Go.Proofs.Ytgpfmohaogppiaa
open Go.RowKit Go.Lib
set_option linter.unusedVariables false
set_option linter.unusedSimpArgs false
set_option maxRecDepth 20000
abbrev B5S (b : Nat) (x y z u v : Value) : World → Prop := fun w => w.cell? ⟨b, 0, none⟩ = some x ∧ w.cell? ⟨b, 1, none⟩ = some y ∧ w.cell? ⟨b, 2, none⟩ = some z ∧ w.cell? ⟨b, 3, none⟩ = some u ∧ w.cell? ⟨b, 4, none⟩ = some v
theorem B5S.old {b : Nat} {x y z u v : Value} {w w' : World} (o : Old w w') (h : B5S b x y z u v w) : B5S b x y z u v w' := ⟨o.keep h.1, o.keep h.2.1, o.keep h.2.2.1, o.keep h.2.2.2.1, o.keep h.2.2.2.2⟩
theorem blk2_set {w : World} {b : Nat} {x y p q : Value} {T : TypeId} (h : w.heap[b]? = some (.cells #[x, y] T (0, 0))) : (w.setCells b 0 [p, q]).heap[b]? = some (.cells #[p, q] T (0, 0)) := Go.Joins.block_setCell (Go.Joins.block_setCell h p (i := 0)) q (i := 1)
theorem box2_set {w : World} {b : Nat} {x y p q : Value} {T : TypeId} (h : w.heap[b]? = some (.cells #[x, y] T (0, 0))) : ((w.setCell ⟨b, 0, none⟩ p).setCell ⟨b, 1, none⟩ q).heap[b]? = some (.cells #[p, q] T (0, 0)) := Go.Joins.block_setCell (Go.Joins.block_setCell h p (i := 0)) q (i := 1)
theorem box2f {w : World} {b : Nat} {x y : Value} {T : TypeId} (h : w.heap[b]? = some (.cells #[x, y] T (0, 0))) : w.cell? ⟨b, 0, none⟩ = some x ∧ w.cell? ⟨b, 1, none⟩ = some y ∧ w.frozen? ⟨b, 0, none⟩ = false ∧ w.frozen? ⟨b, 1, none⟩ = false :=
  ⟨by rw [Go.Joins.cell_of_block h]; rfl, by rw [Go.Joins.cell_of_block h]; rfl, Go.Joins.unfrozen_of_block h 0, Go.Joins.unfrozen_of_block h 1⟩
/-- Rows of numbers do not lie where heads of rows lie. -/
theorem NRowL.set2 {w : World} {v : Value} {n : Nat} {f : Nat → Int} (h : NRowL w v n f) {b : Nat} {p1 p2 : Option Addr} {m1 m2 z1 z2 : Nat} {T : TypeId} (hb : w.heap[b]? = some (.cells #[.slice p1 m1 z1, .slice p2 m2 z2] T (0, 0))) (u1 u2 : Value) : NRowL ((w.setCell ⟨b, 0, none⟩ u1).setCell ⟨b, 1, none⟩ u2) v n f := by
  obtain ⟨hn, p, c, e, h1, h2, hc⟩ := h
  refine ⟨hn, p, c, e, h1, h2, fun i hi => ?_⟩
  obtain ⟨g, off, e2, q⟩ := hc i hi
  have hg : g ≠ b := by
    rintro rfl
    rw [Go.Joins.cell_of_block hb] at q
    obtain ⟨j, hj⟩ : ∃ j, off + i = j := ⟨_, rfl⟩
    rw [hj] at q
    rcases j with _ | _ | j <;> simp at q
  refine ⟨g, off, e2, ?_⟩
  rw [World.cell?_setCell_other _ _ _ _ (by simp [hg]), World.cell?_setCell_other _ _ _ _ (by simp [hg])]
  exact q
theorem NRowL.chg {S : List Nat} {w w' : World} {v : Value} {n : Nat} {f : Nat → Int} (h : NRowL w v n f) (u : Chg S w w') (hn : ∀ g, v.ownBlock = some g → g ∉ S) : NRowL w' v n f := by
  obtain ⟨a1, p, c, rfl, h1, h2, hc⟩ := h
  refine ⟨a1, p, c, rfl, h1, h2, fun i hi => ?_⟩
  obtain ⟨g, off, rfl, q⟩ := hc i hi
  exact ⟨g, off, rfl, u.cell q (hn g rfl)⟩
/-- Which configuration holds at an index, of the first so many entries. -/
def upB (a : Int) (x : En) : Bool := decide (x.i ≤ a)
def cfK (P : PL) (a : Int) (k : Nat) : Cf := lastCf (P.ix, P.a, P.b) (cfs ((P.es.take k).filter (upB a)))
theorem cfK_end {P : PL} (k : PLok P) (a : Int) : cfK P a P.es.length = cfA P a := by
  unfold cfK cfA
  rw [List.take_length]
  have hn : cN P a ≤ P.es.length := by unfold cN; omega
  obtain ⟨q1, q2⟩ := fol_take k (cN P a) hn
  congr 2
  conv => lhs; rw [← List.take_append_drop (cN P a) P.es]
  have e1 : (P.es.take (cN P a)).filter (upB a) = P.es.take (cN P a) := List.filter_eq_self.2 (fun x hx => by
    have := q1 x hx
    have h0 : 0 < cN P a := by
      rcases Nat.eq_zero_or_pos (cN P a) with h | h
      · rw [h] at hx; cases hx
      · exact h
    unfold cN at this h0
    unfold upB
    simp
    omega)
  have e2 : (P.es.drop (cN P a)).filter (upB a) = [] := List.filter_eq_nil_iff.2 (fun x hx => by
    have := q2 x hx
    unfold cN at this
    unfold upB
    simp
    omega)
  rw [List.filter_append, e1, e2, List.append_nil]
theorem cfK_no {P : PL} {a : Int} {k : Nat} (h : k < P.es.length) (hn : upB a (atE P.es k) = false ∨ (atE P.es k).k ≠ 2) : cfK P a (k + 1) = cfK P a k := by
  unfold cfK
  rw [take_at h, List.filter_append, cfs_app, lastCf_app]
  rcases hn with q | q
  · simp [q, cfs, lastCf]
  · have : cfs ([atE P.es k].filter (upB a)) = [] := by
      by_cases e : upB a (atE P.es k) = true
      · simp [e, cfs, cfOf, q]
      · simp [e, cfs]
    rw [this]; rfl
theorem cfK_yes {P : PL} {a : Int} {k : Nat} (h : k < P.es.length) (h1 : upB a (atE P.es k) = true) (h2 : (atE P.es k).k = 2) {x y : List Int} (h3 : ldConf (atE P.es k).d = some (x, y)) : cfK P a (k + 1) = ((atE P.es k).i, x, y) := by
  unfold cfK
  rw [take_at h, List.filter_append, cfs_app, lastCf_app]
  have : cfs ([atE P.es k].filter (upB a)) = [((atE P.es k).i, x, y)] := by simp [h1, cfs, cfOf, h2, h3]
  rw [this]
  rfl
def CfPost (C : Cf) (P : PL) (D : Dg) (w : World) (e : Ending) (w' : World) : Prop := ∃ t1 t2 z1 z2, e = .returned (.tuple #[.agg #[.slice t1 C.2.1.length z1, .slice t2 C.2.2.length z2], .int .i64 C.1]) ∧ NRowL w' (.slice t1 C.2.1.length z1) C.2.1.length (gI C.2.1) ∧ NRowL w' (.slice t2 C.2.2.length z2) C.2.2.length (gI C.2.2) ∧ Fr w C.2.1 P.a t1 D.p1 z1 D.c1 ∧ Fr w C.2.2 P.b t2 D.p2 z2 D.c2 ∧ Old w w'
set_option maxHeartbeats 8000000 in
set_option maxRecDepth 20000 in
theorem rConfAt_any (P : PL) (D : Dg) (a : Int) (w : World) (h : DocP P D w) :
    Calls Try.prog 41 #[DV P D, .int .i64 a] w fun e w' => CfPost (cfA P a) P D w e w' := by
  have hf := h.few
  have HA := hid (fun j hj => (h.at j hj))
  have HRw := hid h.e.2.2
  have HLn := hid h.len
  have HPE := hid (fun j (hj : j < D.X.length) => show (atE P.es j).i = (atE D.X j).i ∧ (atE P.es j).k = (atE D.X j).k ∧ (atE P.es j).d = (atE D.X j).d from by rw [← h.x, atE_pls _ _ hj]; exact ⟨rfl, rfl, rfl⟩)
  have HRt := hid (fun j (hj : j < P.es.length) => (Fol.mem _ _ _ h.ok.fol (atE P.es j) (atE_mem _ _ hj)).1)
  have HEnd := hid (cfK_end h.ok a)
  have HNa := hid h.a
  have HNb := hid h.b
  rw [← HEnd.out]
  have HC0 := hid (show cfK P a 0 = (P.ix, P.a, P.b) from rfl)
  have HQ := hid (fun (e : Ending) (w' : World) (q : CfPost (cfK P a P.es.length) P D w e w') => q)
  unfold DV Dg.v1 Dg.v2 Dg.ve
  unfold Dg.v1 at HNa
  unfold Dg.v2 at HNb
  unfold CfPost at HQ ⊢
  obtain ⟨q1, c1, q2, c2, q, c, X⟩ := D
  dsimp only at hf HA HRw HLn HPE HNa HNb HQ ⊢
  obtain ⟨n1, hn1⟩ : ∃ n1, P.a.length = n1 := ⟨_, rfl⟩
  obtain ⟨n2, hn2⟩ : ∃ n2, P.b.length = n2 := ⟨_, rfl⟩
  obtain ⟨n, hn⟩ : ∃ n, X.length = n := ⟨_, rfl⟩
  have HN := hid (And.intro hn1 (And.intro hn2 hn))
  rw [hn1] at HNa ⊢
  rw [hn2] at HNb ⊢
  rw [hn] at hf HA HLn HPE ⊢
  clear hn1 hn2 hn h
  obtain ⟨hf1, hf2, hf3⟩ := hf
  have hnn : (n : Int) ≤ 1099511627776 := by omega
  obtain ⟨pix, hpx⟩ : ∃ pix, P.ix = pix := ⟨_, rfl⟩
  rw [hpx] at HC0 ⊢
  clear hpx
  generalize P.tm = ptm at *
  go_enter Try.func41, Try.ntmps41
  go_upto_region 1 with (fail)
  have U0 := hid (((Old.refl w).alloc (.cells #[.int .i64 pix, .int .i64 ptm, .slice q1 n1 c1, .slice q2 n2 c2, .slice q n c] 54)).alloc (.cells #[.slice none 0 0, .slice none 0 0] 24))
  have B2 := hid (((Old.refl _).alloc (.cells #[.slice none 0 0, .slice none 0 0] 24)).block (alloc_at w (.cells #[.int .i64 pix, .int .i64 ptm, .slice q1 n1 c1, .slice q2 n2 c2, .slice q n c] 54)))
  have B4 := hid (show ((w.alloc (.cells #[.int .i64 pix, .int .i64 ptm, .slice q1 n1 c1, .slice q2 n2 c2, .slice q n c] 54)).alloc (.cells #[.slice none 0 0, .slice none 0 0] 24)).heap[w.heap.size + 1]? = some (.cells #[.slice none 0 0, .slice none 0 0] 24) from by have := alloc_at (w.alloc (.cells #[.int .i64 pix, .int .i64 ptm, .slice q1 n1 c1, .slice q2 n2 c2, .slice q n c] 54)) (.cells #[.slice none 0 0, .slice none 0 0] 24); simpa using this)
  have S0 := hid (show ((w.alloc (.cells #[.int .i64 pix, .int .i64 ptm, .slice q1 n1 c1, .slice q2 n2 c2, .slice q n c] 54)).alloc (.cells #[.slice none 0 0, .slice none 0 0] 24)).heap.size = w.heap.size + 2 from by simp)
  generalize (w.alloc (.cells #[.int .i64 pix, .int .i64 ptm, .slice q1 n1 c1, .slice q2 n2 c2, .slice q n c] 54)).alloc (.cells #[.slice none 0 0, .slice none 0 0] 24) = w0 at *
  obtain ⟨bx, hbx⟩ : ∃ bx, w.heap.size = bx := ⟨_, rfl⟩
  have HBX := hid hbx
  rw [hbx] at B2 B4 S0 ⊢
  clear hbx
  have HX1 := hid (show B5S bx (.int .i64 pix) (.int .i64 ptm) (.slice q1 n1 c1) (.slice q2 n2 c2) (.slice q n c) w0 from (box5 B2.out).1)
  refine wp_region_noPanic ?_
  refine wp_region_held_drew (S := B5S bx (.int .i64 pix) (.int .i64 ptm) (.slice q1 n1 c1) (.slice q2 n2 c2) (.slice q n c)) (by kernel_rfl) ?_ (fun hHeld => ?_)
  · exact B5S.old ((Old.refl w0).drew) HX1.out
  (try simp only [Act.put]); (try simp only [List.setIfInBounds_toArray]); (try simp only [List.set_cons_succ]); (try simp only [List.set_cons_zero])
  clear hHeld
  refine wpAnyH_take (i := 0) (oi := { dst := some 12, op := Op.fieldAddr 54 (Operand.tmp 2) 2, type := 0, pos := "ref.go:121", after := #[], guard := none }) (v := ?vk1) rfl (by kernel_rfl) (by kernel_rfl) (by kernel_rfl) (fun _ _ _ h => h) (Or.inl ⟨by rfl, ?hk1⟩) (B5S.old ((Old.refl w0).drew) HX1.out) ?rk1
  case hk1 => (intro wz hSw; (try dsimp only at hSw); go_simp; try with_reducible rfl)
  (try simp only [Act.put]); (try simp only [List.setIfInBounds_toArray]); (try simp only [List.set_cons_succ]); (try simp only [List.set_cons_zero])
  refine wpAnyH_take (i := 1) (oi := { dst := some 13, op := Op.load 24 (Operand.tmp 12), type := 24, pos := "ref.go:121", after := #[{ on := 0, ground := Ground.data }], guard := none }) (v := ?vk2) rfl (by kernel_rfl) (by kernel_rfl) (by kernel_rfl) (fun _ _ _ h => h) (Or.inl ⟨by rfl, ?hk2⟩) (B5S.old ((Old.refl w0).drew) HX1.out) ?rk2
  case hk2 => (intro wz hSw; (try dsimp only at hSw); go_simp; try with_reducible rfl)
  (try simp only [Act.put]); (try simp only [List.setIfInBounds_toArray]); (try simp only [List.set_cons_succ]); (try simp only [List.set_cons_zero])
  refine wpAnyH_take (i := 2) (oi := { dst := some 14, op := Op.fieldAddr 54 (Operand.tmp 2) 0, type := 0, pos := "ref.go:121", after := #[{ on := 5, ground := Ground.gcOnly Departure.lateStores }], guard := none }) (v := ?vk3) rfl (by kernel_rfl) (by kernel_rfl) (by kernel_rfl) (fun _ _ _ h => h) (Or.inl ⟨by rfl, ?hk3⟩) (B5S.old ((Old.refl w0).drew) HX1.out) ?rk3
  case hk3 => (intro wz hSw; (try dsimp only at hSw); go_simp; try with_reducible rfl)
  (try simp only [Act.put]); (try simp only [List.setIfInBounds_toArray]); (try simp only [List.set_cons_succ]); (try simp only [List.set_cons_zero])
  refine wpAnyH_take (i := 3) (oi := { dst := some 15, op := Op.load 2 (Operand.tmp 14), type := 2, pos := "ref.go:121", after := #[{ on := 2, ground := Ground.data }, { on := 5, ground := Ground.gcOnly Departure.lateStores }], guard := none }) (v := ?vk4) rfl (by kernel_rfl) (by kernel_rfl) (by kernel_rfl) (fun _ _ _ h => h) (Or.inl ⟨by rfl, ?hk4⟩) (B5S.old ((Old.refl w0).drew) HX1.out) ?rk4
  case hk4 => (intro wz hSw; (try dsimp only at hSw); go_simp; try with_reducible rfl)
  (try simp only [Act.put]); (try simp only [List.setIfInBounds_toArray]); (try simp only [List.set_cons_succ]); (try simp only [List.set_cons_zero])
  refine wpAnyH_ready (rs := [4]) (by kernel_rfl) (by simp) ?_
  refine AllReadyH.cons (o := { dst := some 6, op := Op.alloc 24, type := 0, pos := "ref.go:121", after := #[], guard := none }) rfl (fun K hK => ?_) AllReadyH.nil
  · skip
    refine stepAllocC ?_ ?_ ?_
    · rfl
    · rfl
    intro m5 y5 hm5 hy5
    have b5 := old_alloc hy5
    have tt5 : T2 m5 y5 := by rw [hy5, hm5]; exact T2.new _
    have hb5 : y5.heap[m5]? = some (.cells #[.slice none 0 0, .slice none 0 0] 24) := by rw [hy5, hm5]; exact alloc_at _ _
    have Zm5 : w0.heap.size ≤ m5 := by rw [hm5]; exact ((Old.refl w0).drew).size
    have U5 := ((Old.refl w0).drew).trans b5
    clear hm5 hy5
    refine hK.out _ _ (B5S.old U5 HX1.out) (fun _ => ?_)
    clear hK K
    (try simp only [Act.put]); (try simp only [List.setIfInBounds_toArray]); (try simp only [List.set_cons_succ]); (try simp only [List.set_cons_zero])
    refine wpAnyH_ready (rs := [5]) (by kernel_rfl) (by simp) ?_
    refine AllReadyH.cons (o := { dst := none, op := Op.store 24 (Operand.tmp 6) (Operand.tmp 13), type := 0, pos := "ref.go:121", after := #[{ on := 4, ground := Ground.data }, { on := 1, ground := Ground.data }, { on := 0, ground := Ground.phase }, { on := 1, ground := Ground.phase }, { on := 2, ground := Ground.textOnly Departure.lateStores }, { on := 3, ground := Ground.textOnly Departure.lateStores }, { on := 4, ground := Ground.phase }], guard := none }) rfl (fun K hK => ?_) AllReadyH.nil
    · skip
      refine stepStoreC ?_ (.tmp 6) (.tmp 13) ?_ m5 (.slice q1 n1 c1) (.slice q2 n2 c2) ?_ ?_ tt5.there rfl rfl ?_
      · rfl
      · rfl
      · rfl
      · rfl
      have U6 := Old.setCells Zm5 [.slice q1 n1 c1, .slice q2 n2 c2] 0 U5
      have X6 := blk2_set (p := (.slice q1 n1 c1)) (q := (.slice q2 n2 c2)) hb5
      have Q6 := hid Zm5
      refine hK.out _ _ (B5S.old U6 HX1.out) (fun _ => ?_)
      clear hK K
      (try simp only [Act.put]); (try simp only [List.setIfInBounds_toArray]); (try simp only [List.set_cons_succ]); (try simp only [List.set_cons_zero])
      refine wpAnyH_ready (rs := [6]) (by kernel_rfl) (by simp) ?_
      refine AllReadyH.cons (o := { dst := some 7, op := Op.assign (Operand.tmp 15), type := 2, pos := "ref.go:121", after := #[{ on := 3, ground := Ground.data }, { on := 5, ground := Ground.chain }, { on := 0, ground := Ground.phase }, { on := 1, ground := Ground.phase }, { on := 2, ground := Ground.phase }, { on := 3, ground := Ground.phase }, { on := 4, ground := Ground.phase }, { on := 5, ground := Ground.phase }], guard := none }) rfl (fun K hK => ?_) AllReadyH.nil
      · skip
        go_simp
        refine hK.out _ _ (B5S.old U6 HX1.out) (fun _ => ?_)
        clear hK K
        (try simp only [Act.put]); (try simp only [List.setIfInBounds_toArray]); (try simp only [List.set_cons_succ]); (try simp only [List.set_cons_zero])
        refine wpAnyH_done (by kernel_rfl) ?_ _
        refine NoPanic.normal ?_
        have UY := hid U6
        have XY := hid X6
        have QY := Q6
        generalize hwy : World.setCells _ m5 0 _ = w1 at *
        clear hwy
        generalize m5 = nb at *
        simp only [Exit.then]
        clear HX1
        go_wp2
        go_loopw [7, 8] (fun s i wx => ∃ (k : Nat) (C : Cf) (t1 t2 : Option Addr) (z1 z2 m1 m2 : Nat), k ≤ n ∧ i = .int .i64 (k : Nat) ∧ s = .int .i64 C.1 ∧ Hid (Old w0 wx ∧ wx.heap[nb]? = some (.cells #[.slice t1 m1 z1, .slice t2 m2 z2] 24 (0, 0)) ∧ C = cfK P a k ∧ m1 = C.2.1.length ∧ m2 = C.2.2.length ∧ NRowL wx (.slice t1 m1 z1) m1 (gI C.2.1) ∧ NRowL wx (.slice t2 m2 z2) m2 (gI C.2.2) ∧ Fr w C.2.1 P.a t1 q1 z1 c1 ∧ Fr w C.2.2 P.b t2 q2 z2 c2)) (fun _ i _ => n - (intOf i).toNat)
        case atStart => exact ⟨0, (pix, P.a, P.b), q1, q2, c1, c2, n1, n2, Nat.zero_le _, rfl, rfl, hid ⟨UY.out, XY.out, HC0.out.symm, HN.out.1.symm, HN.out.2.1.symm, HNa.out.old (U0.out.trans UY.out), HNb.out.old (U0.out.trans UY.out), .inl ⟨rfl, rfl, rfl⟩, .inl ⟨rfl, rfl, rfl⟩⟩⟩
        case round =>
          obtain ⟨k, C, t1, t2, z1, z2, m1, m2, hk, rfl, rfl, HI⟩ := hrel
          clear UY XY
          have y4 : wr.cell? ⟨bx, 4, none⟩ = some (.slice q n c) := by rw [Go.Joins.cell_of_block (HI.out.1.block B2.out)]; rfl
          by_cases hlt : k < n
          · have hkP : k < P.es.length := by rw [← HLn.out]; exact hlt
            have hkX : k < X.length := by rw [HN.out.2.2]; exact hlt
            obtain ⟨g, off, rfl, x4⟩ := HA.out k hlt
            obtain ⟨x0, x1, x2, x3⟩ := x4.old (U0.out.trans HI.out.1)
            have HNo := hid (cfK_no (a := a) hkP)
            have HYs := hid (fun (h1 : upB a (atE P.es k) = true) (h2 : (atE P.es k).k = 2) (x y : List Int) (h3 : ldConf (atE P.es k).d = some (x, y)) => cfK_yes hkP h1 h2 h3)
            have HRk := hid (HRt.out k hkP)
            have HRd := hid (HRw.out _ (atE_mem X k hkX))
            have l1 : (0 : Int) ≤ (k : Int) := by omega
            have l2 : (k : Int) < (n : Int) := by omega
            obtain ⟨p1, p2, p3⟩ := HPE.out k hlt
            unfold upB at HNo HYs
            rw [p1, p2] at HNo
            rw [p1, p2, p3] at HYs
            rw [p1, p2, p3] at HRk
            clear x4 p1 p2 p3
            generalize atE X k = E at *
            obtain ⟨ei, et, ek, ep, ec, ed⟩ := E
            dsimp only [En.e] at x0 x1 x2 x3
            dsimp only at HNo HYs HRk
            dsimp only [En.s] at HRd
            have HRr := hid (rightE_parts HRk.out)
            have HLd := hid (fun (W : World) (u : Old w W) => rLoad_any ed W _ (HRd.out.old u) (by have := HRr.out.2.2.2.2.1; omega))
            obtain ⟨edl, hed⟩ : ∃ edl, ed.length = edl := ⟨_, rfl⟩
            rw [hed] at x3 HLd
            clear hed HRk
            by_cases h1 : ek = 2
            · subst h1
              by_cases h2 : ei ≤ a
              · have d1 : decide (ei ≤ a) = true := decide_eq_true h2
                go_upto_region 7 with (fail)
                have U6 := hid ((Old.refl wr).alloc (.cells #[.int .i64 ei, .int .i64 et, .int .i64 2, .slice ep edl ec] 41))
                have B6 := hid (alloc_at wr (.cells #[.int .i64 ei, .int .i64 et, .int .i64 2, .slice ep edl ec] 41))
                generalize wr.alloc (.cells #[.int .i64 ei, .int .i64 et, .int .i64 2, .slice ep edl ec] 41) = w6 at *
                obtain ⟨eb, hEb⟩ : ∃ eb, wr.heap.size = eb := ⟨_, rfl⟩
                have HEB := hid hEb
                rw [hEb] at B6 ⊢
                clear hEb x0 x1 x2 x3 y4
                obtain ⟨x0, x1, x2, x3, -⟩ := box4 B6.out
                have UW6 := hid (U0.out.trans (HI.out.1.trans U6.out))
                go_upto_region 8 with (go_at_call 52; refine (HLd.out _ UW6.out).mono ?_; rintro e w7 ⟨o7, hq⟩; rcases hq with ⟨la, lb, s1, s2, y1, y2, hl, rfl, r1, r2, g1, g2⟩ | ⟨hl, -⟩; have O7 := hid o7; have R1 := hid r1; have R2 := hid r2; have G1 := hid g1; have G2 := hid g2; have HLl := hid hl; clear o7 r1 r2 g1 g2 hl; rotate_left; exact absurd (HRr.out.2.2.2.2.2) (by rw [hl]; rintro (q | q | q); (cases q); (cases q); (exact absurd q.2 (by decide))))
                have HYk := hid (HYs.out d1 (by trivial) la lb HLl.out)
                obtain ⟨l1', hl1⟩ : ∃ l1', la.length = l1' := ⟨_, rfl⟩
                obtain ⟨l2', hl2⟩ : ∃ l2', lb.length = l2' := ⟨_, rfl⟩
                have HLL := hid (And.intro hl1 hl2)
                rw [hl1] at R1 G1 ⊢
                rw [hl2] at R2 G2 ⊢
                clear hl1 hl2 HYs HNo HLd x0 x1 x2 x3
                have B7 := hid (O7.out.block B6.out)
                have N7 := hid ((U6.out.trans O7.out).block HI.out.2.1)
                have A8 := hid ((Old.refl w7).alloc (.cells #[.slice s1 l1' y1, .slice s2 l2' y2] 24))
                have B8 := hid (alloc_at w7 (.cells #[.slice s1 l1' y1, .slice s2 l2' y2] 24))
                generalize w7.alloc (.cells #[.slice s1 l1' y1, .slice s2 l2' y2] 24) = w8 at *
                have N8 := hid (A8.out.block N7.out)
                have E8 := hid (A8.out.block B7.out)
                have U8 := hid (HI.out.1.trans (U6.out.trans (O7.out.trans A8.out)))
                obtain ⟨x0, x1, x2, x3, -⟩ := box4 E8.out
                obtain ⟨s0', s1'⟩ := box2 B8.out
                obtain ⟨k0, k1, k2, k3⟩ := box2f N8.out
                have M8 := hid (box2_set (p := .slice s1 l1' y1) (q := .slice s2 l2' y2) N8.out)
                have R1' := hid ((R1.out.old A8.out).set2 N8.out (.slice s1 l1' y1) (.slice s2 l2' y2))
                have R2' := hid ((R2.out.old A8.out).set2 N8.out (.slice s1 l1' y1) (.slice s2 l2' y2))
                have U9 := hid ((U8.out.setCell (p := ⟨nb, 0, none⟩) QY.out (.slice s1 l1' y1)).setCell (p := ⟨nb, 1, none⟩) QY.out (.slice s2 l2' y2))
                have HF1 := hid (show Fr w la P.a s1 q1 y1 c1 from .inr (fun n g e => Nat.le_trans (UW6.out.size) (G1.out g (by cases s1 <;> exact e))))
                have HF2 := hid (show Fr w lb P.b s2 q2 y2 c2 from .inr (fun n g e => Nat.le_trans (UW6.out.size) (G2.out g (by cases s2 <;> exact e))))
                generalize hB8 : w7.heap.size = b8 at *
                have hne : nb ≠ b8 := by have h1 := heap_lt N7.out; omega
                have hne2 : nb ≠ eb := by have h1 := heap_lt HI.out.2.1; have := HEB.out; omega
                clear hB8
                have y4' : w8.cell? ⟨bx, 4, none⟩ = some (.slice (some ⟨g, off, none⟩) n c) := by rw [Go.Joins.cell_of_block (U8.out.block B2.out)]; rfl
                go_wp2
                exact ⟨⟨k + 1, (ei, la, lb), s1, s2, y1, y2, l1', l2', hlt, by go_num, rfl, hid ⟨U9.out, M8.out, HYk.out.symm, HLL.out.1.symm, HLL.out.2.symm, R1'.out, R2'.out, HF1.out, HF2.out⟩⟩, by simp [intOf]; omega⟩
              · have d1 : decide (ei ≤ a) = false := decide_eq_false h2
                have HC := hid (HNo.out (.inl d1))
                go_wp2
                exact ⟨⟨k + 1, C, t1, t2, z1, z2, m1, m2, hlt, by go_num, rfl, hid ⟨HI.out.1.alloc _, ((Old.refl wr).alloc _).block HI.out.2.1, by rw [HC.out]; exact HI.out.2.2.1, HI.out.2.2.2.1, HI.out.2.2.2.2.1, HI.out.2.2.2.2.2.1.old ((Old.refl wr).alloc _), HI.out.2.2.2.2.2.2.1.old ((Old.refl wr).alloc _), HI.out.2.2.2.2.2.2.2⟩⟩, by simp [intOf]; omega⟩
            · have d1 : (ek == 2) = false := by simp [h1]
              have HC := hid (HNo.out (.inr h1))
              go_wp2
              exact ⟨⟨k + 1, C, t1, t2, z1, z2, m1, m2, hlt, by go_num, rfl, hid ⟨HI.out.1.alloc _, ((Old.refl wr).alloc _).block HI.out.2.1, by rw [HC.out]; exact HI.out.2.2.1, HI.out.2.2.2.1, HI.out.2.2.2.2.1, HI.out.2.2.2.2.2.1.old ((Old.refl wr).alloc _), HI.out.2.2.2.2.2.2.1.old ((Old.refl wr).alloc _), HI.out.2.2.2.2.2.2.2⟩⟩, by simp [intOf]; omega⟩
          · obtain rfl : n = k := by omega
            have HCn := hid (show C = cfK P a P.es.length from by rw [HI.out.2.2.1, HLn.out])
            have D4 := hid (HI.out.1.block B4.out)
            obtain ⟨b0, b1, e0, e1⟩ := box2f D4.out
            have NB := hid HI.out.2.1
            obtain ⟨s0, s1⟩ := box2 NB.out
            have hne : nb ≠ bx + 1 := by have := QY.out; have := S0.out; omega
            have B9 := hid (box2_set (p := .slice t1 m1 z1) (q := .slice t2 m2 z2) D4.out)
            have R1 := hid (HI.out.2.2.2.2.2.1.set2 D4.out (.slice t1 m1 z1) (.slice t2 m2 z2))
            have R2 := hid (HI.out.2.2.2.2.2.2.1.set2 D4.out (.slice t1 m1 z1) (.slice t2 m2 z2))
            have U9 := hid (((U0.out.trans HI.out.1).setCell (p := ⟨bx + 1, 0, none⟩) (by have := HBX.out; show w.heap.size ≤ bx + 1; omega) (.slice t1 m1 z1)).setCell (p := ⟨bx + 1, 1, none⟩) (by have := HBX.out; show w.heap.size ≤ bx + 1; omega) (.slice t2 m2 z2))
            go_wp2
            obtain ⟨g0, g1⟩ := box2 B9.out
            refine bodyPost_ret (v := .tuple #[.agg #[.slice t1 m1 z1, .slice t2 m2 z2], .int .i64 C.1]) (by simp [results, Try.results41, go_sem, g0, g1]) rfl ?_
            have e1 := HI.out.2.2.2.1
            have e2 := HI.out.2.2.2.2.1
            rw [← HCn.out]
            exact ⟨t1, t2, z1, z2, by rw [← e1, ← e2], by rw [← e1]; exact R1.out, by rw [← e2]; exact R2.out, HI.out.2.2.2.2.2.2.2.1, HI.out.2.2.2.2.2.2.2.2, U9.out⟩
end Go.Proofs.Ytgpfmohaogppiaa
