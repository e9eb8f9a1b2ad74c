/- rlog's Entries at every log; conditions: it lies in memory. -/
import Derived.Test.YtgpfmohaogppiaaRl10
import Derived.Test.YtgpfmohaogppiaaL8
namespace Go.Proofs.Ytgpfmohaogppiaa
open Go.RowKit Go.Lib
set_option linter.unusedVariables false
set_option linter.unusedSimpArgs false
set_option maxRecDepth 20000
theorem mkE (n : Nat) (hn : n ≤ 1099511627776) (W : World) : (Instr.makeSlice 29 (.int .i64 (n : Nat)) (.int .i64 (n : Nat))).run Try.prog W = .ok (.slice (some ⟨W.heap.size, 0, none⟩) n n) (W.alloc (.cells (madeCells #[.int .i64 0, .int .i64 0, .int .i64 0, .slice none 0 0] (n * 4)) 41)) := by
  obtain ⟨i0, hi, hz0, hz1, hz2⟩ := info_parts infoEnt
  have q := run_make (P := Try.prog) W 29 41 i0 _ Try.underlying29 hi hz0 .i64 .i64 n n (by omega) (Int.le_refl _) (by rw [hz2]; omega) (by omega)
  rw [hz1] at q
  simpa [Value.cells] using q
theorem set4_take (L A : List Value) (k : Nat) (a b c d : Value) (hA : L.take k = A) (hk : k + 4 ≤ L.length) : ((((L.set k a).set (k + 1) b).set (k + 2) c).set (k + 3) d).take (k + 4) = A ++ [a, b, c, d] := by
  subst hA
  apply List.ext_getElem?
  intro i
  have hl : (L.take k).length = k := by rw [List.length_take]; omega
  by_cases h1 : i < k
  · rw [List.getElem?_take_of_lt (by omega), List.getElem?_append_left (by omega), List.getElem?_take_of_lt h1, List.getElem?_set_ne (by omega), List.getElem?_set_ne (by omega), List.getElem?_set_ne (by omega), List.getElem?_set_ne (by omega)]
  · by_cases h2 : i < k + 4
    · rw [List.getElem?_take_of_lt h2, List.getElem?_append_right (by omega), hl]
      obtain ⟨j, rfl⟩ : ∃ j, i = k + j := ⟨i - k, by omega⟩
      rw [Nat.add_sub_cancel_left]
      match j, h2 with
      | 0, _ => rw [List.getElem?_set_ne (by omega), List.getElem?_set_ne (by omega), List.getElem?_set_ne (by omega), Nat.add_zero, List.getElem?_set_self (by omega)]; rfl
      | 1, _ => rw [List.getElem?_set_ne (by omega), List.getElem?_set_ne (by omega), List.getElem?_set_self (by simp; omega)]; rfl
      | 2, _ => rw [List.getElem?_set_ne (by omega), List.getElem?_set_self (by simp; omega)]; rfl
      | 3, _ => rw [List.getElem?_set_self (by simp; omega)]; rfl
      | j + 4, h => omega
    · rw [List.getElem?_take_eq_none (by omega), List.getElem?_eq_none (by simp; omega)]
/-- The row that Entries fills. -/
def EOut (ob m : Nat) (X : List En) (w : World) : Prop := ∃ cur, w.heap[ob]? = some (.cells cur 41 (0, 0)) ∧ cur.size = m * 4 ∧ cur.toList.take (X.length * 4) = ecs (X.map En.e)
theorem EOut.old {ob m : Nat} {X : List En} {w w' : World} (h : EOut ob m X w) (u : Old w w') : EOut ob m X w' := by
  obtain ⟨cur, h1, h2⟩ := h
  exact ⟨cur, u.block h1, h2⟩
theorem EOut.there {ob m : Nat} {X : List En} {w : World} (h : EOut ob m X w) (hl : X.length < m) : ∀ j, j < 4 → ∃ v, w.cell? ⟨ob, X.length * 4 + j, none⟩ = some v ∧ w.frozen? ⟨ob, X.length * 4 + j, none⟩ = false := fun j hj => by
  obtain ⟨cur, h1, h2, _⟩ := h
  have hlt : X.length * 4 + j < cur.size := by omega
  exact ⟨cur[X.length * 4 + j], by rw [Go.Joins.cell_of_block h1, Array.getElem?_eq_getElem hlt], Go.Joins.unfrozen_of_block h1 _⟩
theorem EOut.set {ob m : Nat} {X : List En} {w : World} (h : EOut ob m X w) (hl : X.length < m) (x : En) : EOut ob m (X ++ [x]) ((((w.setCell ⟨ob, X.length * 4, none⟩ (.int .i64 x.i)).setCell ⟨ob, X.length * 4 + 1, none⟩ (.int .i64 x.t)).setCell ⟨ob, X.length * 4 + 2, none⟩ (.int .i64 x.k)).setCell ⟨ob, X.length * 4 + 3, none⟩ x.s) := by
  obtain ⟨cur, h1, h2, h3⟩ := h
  have b1 := Go.Joins.block_setCell h1 (.int .i64 x.i) (i := X.length * 4)
  have b2 := Go.Joins.block_setCell b1 (.int .i64 x.t) (i := X.length * 4 + 1)
  have b3 := Go.Joins.block_setCell b2 (.int .i64 x.k) (i := X.length * 4 + 2)
  have b4 := Go.Joins.block_setCell b3 x.s (i := X.length * 4 + 3)
  refine ⟨_, b4, by simpa using h2, ?_⟩
  rw [Array.toList_setIfInBounds, Array.toList_setIfInBounds, Array.toList_setIfInBounds, Array.toList_setIfInBounds, List.length_append, show (X.length + [x].length) * 4 = X.length * 4 + 4 from by simp; omega, set4_take _ _ _ _ _ _ _ h3 (by have := @Array.length_toList _ cur; omega), List.map_append, ← ecs_app]
  rfl
theorem Old.set4b {a w : World} {b k : Nat} {p q r s : Value} (h : Old a w) (hb : a.heap.size ≤ b) : Old a ((((w.setCell ⟨b, k, none⟩ p).setCell ⟨b, k + 1, none⟩ q).setCell ⟨b, k + 2, none⟩ r).setCell ⟨b, k + 3, none⟩ s) :=
  (((h.setCell (p := ⟨b, k, none⟩) hb _).setCell (p := ⟨b, k + 1, none⟩) hb _).setCell (p := ⟨b, k + 2, none⟩) hb _).setCell (p := ⟨b, k + 3, none⟩) hb _
theorem Chg.set4b {w : World} {b k : Nat} {p q r s : Value} : Chg [b] w ((((w.setCell ⟨b, k, none⟩ p).setCell ⟨b, k + 1, none⟩ q).setCell ⟨b, k + 2, none⟩ r).setCell ⟨b, k + 3, none⟩ s) :=
  (((Chg.set (S := [b]) w ⟨b, k, none⟩ _ (by simp)).trans (Chg.set (S := [b]) _ ⟨b, k + 1, none⟩ _ (by simp))).trans (Chg.set (S := [b]) _ ⟨b, k + 2, none⟩ _ (by simp))).trans (Chg.set (S := [b]) _ ⟨b, k + 3, none⟩ _ (by simp))
theorem EOut.new (w : World) (m : Nat) (w1 : World) (e : w.alloc (.cells (madeCells #[.int .i64 0, .int .i64 0, .int .i64 0, .slice none 0 0] (m * 4)) 41) = w1) (ob : Nat) (hg : w.heap.size = ob) : EOut ob m [] w1 := by
  subst e hg
  exact ⟨_, alloc_at w _, size_madeCells _ _, rfl⟩
/-- Entries that are new: their row, their data. -/
structure ENew (n0 : Nat) (v : Value) (X : List En) (w : World) : Prop where
  o : ∃ ob, v = .slice (some ⟨ob, 0, none⟩) X.length X.length ∧ n0 ≤ ob ∧ EOut ob X.length X w
  d : ∀ x ∈ X, Own w x.s x.d ∧ ∀ g, x.s.ownBlock = some g → n0 ≤ g
def entK (P : PL) (from_ : Int) : Nat := (ahN P.ix P.es.length from_).toNat
def entM (P : PL) (from_ most : Int) : Nat := (max 0 (min most ((P.es.length - entK P from_ : Nat) : Int))).toNat
/-- What Entries tells. -/
def entL (P : PL) (from_ most : Int) : List En := (P.es.drop (entK P from_)).take (entM P from_ most)
theorem atE_pls (A : List En) (i : Nat) (h : i < A.length) : atE (pls A) i = (atE A i).pl := by
  rw [atE_get _ _ (by rw [pls_len]; exact h), atE_get _ _ h]
  simp [pls]
set_option maxHeartbeats 8000000 in
set_option maxRecDepth 20000 in
theorem entries_any (base lb : Nat) (G : Lg) (P : PL) (from_ most : Int) (w : World) (h : LogP base lb G P w) :
    Calls Try.prog 14 #[.pointer (some ⟨lb, 0, none⟩), .int .i64 from_, .int .i64 most] w fun e w' => ∃ v X, e = .returned v ∧ ENew w.heap.size v X w' ∧ pls X = entL P from_ most ∧ Old w w' := by
  have hs := h.m.s h.lg
  have HAh := hid (fun (W : World) (u : Old w W) => ahead_any lb G.ix G.tm G.es.length (entA (G.es.map En.e)) from_ W (hs.old u))
  have hix := h.is.ix
  have hlen := h.is.len.1
  have hfew := h.lg.few.1
  obtain ⟨k, hk⟩ : ∃ k, entK P from_ = k := ⟨_, rfl⟩
  have hi0 := h.ok.i0
  have hk2 : k ≤ G.es.length := by rw [← hk, hlen]; unfold entK ahN; omega
  have hk1 : ahN G.ix G.es.length from_ = (k : Int) := by rw [← hk, hlen, hix]; unfold entK ahN; omega
  rw [hk1] at HAh
  obtain ⟨m, hm⟩ : ∃ m, entM P from_ most = m := ⟨_, rfl⟩
  have hm2 : (m : Int) = max 0 (min most ((G.es.length - k : Nat) : Int)) := by rw [← hm]; unfold entM; rw [hk, hlen]; omega
  have HEL := hid (show entL P from_ most = (pls (G.es.drop k)).take m from by unfold entL; rw [hk, hm, pls_drop, h.is.es])
  generalize entL P from_ most = EL at *
  have HD := hid h.m.de
  have HEl := hid (show ∀ x ∈ G.es, x.d.length ≤ 2048 from fun x hx => (rightE_parts (Fol.mem _ _ _ h.lg.fol x hx).1).2.2.2.2.1)
  obtain ⟨-, -, x2, -⟩ := h.m.cells
  have HCE := hid (show ∀ p c, G.ve = .slice p G.es.length c → ∀ i, i < G.es.length → ∃ g off, p = some ⟨g, off, none⟩ ∧ EntIn w g (off + i * 4) (atE G.es i).e from fun p c e i hi => by
    obtain ⟨-, -, -, p', c', e', -, -, q⟩ := hs.1
    have e2 := x2.symm.trans e'
    rw [e] at e2
    cases e2
    obtain ⟨g, off, e3, e4⟩ := q i hi
    rw [entA_map _ _ hi] at e4
    exact ⟨g, off, e3, e4⟩)
  have hoe := h.m.oe.2
  obtain ⟨N, hN⟩ : ∃ N, G.es.length = N := ⟨_, rfl⟩
  have HN := hid hN
  rw [hN] at hk2 hm2 HCE hoe hfew
  have HM := hid hm2
  have hmk := fun W => mkE m (by omega) W
  have mfew : (m : Int) ≤ 1099511627776 := by omega
  have HKM := hid (show m ≤ N - k from by omega)
  clear h hs hix hlen hi0 hk1 hk hm hN hm2
  rcases hoe with ⟨e1, hz⟩ | ⟨g, off, cap, cur, e1, hb, hg, hnc, hcm, hcs, htk⟩
  · rw [e1] at x2 HCE
    have hk0 : k = 0 := by omega
    subst hk0
    subst hz
    have hm0 : m = 0 := by have := HKM.out; omega
    subst hm0
    clear hmk
    have hmk : ∀ W : World, (Instr.makeSlice 29 (.int .i64 0) (.int .i64 0)).run Try.prog W = .ok (.slice (some ⟨W.heap.size, 0, none⟩) 0 0) (W.alloc (.cells (madeCells #[.int .i64 0, .int .i64 0, .int .i64 0, .slice none 0 0] (0 * 4)) 41)) := fun W => mkE 0 (by omega) W
    have HS := hid x2
    clear x2
    go_enter Try.func14, Try.ntmps14
    go_upto_region 1 with (fail)
    refine wp_region_noPanic ?_
    refine wp_region_held_drew (S := fun wz => wz.cell? ⟨lb, 2, none⟩ = some (.slice none 0 0)) (by kernel_rfl) ?_ (fun hHeld => ?_)
    · exact CcS.old ((Old.refl _).drew) HS.out
    (try simp only [Act.put]); (try simp only [List.setIfInBounds_toArray]); (try simp only [List.set_cons_succ]); (try simp only [List.set_cons_zero])
    clear hHeld
    refine wpAnyH_take (i := 0) (oi := { dst := some 10, op := Op.move (Operand.tmp 0), type := 26, pos := "tell.go:31", after := #[], guard := none }) (v := ?vk1) rfl (by kernel_rfl) (by kernel_rfl) (by kernel_rfl) (fun _ _ _ h => h) (Or.inl ⟨by rfl, ?hk1⟩) (CcS.old ((Old.refl w).drew) HS.out) ?rk1
    case hk1 => (intro wz hSw; (try dsimp only at hSw); go_simp; try with_reducible rfl)
    (try simp only [Act.put]); (try simp only [List.setIfInBounds_toArray]); (try simp only [List.set_cons_succ]); (try simp only [List.set_cons_zero])
    refine wpAnyH_take (i := 1) (oi := { dst := some 11, op := Op.nilCheck (Operand.tmp 10), type := 0, pos := "tell.go:31", after := #[{ on := 0, ground := Ground.data }], guard := none }) (v := ?vk2) rfl (by kernel_rfl) (by kernel_rfl) (by kernel_rfl) (fun _ _ _ h => h) (Or.inl ⟨by rfl, ?hk2⟩) (CcS.old ((Old.refl w).drew) HS.out) ?rk2
    case hk2 => (intro wz hSw; (try dsimp only at hSw); go_simp; try with_reducible rfl)
    (try simp only [Act.put]); (try simp only [List.setIfInBounds_toArray]); (try simp only [List.set_cons_succ]); (try simp only [List.set_cons_zero])
    refine wpAnyH_take (i := 2) (oi := { dst := some 12, op := Op.fieldAddr 68 (Operand.tmp 11) 2, type := 0, pos := "tell.go:31", after := #[{ on := 1, ground := Ground.data }], guard := none }) (v := ?vk3) rfl (by kernel_rfl) (by kernel_rfl) (by kernel_rfl) (fun _ _ _ h => h) (Or.inl ⟨by rfl, ?hk3⟩) (CcS.old ((Old.refl w).drew) HS.out) ?rk3
    case hk3 => (intro wz hSw; (try dsimp only at hSw); go_simp; try with_reducible rfl)
    (try simp only [Act.put]); (try simp only [List.setIfInBounds_toArray]); (try simp only [List.set_cons_succ]); (try simp only [List.set_cons_zero])
    refine wpAnyH_take (i := 3) (oi := { dst := some 13, op := Op.load 29 (Operand.tmp 12), type := 29, pos := "tell.go:31", after := #[{ on := 2, ground := Ground.data }], guard := none }) (v := ?vk4) rfl (by kernel_rfl) (by kernel_rfl) (by kernel_rfl) (fun _ _ _ h => h) (Or.inl ⟨by rfl, ?hk4⟩) (CcS.old ((Old.refl w).drew) HS.out) ?rk4
    case hk4 => (intro wz hSw; (try dsimp only at hSw); go_simp; try with_reducible rfl)
    (try simp only [Act.put]); (try simp only [List.setIfInBounds_toArray]); (try simp only [List.set_cons_succ]); (try simp only [List.set_cons_zero])
    refine wpAnyH_take (i := 4) (oi := { dst := some 14, op := Op.move (Operand.tmp 0), type := 26, pos := "tell.go:31", after := #[], guard := none }) (v := ?vk5) rfl (by kernel_rfl) (by kernel_rfl) (by kernel_rfl) (fun _ _ _ h => h) (Or.inl ⟨by rfl, ?hk5⟩) (CcS.old ((Old.refl w).drew) HS.out) ?rk5
    case hk5 => (intro wz hSw; (try dsimp only at hSw); go_simp; try with_reducible rfl)
    (try simp only [Act.put]); (try simp only [List.setIfInBounds_toArray]); (try simp only [List.set_cons_succ]); (try simp only [List.set_cons_zero])
    refine wpAnyH_take (i := 5) (oi := { dst := some 15, op := Op.move (Operand.tmp 1), type := 2, pos := "tell.go:31", after := #[], guard := none }) (v := ?vk6) rfl (by kernel_rfl) (by kernel_rfl) (by kernel_rfl) (fun _ _ _ h => h) (Or.inl ⟨by rfl, ?hk6⟩) (CcS.old ((Old.refl w).drew) HS.out) ?rk6
    case hk6 => (intro wz hSw; (try dsimp only at hSw); go_simp; try with_reducible rfl)
    (try simp only [Act.put]); (try simp only [List.setIfInBounds_toArray]); (try simp only [List.set_cons_succ]); (try simp only [List.set_cons_zero])
    refine wpAnyH_ready (rs := [6]) (by kernel_rfl) (by simp) ?_
    refine AllReadyH.cons (o := { dst := some 16, op := Op.call { callee := Callee.value (Operand.func 33), args := #[Operand.tmp 14, Operand.tmp 15], argTypes := #[26, 2] }, type := 3, pos := "tell.go:31", after := #[{ on := 4, ground := Ground.data }, { on := 5, ground := Ground.data }], guard := none }) rfl (fun K hK => ?_) AllReadyH.nil
    refine wantCall2 ?_ 33 (.tmp 14) (.tmp 15) #[26, 2] ?_ (.pointer (some ⟨lb, 0, none⟩)) (.int .i64 from_) ?_ ?_ ?_ ((enters_of Try.func33 (by kernel_rfl) rfl) _ _) ?_
    · rfl
    · rfl
    · rfl
    · rfl
    · rfl
    refine (HAh.out _ ((Old.refl w).drew)).mono ?_
    rintro o x7 ⟨rfl, b7⟩
    refine ⟨_, rfl, ?_⟩
    have U7 := ((Old.refl w).drew).trans b7
    refine hK.out _ _ (CcS.old U7 HS.out) (fun _ => ?_)
    clear hK K
    (try simp only [Act.put]); (try simp only [List.setIfInBounds_toArray]); (try simp only [List.set_cons_succ]); (try simp only [List.set_cons_zero])
    refine wpAnyH_take (i := 7) (oi := { dst := some 17, op := Op.slice 29 (Operand.tmp 13) (some (Operand.tmp 16)) none none, type := 29, pos := "tell.go:31", after := #[{ on := 3, ground := Ground.data }, { on := 6, ground := Ground.data }], guard := none }) (v := ?vk8) rfl (by kernel_rfl) (by kernel_rfl) (by kernel_rfl) (fun _ _ _ h => h) (Or.inl ⟨by rfl, ?hk8⟩) (CcS.old U7 HS.out) ?rk8
    case hk8 => (intro wz hSw; (try dsimp only at hSw); go_simp; try with_reducible rfl)
    (try simp only [Act.put]); (try simp only [List.setIfInBounds_toArray]); (try simp only [List.set_cons_succ]); (try simp only [List.set_cons_zero])
    refine wpAnyH_ready (rs := [8]) (by kernel_rfl) (by simp) ?_
    refine AllReadyH.cons (o := { dst := some 7, op := Op.assign (Operand.tmp 17), type := 29, pos := "tell.go:31", after := #[{ on := 7, ground := Ground.data }, { on := 6, ground := Ground.chain }, { on := 0, ground := Ground.phase }, { on := 1, ground := Ground.phase }, { on := 2, ground := Ground.phase }, { on := 3, ground := Ground.phase }, { on := 4, ground := Ground.phase }, { on := 5, ground := Ground.phase }, { on := 6, ground := Ground.phase }, { on := 7, ground := Ground.phase }], guard := none }) rfl (fun K hK => ?_) AllReadyH.nil
    go_simp
    refine hK.out _ _ (CcS.old U7 HS.out) (fun _ => ?_)
    clear hK K
    (try simp only [Act.put]); (try simp only [List.setIfInBounds_toArray]); (try simp only [List.set_cons_succ]); (try simp only [List.set_cons_zero])
    refine wpAnyH_done (by kernel_rfl) ?_ _
    refine NoPanic.normal ?_
    have UZ := hid U7
    skip
    obtain ⟨wq, hwq⟩ : ∃ wq, wq = x7 := ⟨_, rfl⟩
    rw [← hwq] at UZ ⊢
    clear hwq
    obtain ⟨mn, hmn⟩ : ∃ mn : Int, (if (0 : Int) < most then (0 : Int) else most) = mn := ⟨_, rfl⟩
    have hmx : (if (0 : Int) < mn then mn else 0) = 0 := by rw [← hmn]; split <;> (try split) <;> omega
    go_upto_region 3 with (fail)
    clear hmk hmn hmx
    generalize hw3 : wq.alloc (.cells (madeCells #[.int .i64 0, .int .i64 0, .int .i64 0, .slice none 0 0] (0 * 4)) 41) = w3 at *
    generalize hob : wq.heap.size = ob at *
    have E3 := hid (EOut.new wq 0 w3 hw3 ob hob)
    have U3 := hid (show Old w w3 from by rw [← hw3]; exact UZ.out.alloc _)
    have HOB := hid (show w.heap.size ≤ ob from by rw [← hob]; exact UZ.out.size)
    clear hw3 hob UZ
    go_wp2
    go_loopw [26] (fun i wx => i = .int .i64 0 ∧ wx = w3) (fun _ _ => 0)
    case atStart => exact ⟨rfl, rfl⟩
    case round =>
      obtain ⟨rfl, rfl⟩ := hrel
      go_wp2
      go_ret
      exact ⟨_, [], rfl, ⟨⟨ob, rfl, HOB.out, E3.out⟩, fun x hx => by cases hx⟩, by rw [HEL.out]; rfl, U3.out⟩
  · rw [e1] at x2 HCE
    obtain ⟨o2, hoe2, ho⟩ := offs g off cap k 4
    have HS := hid x2
    have HRest := hid (show ∀ j, j < m → ∃ g' o, (some ⟨g, o2, none⟩ : Option Addr) = some ⟨g', o, none⟩ ∧ EntIn w g' (o + j * 4) (atE G.es (k + j)).e from fun j hj => by
      have h1 := HKM.out
      obtain ⟨g', off', e3, e4⟩ := HCE.out _ _ rfl (k + j) (by omega)
      cases e3
      rcases ho with ⟨h2, h3⟩ | h3
      · omega
      · subst h3; exact ⟨g, _, rfl, by rw [show off + k * 4 + j * 4 = off + (k + j) * 4 from by omega]; exact e4⟩)
    have l1 : (0 : Int) ≤ (k : Int) := by omega
    have l2 : (k : Int) ≤ (N : Int) := by omega
    have l3 : (N : Int) ≤ (cap : Int) := by omega
    have l4 : (cap : Int) ≤ 9223372036854775807 := by unfold maxLen at hcm; omega
    obtain ⟨rl, hrl⟩ : ∃ rl, N - k = rl := ⟨_, rfl⟩
    obtain ⟨rc, hrc⟩ : ∃ rc, cap - k = rc := ⟨_, rfl⟩
    have HMM := hid (show max (0 : Int) (min most (rl : Int)) = (m : Int) from by rw [HM.out, hrl])
    have hrl2 : (rl : Int) ≤ 1099511627776 := by omega
    have hml : m ≤ rl := by have := HKM.out; omega
    have HML := hid hml
    clear hb hg hnc hcm hcs htk ho hml
    clear x2
    go_enter Try.func14, Try.ntmps14
    go_upto_region 1 with (fail)
    refine wp_region_noPanic ?_
    refine wp_region_held_drew (S := fun wz => wz.cell? ⟨lb, 2, none⟩ = some (.slice (some ⟨g, off, none⟩) N cap)) (by kernel_rfl) ?_ (fun hHeld => ?_)
    · exact CcS.old ((Old.refl _).drew) HS.out
    (try simp only [Act.put]); (try simp only [List.setIfInBounds_toArray]); (try simp only [List.set_cons_succ]); (try simp only [List.set_cons_zero])
    clear hHeld
    refine wpAnyH_take (i := 0) (oi := { dst := some 10, op := Op.move (Operand.tmp 0), type := 26, pos := "tell.go:31", after := #[], guard := none }) (v := ?vk9) rfl (by kernel_rfl) (by kernel_rfl) (by kernel_rfl) (fun _ _ _ h => h) (Or.inl ⟨by rfl, ?hk9⟩) (CcS.old ((Old.refl w).drew) HS.out) ?rk9
    case hk9 => (intro wz hSw; (try dsimp only at hSw); go_simp; try with_reducible rfl)
    (try simp only [Act.put]); (try simp only [List.setIfInBounds_toArray]); (try simp only [List.set_cons_succ]); (try simp only [List.set_cons_zero])
    refine wpAnyH_take (i := 1) (oi := { dst := some 11, op := Op.nilCheck (Operand.tmp 10), type := 0, pos := "tell.go:31", after := #[{ on := 0, ground := Ground.data }], guard := none }) (v := ?vk10) rfl (by kernel_rfl) (by kernel_rfl) (by kernel_rfl) (fun _ _ _ h => h) (Or.inl ⟨by rfl, ?hk10⟩) (CcS.old ((Old.refl w).drew) HS.out) ?rk10
    case hk10 => (intro wz hSw; (try dsimp only at hSw); go_simp; try with_reducible rfl)
    (try simp only [Act.put]); (try simp only [List.setIfInBounds_toArray]); (try simp only [List.set_cons_succ]); (try simp only [List.set_cons_zero])
    refine wpAnyH_take (i := 2) (oi := { dst := some 12, op := Op.fieldAddr 68 (Operand.tmp 11) 2, type := 0, pos := "tell.go:31", after := #[{ on := 1, ground := Ground.data }], guard := none }) (v := ?vk11) rfl (by kernel_rfl) (by kernel_rfl) (by kernel_rfl) (fun _ _ _ h => h) (Or.inl ⟨by rfl, ?hk11⟩) (CcS.old ((Old.refl w).drew) HS.out) ?rk11
    case hk11 => (intro wz hSw; (try dsimp only at hSw); go_simp; try with_reducible rfl)
    (try simp only [Act.put]); (try simp only [List.setIfInBounds_toArray]); (try simp only [List.set_cons_succ]); (try simp only [List.set_cons_zero])
    refine wpAnyH_take (i := 3) (oi := { dst := some 13, op := Op.load 29 (Operand.tmp 12), type := 29, pos := "tell.go:31", after := #[{ on := 2, ground := Ground.data }], guard := none }) (v := ?vk12) rfl (by kernel_rfl) (by kernel_rfl) (by kernel_rfl) (fun _ _ _ h => h) (Or.inl ⟨by rfl, ?hk12⟩) (CcS.old ((Old.refl w).drew) HS.out) ?rk12
    case hk12 => (intro wz hSw; (try dsimp only at hSw); go_simp; try with_reducible rfl)
    (try simp only [Act.put]); (try simp only [List.setIfInBounds_toArray]); (try simp only [List.set_cons_succ]); (try simp only [List.set_cons_zero])
    refine wpAnyH_take (i := 4) (oi := { dst := some 14, op := Op.move (Operand.tmp 0), type := 26, pos := "tell.go:31", after := #[], guard := none }) (v := ?vk13) rfl (by kernel_rfl) (by kernel_rfl) (by kernel_rfl) (fun _ _ _ h => h) (Or.inl ⟨by rfl, ?hk13⟩) (CcS.old ((Old.refl w).drew) HS.out) ?rk13
    case hk13 => (intro wz hSw; (try dsimp only at hSw); go_simp; try with_reducible rfl)
    (try simp only [Act.put]); (try simp only [List.setIfInBounds_toArray]); (try simp only [List.set_cons_succ]); (try simp only [List.set_cons_zero])
    refine wpAnyH_take (i := 5) (oi := { dst := some 15, op := Op.move (Operand.tmp 1), type := 2, pos := "tell.go:31", after := #[], guard := none }) (v := ?vk14) rfl (by kernel_rfl) (by kernel_rfl) (by kernel_rfl) (fun _ _ _ h => h) (Or.inl ⟨by rfl, ?hk14⟩) (CcS.old ((Old.refl w).drew) HS.out) ?rk14
    case hk14 => (intro wz hSw; (try dsimp only at hSw); go_simp; try with_reducible rfl)
    (try simp only [Act.put]); (try simp only [List.setIfInBounds_toArray]); (try simp only [List.set_cons_succ]); (try simp only [List.set_cons_zero])
    refine wpAnyH_ready (rs := [6]) (by kernel_rfl) (by simp) ?_
    refine AllReadyH.cons (o := { dst := some 16, op := Op.call { callee := Callee.value (Operand.func 33), args := #[Operand.tmp 14, Operand.tmp 15], argTypes := #[26, 2] }, type := 3, pos := "tell.go:31", after := #[{ on := 4, ground := Ground.data }, { on := 5, ground := Ground.data }], guard := none }) rfl (fun K hK => ?_) AllReadyH.nil
    refine wantCall2 ?_ 33 (.tmp 14) (.tmp 15) #[26, 2] ?_ (.pointer (some ⟨lb, 0, none⟩)) (.int .i64 from_) ?_ ?_ ?_ ((enters_of Try.func33 (by kernel_rfl) rfl) _ _) ?_
    · rfl
    · rfl
    · rfl
    · rfl
    · rfl
    refine (HAh.out _ ((Old.refl w).drew)).mono ?_
    rintro o x15 ⟨rfl, b15⟩
    refine ⟨_, rfl, ?_⟩
    have U15 := ((Old.refl w).drew).trans b15
    refine hK.out _ _ (CcS.old U15 HS.out) (fun _ => ?_)
    clear hK K
    (try simp only [Act.put]); (try simp only [List.setIfInBounds_toArray]); (try simp only [List.set_cons_succ]); (try simp only [List.set_cons_zero])
    refine wpAnyH_take (i := 7) (oi := { dst := some 17, op := Op.slice 29 (Operand.tmp 13) (some (Operand.tmp 16)) none none, type := 29, pos := "tell.go:31", after := #[{ on := 3, ground := Ground.data }, { on := 6, ground := Ground.data }], guard := none }) (v := ?vk16) rfl (by kernel_rfl) (by kernel_rfl) (by kernel_rfl) (fun _ _ _ h => h) (Or.inl ⟨by rfl, ?hk16⟩) (CcS.old U15 HS.out) ?rk16
    case hk16 => (intro wz hSw; (try dsimp only at hSw); go_simp; try with_reducible rfl)
    (try simp only [Act.put]); (try simp only [List.setIfInBounds_toArray]); (try simp only [List.set_cons_succ]); (try simp only [List.set_cons_zero])
    refine wpAnyH_ready (rs := [8]) (by kernel_rfl) (by simp) ?_
    refine AllReadyH.cons (o := { dst := some 7, op := Op.assign (Operand.tmp 17), type := 29, pos := "tell.go:31", after := #[{ on := 7, ground := Ground.data }, { on := 6, ground := Ground.chain }, { on := 0, ground := Ground.phase }, { on := 1, ground := Ground.phase }, { on := 2, ground := Ground.phase }, { on := 3, ground := Ground.phase }, { on := 4, ground := Ground.phase }, { on := 5, ground := Ground.phase }, { on := 6, ground := Ground.phase }, { on := 7, ground := Ground.phase }], guard := none }) rfl (fun K hK => ?_) AllReadyH.nil
    go_simp
    refine hK.out _ _ (CcS.old U15 HS.out) (fun _ => ?_)
    clear hK K
    (try simp only [Act.put]); (try simp only [List.setIfInBounds_toArray]); (try simp only [List.set_cons_succ]); (try simp only [List.set_cons_zero])
    refine wpAnyH_done (by kernel_rfl) ?_ _
    refine NoPanic.normal ?_
    have UZ := hid U15
    skip
    try simp only [hrl, hrc]
    clear hrl hrc hoe2 l1 l2 l3 l4
    obtain ⟨wq, hwq⟩ : ∃ wq, wq = x15 := ⟨_, rfl⟩
    rw [← hwq] at UZ ⊢
    clear hwq
    obtain ⟨mn, hmn⟩ : ∃ mn : Int, (if (rl : Int) < most then (rl : Int) else most) = mn := ⟨_, rfl⟩
    have hmx : (if (0 : Int) < mn then mn else 0) = (m : Int) := by have q := HMM.out; rw [← hmn]; split <;> split <;> omega
    go_upto_region 3 with (fail)
    clear hmk hmn hmx
    generalize hw3 : wq.alloc (.cells (madeCells #[.int .i64 0, .int .i64 0, .int .i64 0, .slice none 0 0] (m * 4)) 41) = w3 at *
    generalize hob : wq.heap.size = ob at *
    have E3 := hid (EOut.new wq m w3 hw3 ob hob)
    have U3 := hid (show Old w w3 from by rw [← hw3]; exact UZ.out.alloc _)
    have HOB := hid (show w.heap.size ≤ ob from by rw [← hob]; exact UZ.out.size)
    clear hw3 hob UZ
    go_wp2
    go_loopw [26] (fun i wx => ∃ (j : Nat) (X : List En), j ≤ m ∧ i = .int .i64 (j : Nat) ∧ Hid (X.length = j ∧ pls X = (pls (G.es.drop k)).take j ∧ EOut ob m X wx ∧ (∀ x ∈ X, Own wx x.s x.d ∧ ∀ g, x.s.ownBlock = some g → w.heap.size ≤ g) ∧ Old w wx)) (fun i _ => m - (intOf i).toNat)
    case atStart => exact ⟨0, [], Nat.zero_le _, rfl, hid ⟨rfl, rfl, E3.out, (fun x hx => by cases hx), U3.out⟩⟩
    case round =>
      obtain ⟨j, X, hj, rfl, HI⟩ := hrel
      by_cases hlt : j < m
      · obtain ⟨g', o', e1', e4⟩ := HRest.out j hlt
        simp only [Option.some.injEq, Addr.mk.injEq, and_true] at e1'
        obtain ⟨rfl, rfl⟩ := e1'
        obtain ⟨y0, y1, y2, y3⟩ := EntIn.old e4 HI.out.2.2.2.2
        have hkj : k + j < G.es.length := by rw [HN.out]; have := HKM.out; omega
        have HEd := hid (show (atE G.es (k + j)).d.length ≤ 140737488355328 from Nat.le_trans (HEl.out _ (atE_mem G.es (k + j) hkj)) (by omega))
        have HR := hid ((HD.out _ (atE_mem G.es (k + j) hkj)).row)
        have HPl := hid (show (pls (G.es.drop k)).take (j + 1) = (pls (G.es.drop k)).take j ++ [(atE G.es (k + j)).pl] from by
          rw [← pls_take, ← pls_take, take_at (by rw [List.length_drop]; omega), pls_app]
          congr 1
          show [(atE (G.es.drop k) j).pl] = _
          rw [atE_get _ _ (by rw [List.length_drop]; omega), atE_get _ _ hkj, List.getElem_drop])
        generalize atE G.es (k + j) = E at *
        obtain ⟨ei, et, ek, ep, ec, ed⟩ := E
        dsimp only [En.e] at y0 y1 y2 y3
        dsimp only [En.s] at HR
        obtain ⟨z0, c0, f0⟩ := HI.out.2.2.1.there (by rw [HI.out.1]; exact hlt) 0 (by omega)
        obtain ⟨z1, c1, f1⟩ := HI.out.2.2.1.there (by rw [HI.out.1]; exact hlt) 1 (by omega)
        obtain ⟨z2, c2, f2⟩ := HI.out.2.2.1.there (by rw [HI.out.1]; exact hlt) 2 (by omega)
        obtain ⟨z3, c3, f3⟩ := HI.out.2.2.1.there (by rw [HI.out.1]; exact hlt) 3 (by omega)
        rw [HI.out.1] at c0 c1 c2 c3 f0 f1 f2 f3
        rw [Nat.add_zero] at c0 f0
        have l5 : (0 : Int) ≤ (j : Int) := by omega
        have l6 : (j : Int) < (m : Int) := by omega
        have l7 : (j : Int) < (rl : Int) := by have := HML.out; omega
        have HCl := hid (cloneE_any ei et ek (.slice ep ed.length ec) ed wr (HR.out.old HI.out.2.2.2.2) HEd.out)
        clear e4 hkj HR
        go_wp2_with (go_at_call 35; refine HCl.out.mono ?_; rintro e w5 ⟨ca, cc, rfl, n5, o5⟩; have N5 := hid n5; have O5 := hid o5; have d0 := o5.keep c0; have d1 := o5.keep c1; have d2 := o5.keep c2; have d3 := o5.keep c3; have h0 := o5.keepF c0 f0; have h1 := o5.keepF c1 f1; have h2 := o5.keepF c2 f2; have h3 := o5.keepF c3 f3; clear n5 o5)
        go_roundw
        case rel =>
          refine ⟨j + 1, X ++ [⟨ei, et, ek, ca, cc, ed⟩], hlt, by go_num, hid ⟨by rw [List.length_append, HI.out.1]; rfl, ?_, ?_, ?_, ?_⟩⟩
          · rw [pls_app, HI.out.2.1, HPl.out]; rfl
          · have q := (HI.out.2.2.1.old O5.out).set (by rw [HI.out.1]; exact hlt) ⟨ei, et, ek, ca, cc, ed⟩
            rw [HI.out.1] at q
            exact q
          · intro x hx
            have hobw : ob < wr.heap.size := by obtain ⟨cur, e, _⟩ := HI.out.2.2.1; exact heap_lt e
            have tyb := (HI.out.2.2.1.old O5.out)
            obtain ⟨curb, eb, _⟩ := tyb
            have key : ∀ {u : Value} {d : List Nat}, Own w5 u d → Own ((((w5.setCell ⟨ob, j * 4, none⟩ (.int .i64 ei)).setCell ⟨ob, j * 4 + 1, none⟩ (.int .i64 et)).setCell ⟨ob, j * 4 + 2, none⟩ (.int .i64 ek)).setCell ⟨ob, j * 4 + 3, none⟩ (.slice ca ed.length cc)) u d := fun {u d} q => q.chg Chg.set4b (fun g e z => by simp at z; subst z; exact q.off g e ⟨_, _, eb, .inr (.inl rfl)⟩)
            rcases List.mem_append.1 hx with q | q
            · have := HI.out.2.2.2.1 x q
              exact ⟨key (this.1.old O5.out), this.2⟩
            · simp at q
              subst q
              exact ⟨key N5.out.1, fun g e => Nat.le_trans HI.out.2.2.2.2.size (N5.out.2 g e).1⟩
          · exact (HI.out.2.2.2.2.trans O5.out).set4b HOB.out
        case measure => simp [intOf]; omega
      · obtain rfl : m = j := by omega
        go_wp2
        go_ret
        exact ⟨_, X, rfl, ⟨⟨ob, by rw [HI.out.1]; rfl, HOB.out, by rw [HI.out.1]; exact HI.out.2.2.1⟩, HI.out.2.2.2.1⟩, by rw [HEL.out]; exact HI.out.2.1, HI.out.2.2.2.2⟩
end Go.Proofs.Ytgpfmohaogppiaa
