/- Clones of rows of int and of configurations, New at every argument; conditions: the rows lie in memory. -/
import Derived.Test.YtgpfmohaogppiaaRl3
namespace Go.Proofs.Ytgpfmohaogppiaa
open Go.RowKit Go.Lib
set_option linter.unusedVariables false
set_option linter.unusedSimpArgs false
set_option maxRecDepth 20000
theorem Chg.setCells (b : Nat) : ∀ (vs : List Value) (o : Nat) (w : World), Chg [b] w (w.setCells b o vs)
  | [], _, w => Chg.refl _ w
  | v :: r, o, w => by rw [World.setCells]; exact (Chg.set (S := [b]) w ⟨b, o, none⟩ v (by simp)).trans (Chg.setCells b r (o + 1) _)
theorem lsI_gI (L : List Int) : lsI (gI L) L.length = L := by
  apply List.ext_getElem?
  intro i
  by_cases h : i < L.length
  · have q := lsI_get (gI L) L.length i h
    rw [List.getD_eq_getElem?_getD, List.getElem?_eq_getElem (by rw [lsI_len]; exact h)] at q
    rw [List.getElem?_eq_getElem (by rw [lsI_len]; exact h), List.getElem?_eq_getElem h]
    simp [gI, h] at q ⊢
    exact q
  · rw [List.getElem?_eq_none (by rw [lsI_len]; omega), List.getElem?_eq_none (by omega)]
theorem OwnI.rowH {base : Nat} {w : World} {v : Value} {L : List Int} (h : OwnI base w v L) (hl : L.length ≤ 17592186044000) : NRowL w v L.length (gI L) := h.rowL hl rfl (fun i _ => rfl)
theorem alloc_keep {w : World} {k : Nat} {o q : Obj} (h : w.heap[k]? = some o) : (w.alloc q).heap[k]? = some o := ((Old.refl w).alloc q).block h
set_option maxHeartbeats 2000000 in
set_option maxRecDepth 20000 in
theorem cloneIs (v : Value) (n : Nat) (f : Nat → Int) (w : World) (h : NRowL w v n f) :
    Calls Try.prog 45 #[v] w fun e w' => ∃ v', e = .returned v' ∧ OwnI w.heap.size w' v' (lsI f n) ∧ Old w w' := by
  obtain ⟨hn, p, c, rfl, hnc, hcm, hc⟩ := h
  cases p with
  | none =>
    have hz : n = 0 := Classical.byContradiction fun q => by obtain ⟨g, off, e, _⟩ := hc 0 (by omega); cases e
    subst hz
    have hq := fun w => Go.Lib.run_eql_slice_nil (P := Try.prog) w 22 3 none 0 c 0 0 Try.underlying22
    clear hc
    go_enter Try.func45, Try.ntmps45
    go_wp2
    go_ret
    exact ⟨_, rfl, World.ownsRow_nil w _ _ _, Old.refl _⟩
  | some ad =>
    have hq := fun w => Go.Lib.run_eql_slice_nil (P := Try.prog) w 22 3 (some ad) n c 0 0 Try.underlying22
    obtain ⟨i0, hi, hz0, hz1, hz2⟩ := info_parts infoInt
    have HI := hid (And.intro hi (And.intro hz0 (And.intro hz1 hz2)))
    have HC : Hid (∀ j u, (ils (lsI f n))[j]? = some u → w.cell? (ad.add j) = some u) := hid (fun j u hj => by
      have hlt : j < n := by
        have := List.getElem?_eq_some_iff.1 hj
        obtain ⟨q, _⟩ := this
        simp [ils, lsI_len] at q; exact q
      obtain ⟨g', off', e, q⟩ := hc j hlt
      cases e
      rw [Go.WideShapes.add_plain, q, ← hj]
      have q2 := lsI_get f n j hlt
      simp [ils]
      rw [List.getElem?_eq_getElem (by rw [lsI_len]; exact hlt)]
      rw [List.getD_eq_getElem?_getD, List.getElem?_eq_getElem (by rw [lsI_len]; exact hlt)] at q2
      simp at q2 ⊢; exact q2.symm)
    have hE : w.alloc (.cells #[] 3) |>.ownsRow w.heap.size 3 1 (.slice (some ⟨w.heap.size, 0, none⟩) 0 0) 0 [] := World.ownsRow_made w #[] 0 (Nat.le_refl _) (by unfold maxLen; omega) rfl
    have HEE := hid hE
    have HN := hid hn
    clear hi hz0 hz1 hz2 hE hc
    go_enter Try.func45, Try.ntmps45
    go_wp2_with (at_builtin; refine wpList_append_own_at _ rfl (.tmp 5) (.tmp 6) 22 rfl w.heap.size 3 i0 _ 1 8 Try.underlying22 HI.out.1 HI.out.2.1 HI.out.2.2.1 HI.out.2.2.2 rfl (by decide) _ 0 [] rfl HEE.out ad n c (ils (lsI f n)) rfl (by simp [ils, lsI_len]) (fun j u hj => ((Old.refl w).alloc _).keep (HC.out j u hj)) (fun u hu => by simp [ils] at hu; obtain ⟨a, _, rfl⟩ := hu; rfl) (by unfold maxLen; have := HN.out; omega) (by have := HN.out; omega) (by simp) ?_; intro v' w' h1 h2 h3 h4; have H1 := hid h1; have H2 := hid (Old.below ((Old.refl w).alloc (.cells #[] 3)) (Below.grown (Below.refl _ _) h2 (by simp) (fun k hk => by cases hk; exact Nat.le_refl _))); clear h1 h2 h3 h4)
    go_ret
    have q := H1.out
    rw [Nat.zero_add, List.nil_append] at q
    refine ⟨_, rfl, ?_, H2.out⟩
    unfold OwnI
    rw [lsI_len]
    exact q
set_option maxHeartbeats 4000000 in
set_option maxRecDepth 20000 in
theorem clone2 (v1 v2 : Value) (n1 n2 : Nat) (f1 f2 : Nat → Int) (w : World) (h1 : NRowL w v1 n1 f1) (h2 : NRowL w v2 n2 f2) :
    Calls Try.prog 30 #[.agg #[v1, v2]] w fun e w' => ∃ u1 u2, e = .returned (.agg #[u1, u2]) ∧ OwnI w.heap.size w' u1 (lsI f1 n1) ∧ OwnI w.heap.size w' u2 (lsI f2 n2) ∧ Old w w' := by
  have HC1 := hid (fun (W : World) (u : Old w W) => cloneIs v1 n1 f1 W (h1.old u))
  have HC2 := hid (fun (W : World) (u : Old w W) => cloneIs v2 n2 f2 W (h2.old u))
  obtain ⟨_, p1, c1, rfl, _⟩ := h1
  obtain ⟨_, p2, c2, rfl, _⟩ := h2
  go_enter Try.func30, Try.ntmps30
  go_upto_region 1 with (fail)
  generalize hw2 : ((w.alloc (.cells #[.slice p1 n1 c1, .slice p2 n2 c2] 24)).alloc (.cells #[.slice none 0 0, .slice none 0 0] 24)) = w2
  have HUw := hid (show Old w w2 from by rw [← hw2]; exact ((Old.refl w).alloc _).alloc _)
  have S0 : w2.cell? ⟨w.heap.size, 0, none⟩ = some (.slice p1 n1 c1) ∧ w2.cell? ⟨w.heap.size, 1, none⟩ = some (.slice p2 n2 c2) := by rw [← hw2]; exact ⟨((Old.refl _).alloc _).keep (by simp), ((Old.refl _).alloc _).keep (by simp)⟩
  have HT := hid (show T2 (w.heap.size + 1) w2 from by rw [← hw2]; exact ⟨by simp, by simp, by simp, by simp⟩)
  have HT2 := hid (show w.heap.size ≤ w2.heap.size ∧ w.heap.size + 1 < w2.heap.size from ⟨HUw.out.size, World.block_lt_of_cell? w2 _ HT.out.a⟩)
  have HRb := hid (show w.heap.size ≤ w.heap.size + 1 from by omega)
  have HBR := hid (show w.heap.size ≠ w.heap.size + 1 from by omega)
  clear hw2
  have HC1' := hid (fun (W : World) (u : Old w2 W) => HC1.out W (HUw.out.trans u))
  have HC2' := hid (fun (W : World) (u : Old w2 W) => HC2.out W (HUw.out.trans u))
  clear HC1 HC2
  have HC1 := HC1'
  have HC2 := HC2'
  clear HC1' HC2'
  generalize hrb : w.heap.size + 1 = rb at *
  generalize hbx : w.heap.size = bx at *
  refine wp_region_noPanic ?_
  refine wp_region_held_drew (S := fun wz => wz.cell? ⟨bx, 0, none⟩ = some (.slice p1 n1 c1) ∧ wz.cell? ⟨bx, 1, none⟩ = some (.slice p2 n2 c2)) (by kernel_rfl) ?_ (fun hHeld => ?_)
  · exact ⟨((Old.refl _).drew).keep S0.1, ((Old.refl _).drew).keep S0.2⟩
  (try simp only [Act.put]); (try simp only [List.setIfInBounds_toArray]); (try simp only [List.set_cons_succ]); (try simp only [List.set_cons_zero])
  clear hHeld
  refine wpAnyH_take (i := 0) (oi := { dst := some 3, op := Op.fieldAddr 24 (Operand.tmp 1) 0, type := 0, pos := "rlog.go:38", after := #[], guard := none }) (v := ?vk1) rfl (by kernel_rfl) (by kernel_rfl) (by kernel_rfl) (fun _ _ _ h => h) (Or.inl ⟨by rfl, ?hk1⟩) (show _ ∧ _ from ⟨((Old.refl _).drew).keep S0.1, ((Old.refl _).drew).keep S0.2⟩) ?rk1
  case hk1 => (intro wz hSw; (try dsimp only at hSw); go_simp; try with_reducible rfl)
  (try simp only [Act.put]); (try simp only [List.setIfInBounds_toArray]); (try simp only [List.set_cons_succ]); (try simp only [List.set_cons_zero])
  refine wpAnyH_take (i := 1) (oi := { dst := some 4, op := Op.load 22 (Operand.tmp 3), type := 22, pos := "rlog.go:38", after := #[{ on := 0, ground := Ground.data }], guard := none }) (v := ?vk2) rfl (by kernel_rfl) (by kernel_rfl) (by kernel_rfl) (fun _ _ _ h => h) (Or.inl ⟨by rfl, ?hk2⟩) (show _ ∧ _ from ⟨((Old.refl _).drew).keep S0.1, ((Old.refl _).drew).keep S0.2⟩) ?rk2
  case hk2 => (intro wz hSw; (try dsimp only at hSw); go_simp; try with_reducible rfl)
  (try simp only [Act.put]); (try simp only [List.setIfInBounds_toArray]); (try simp only [List.set_cons_succ]); (try simp only [List.set_cons_zero])
  refine wpAnyH_take (i := 3) (oi := { dst := some 6, op := Op.fieldAddr 24 (Operand.tmp 1) 1, type := 0, pos := "rlog.go:38", after := #[], guard := none }) (v := ?vk3) rfl (by kernel_rfl) (by kernel_rfl) (by kernel_rfl) (fun _ _ _ h => h) (Or.inl ⟨by rfl, ?hk3⟩) (show _ ∧ _ from ⟨((Old.refl _).drew).keep S0.1, ((Old.refl _).drew).keep S0.2⟩) ?rk3
  case hk3 => (intro wz hSw; (try dsimp only at hSw); go_simp; try with_reducible rfl)
  (try simp only [Act.put]); (try simp only [List.setIfInBounds_toArray]); (try simp only [List.set_cons_succ]); (try simp only [List.set_cons_zero])
  refine wpAnyH_take (i := 4) (oi := { dst := some 7, op := Op.load 22 (Operand.tmp 6), type := 22, pos := "rlog.go:38", after := #[{ on := 3, ground := Ground.data }], guard := none }) (v := ?vk4) rfl (by kernel_rfl) (by kernel_rfl) (by kernel_rfl) (fun _ _ _ h => h) (Or.inl ⟨by rfl, ?hk4⟩) (show _ ∧ _ from ⟨((Old.refl _).drew).keep S0.1, ((Old.refl _).drew).keep S0.2⟩) ?rk4
  case hk4 => (intro wz hSw; (try dsimp only at hSw); go_simp; try with_reducible rfl)
  (try simp only [Act.put]); (try simp only [List.setIfInBounds_toArray]); (try simp only [List.set_cons_succ]); (try simp only [List.set_cons_zero])
  refine wpAnyH_ready (rs := [2]) (by kernel_rfl) (by simp) ?_
  refine AllReadyH.cons (o := { dst := some 5, op := Op.call { callee := Callee.value (Operand.func 45), args := #[Operand.tmp 4], argTypes := #[22] }, type := 22, pos := "rlog.go:38", after := #[{ on := 1, ground := Ground.data }], guard := none }) rfl (fun K hK => ?_) AllReadyH.nil
  · skip
    refine stepCallF1 ?_ 45 (.tmp 4) #[22] ?_ (.slice p1 n1 c1) ?_ ?_ (enters_of Try.func45 (by kernel_rfl) rfl _ _) ?_
    · rfl
    · rfl
    · rfl
    · rfl
    refine (HC1.out _ ((Old.refl w2).drew)).mono ?_
    rintro o x5 ⟨u5, rfl, r5, b5⟩
    obtain ⟨p1', c1', e1'⟩ := r5.len
    rw [lsI_len] at e1'
    replace r5 := r5.mono (b' := w2.heap.size) (by simp)
    subst e1'
    refine ⟨_, rfl, ?_⟩
    have U5 := ((Old.refl w2).drew).trans b5
    have S5 : _ ∧ _ := ⟨b5.keep (show _ ∧ _ from ⟨((Old.refl _).drew).keep S0.1, ((Old.refl _).drew).keep S0.2⟩).1, b5.keep (show _ ∧ _ from ⟨((Old.refl _).drew).keep S0.1, ((Old.refl _).drew).keep S0.2⟩).2⟩
    refine hK.out _ _ S5 (fun _ => ?_)
    clear hK K
    (try simp only [Act.put]); (try simp only [List.setIfInBounds_toArray]); (try simp only [List.set_cons_succ]); (try simp only [List.set_cons_zero])
    refine wpAnyH_ready (rs := [5]) (by kernel_rfl) (by simp) ?_
    refine AllReadyH.cons (o := { dst := some 8, op := Op.call { callee := Callee.value (Operand.func 45), args := #[Operand.tmp 7], argTypes := #[22] }, type := 22, pos := "rlog.go:38", after := #[{ on := 4, ground := Ground.data }, { on := 2, ground := Ground.chain }], guard := none }) rfl (fun K hK => ?_) AllReadyH.nil
    · skip
      refine stepCallF1 ?_ 45 (.tmp 7) #[22] ?_ (.slice p2 n2 c2) ?_ ?_ (enters_of Try.func45 (by kernel_rfl) rfl _ _) ?_
      · rfl
      · rfl
      · rfl
      · rfl
      refine (HC2.out _ U5).mono ?_
      rintro o x6 ⟨u6, rfl, r6, b6⟩
      obtain ⟨p2', c2', e2'⟩ := r6.len
      rw [lsI_len] at e2'
      replace r6 := r6.mono (b' := w2.heap.size) U5.size
      subst e2'
      refine ⟨_, rfl, ?_⟩
      have U6 := U5.trans b6
      have S6 : _ ∧ _ := ⟨b6.keep S5.1, b6.keep S5.2⟩
      have Q6 := r5.up b6
      refine hK.out _ _ S6 (fun _ => ?_)
      clear hK K
      (try simp only [Act.put]); (try simp only [List.setIfInBounds_toArray]); (try simp only [List.set_cons_succ]); (try simp only [List.set_cons_zero])
      refine wpAnyH_take (i := 6) (oi := { dst := some 9, op := Op.build 24 #[(0, Operand.tmp 5), (1, Operand.tmp 8)], type := 24, pos := "rlog.go:38", after := #[{ on := 2, ground := Ground.data }, { on := 5, ground := Ground.data }], guard := none }) (v := ?vk7) rfl (by kernel_rfl) (by kernel_rfl) (by kernel_rfl) (fun _ _ _ h => h) (Or.inl ⟨by rfl, ?hk7⟩) S6 ?rk7
      case hk7 => (intro wz hSw; (try dsimp only at hSw); go_simp; try with_reducible rfl)
      (try simp only [Act.put]); (try simp only [List.setIfInBounds_toArray]); (try simp only [List.set_cons_succ]); (try simp only [List.set_cons_zero])
      refine wpAnyH_ready (rs := [7]) (by kernel_rfl) (by simp) ?_
      refine AllReadyH.cons (o := { dst := none, op := Op.store 24 (Operand.tmp 2) (Operand.tmp 9), type := 0, pos := "rlog.go:38", after := #[{ on := 6, ground := Ground.data }, { on := 5, ground := Ground.chain }, { on := 0, ground := Ground.phase }, { on := 1, ground := Ground.phase }, { on := 2, ground := Ground.phase }, { on := 3, ground := Ground.phase }, { on := 4, ground := Ground.phase }, { on := 5, ground := Ground.phase }, { on := 6, ground := Ground.phase }], guard := none }) rfl (fun K hK => ?_) AllReadyH.nil
      · skip
        have T8 := T2.old U6 HT.out
        refine stepStoreC ?_ (.tmp 2) (.tmp 9) ?_ rb (.slice p1' n1 c1') (.slice p2' n2 c2') ?_ ?_ T8.there rfl rfl ?_
        · rfl
        · rfl
        · rfl
        · rfl
        have V8 := hid (Old.setCells (a := w) (b := rb) (by have := HRb.out; omega) [.slice p1' n1 c1', .slice p2' n2 c2'] 0 (HUw.out.trans U6))
        have G8 := hid (T8.set (.slice p1' n1 c1') (.slice p2' n2 c2'))
        have HW2 := HT2.out.1
        have HW3 := HT2.out.2
        have M1 := hid ((Q6.chg (Chg.setCells rb [.slice p1' n1 c1', .slice p2' n2 c2'] 0 _) (fun g e => by have := (World.ownsRow.lt Q6 g e).1; simp; omega)).mono HW2)
        have M2 := hid ((r6.chg (Chg.setCells rb [.slice p1' n1 c1', .slice p2' n2 c2'] 0 _) (fun g e => by have := (World.ownsRow.lt r6 g e).1; simp; omega)).mono HW2)
        have S8 : _ ∧ _ := ⟨(World.cell?_setCells_out rb [.slice p1' n1 c1', .slice p2' n2 c2'] 0 _ ⟨bx, 0, none⟩ (fun e => absurd e HBR.out)).trans S6.1, (World.cell?_setCells_out rb [.slice p1' n1 c1', .slice p2' n2 c2'] 0 _ ⟨bx, 1, none⟩ (fun e => absurd e HBR.out)).trans S6.2⟩
        refine hK.out _ _ S8 (fun _ => ?_)
        clear hK K
        (try simp only [Act.put]); (try simp only [List.setIfInBounds_toArray]); (try simp only [List.set_cons_succ]); (try simp only [List.set_cons_zero])
        refine wpAnyH_done (by kernel_rfl) ?_ _
        refine NoPanic.normal ?_
        obtain ⟨g0, g1⟩ := G8.out
        go_wp2
        refine bodyPost_ret (v := .agg #[.slice p1' n1 c1', .slice p2' n2 c2']) (by simp [results, Try.results30, go_sem, g0, g1]) rfl ⟨_, _, rfl, (by rw [hbx]; exact M1.out), (by rw [hbx]; exact M2.out), V8.out⟩
def clampI (n : Int) : Int := max 0 (min n 1099511627776)
set_option maxHeartbeats 1000000 in
set_option maxRecDepth 20000 in
theorem clamp_any (n : Int) (w : World) : Calls Try.prog 29 #[.int .i64 n] w fun e w' => e = .returned (.int .i64 (clampI n)) ∧ w' = w := by
  go_enter Try.func29, Try.ntmps29
  by_cases h1 : 1099511627776 < n
  · have e : clampI n = 1099511627776 := by unfold clampI; omega
    go_wp2
    go_ret
    exact ⟨by rw [e]; rfl, rfl⟩
  · by_cases h2 : 0 < n
    · have e : clampI n = n := by unfold clampI; omega
      rw [e]
      have e2 : (if (1099511627776 : Int) < n then 1099511627776 else n) = n := if_neg h1
      go_wp2
      go_ret
      exact ⟨rfl, rfl⟩
    · have e : clampI n = 0 := by unfold clampI; omega
      rw [e]
      have e2 : (if (1099511627776 : Int) < n then 1099511627776 else n) = n := if_neg h1
      go_wp2
      go_ret
      exact ⟨rfl, rfl⟩
/-- The log that New makes. -/
def newG (index term : Int) (a b : List Int) (u v : Value) (gc : Nat) : Lg := ⟨clampI index, clampI term, [], [⟨clampI index, u, v, a, b⟩], .slice none 0 0, .slice (some ⟨gc, 0, none⟩) 1 1⟩
theorem newG_ok (index term : Int) (a b : List Int) (u v : Value) (gc : Nat) (ha : a.length ≤ 17592186044000) (hb : b.length ≤ 17592186044000) : LgOk (newG index term a b u v gc) := by
  refine ⟨?_, ?_, ?_, ?_, trivial, ⟨a, b, rfl⟩, fun y hy => ?_⟩
  · show 0 ≤ clampI index; unfold clampI; omega
  · show clampI index ≤ _; unfold clampI; omega
  · show 0 ≤ clampI term; unfold clampI; omega
  · show clampI term ≤ _; unfold clampI; omega
  · simp [newG] at hy; subst hy; exact ⟨ha, hb⟩
set_option maxHeartbeats 4000000 in
set_option maxRecDepth 20000 in
theorem new_any (index term : Int) (v1 v2 : Value) (n1 n2 : Nat) (f1 f2 : Nat → Int) (w : World) (h1 : NRowL w v1 n1 f1) (h2 : NRowL w v2 n2 f2) :
    Calls Try.prog 6 #[.int .i64 index, .int .i64 term, .agg #[v1, v2]] w fun e w' => ∃ lb gc u1 u2, e = .returned (.pointer (some ⟨lb, 0, none⟩)) ∧ Old w w' ∧ LogM w.heap.size lb (newG index term (lsI f1 n1) (lsI f2 n2) u1 u2 gc) w' ∧ LgOk (newG index term (lsI f1 n1) (lsI f2 n2) u1 u2 gc) := by
  have HC := hid (fun (W : World) (u : Old w W) => clone2 v1 v2 n1 n2 f1 f2 W (h1.old u) (h2.old u))
  have HN := hid (And.intro h1.1 h2.1)
  have HK1 := hid (fun W => clamp_any index W)
  have HK2 := hid (fun W => clamp_any term W)
  have HK := hid (fun u1 u2 gc => newG_ok index term (lsI f1 n1) (lsI f2 n2) u1 u2 gc (by rw [lsI_len]; exact HN.out.1) (by rw [lsI_len]; exact HN.out.2))
  unfold newG at HK ⊢
  generalize clampI index = ci at *
  generalize clampI term = ct at *
  obtain ⟨_, p1, c1, rfl, _⟩ := h1
  obtain ⟨_, p2, c2, rfl, _⟩ := h2
  have tok1 : True := trivial
  go_enter Try.func6, Try.ntmps6
  go_wp2_with (first | (go_at_call 29; have _t := tok1; clear tok1 _t; refine (HK1.out _).mono ?_; rintro e w1 ⟨rfl, rfl⟩) | (go_at_call 29; refine (HK2.out _).mono ?_; rintro e w1 ⟨rfl, rfl⟩) | (go_at_call 30; refine (HC.out _ ((Old.refl _).alloc _)).mono ?_; rintro e w2 ⟨u1, u2, rfl, r1, r2, o2⟩; have R1 := hid r1; have R2 := hid r2; have O2 := hid (((Old.refl w).alloc _).trans o2); obtain ⟨q1, d1, e1⟩ := r1.len; obtain ⟨q2, d2, e2⟩ := r2.len; subst e1 e2; clear r1 r2 o2))
  go_ret
  refine ⟨w2.heap.size + 1, w2.heap.size, .slice q1 (lsI f1 n1).length d1, .slice q2 (lsI f2 n2).length d2, rfl, (O2.out.alloc _).alloc _, ⟨?_, ?_, ⟨rfl, .inl ⟨rfl, rfl⟩⟩, ⟨rfl, .inr ⟨w2.heap.size, 0, 1, _, rfl, O2.out.size, alloc_keep (alloc_at w2 _), Nat.le_refl _, by unfold maxLen; omega, by simp, by simp [pcs, pcv]⟩⟩, (fun x hx => by cases hx), fun y hy => ?_⟩, HK.out _ _ _⟩
  · have := alloc_at (w2.alloc (.cells #[.int .i64 ci, .slice q1 (lsI f1 n1).length d1, .slice q2 (lsI f2 n2).length d2] 65)) (.cells #[.int .i64 ci, .int .i64 ct, .slice none 0 0, .slice (some ⟨w2.heap.size, 0, none⟩) 1 1] 68)
    simpa using this
  · have := O2.out.size; show w.heap.size ≤ w2.heap.size + 1; omega
  · simp at hy
    subst hy
    exact ⟨((R1.out.mono (Nat.zero_le _)).up ((Old.refl _).alloc _)).up ((Old.refl _).alloc _), ((R2.out.mono (Nat.zero_le _)).up ((Old.refl _).alloc _)).up ((Old.refl _).alloc _)⟩
end Go.Proofs.Ytgpfmohaogppiaa
