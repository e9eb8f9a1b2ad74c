/- conf.Next at every configuration; conditions: the rows lie in memory. -/
import Derived.Test.YtcicefpcledmgaaV5
namespace Go.Proofs.Ytcicefpcledmgaa
open Go.RowKit Go.Lib Go.Sort Go.Shelf
set_option linter.unusedVariables false
set_option linter.unusedSimpArgs false
set_option maxRecDepth 20000
abbrev BxS (cb : Nat) (a b : Value) : World → Prop := fun wz => wz.cell? ⟨cb, 0, none⟩ = some a ∧ wz.cell? ⟨cb, 1, none⟩ = some b
theorem BxS.old {cb : Nat} {a b : Value} {w w' : World} (u : Old w w') (h : BxS cb a b w) : BxS cb a b w' := ⟨u.keep h.1, u.keep h.2⟩
theorem BxS.setC {cb : Nat} {a b : Value} {w : World} (h : BxS cb a b w) (m : Nat) (vs : List Value) (hn : cb ≠ m) : BxS cb a b (w.setCells m 0 vs) :=
  ⟨(World.cell?_setCells_out m vs 0 w ⟨cb, 0, none⟩ (fun e => absurd e hn)).trans h.1, (World.cell?_setCells_out m vs 0 w ⟨cb, 1, none⟩ (fun e => absurd e hn)).trans h.2⟩
/-- A new variable of a configuration: its cells are rows, and may be written. -/
structure T2 (rb : Nat) (w : World) : Prop where
  a : w.cell? ⟨rb, 0, none⟩ = some (.slice none 0 0)
  b : w.cell? ⟨rb, 1, none⟩ = some (.slice none 0 0)
  f : w.frozen? ⟨rb, 0, none⟩ = false
  g : w.frozen? ⟨rb, 1, none⟩ = false
theorem T2.new (w : World) : T2 w.heap.size (w.alloc (.cells #[.slice none 0 0, .slice none 0 0] 24)) := ⟨by simp, by simp, by simp, by simp⟩
theorem T2.old {rb : Nat} {w w' : World} (u : Old w w') (h : T2 rb w) : T2 rb w' := ⟨u.keep h.a, u.keep h.b, u.keepF h.a h.f, u.keepF h.b h.g⟩
theorem T2.there {rb : Nat} {w : World} (h : T2 rb w) : w.there rb 0 2 := fun j hj => by
  rw [Nat.zero_add]
  match j, hj with
  | 0, _ => exact ⟨by rw [h.a]; rfl, h.f⟩
  | 1, _ => exact ⟨by rw [h.b]; rfl, h.g⟩
theorem Old.setCells {a : World} {b : Nat} (hb : a.heap.size ≤ b) : ∀ (vs : List Value) (o : Nat) {w : World}, Old a w → Old a (w.setCells b o vs)
  | [], _, _, h => h
  | v :: r, o, _, h => by rw [World.setCells]; exact Old.setCells hb r (o + 1) (h.setCell hb v)
theorem old_alloc {w w' : World} {o : Obj} (h : w' = w.alloc o) : Old w w' := by rw [h]; exact (Old.refl w).alloc o
theorem infoCf : (Try.prog.info? 24).map (·.size) = some 2 := by kernel_rfl
theorem stepStoreC {ops : Array Oper} {o : Oper} {a : Act} {w : World} {K : Act → World → Prop} {Q : Exit → Act → World → Prop} {E : Prop} (hg : o.guard = none) (x y : Operand) (hop : o.op = Op.store 24 x y) (m : Nat) (u v : Value)
    (hx : a.eval x = .pointer (some ⟨m, 0, none⟩)) (hy : a.eval y = .agg #[u, v]) (ht : w.there m 0 2) (h1 : u.oneCell' = true) (h2 : v.oneCell' = true)
    (hK : K (a.put o.dst undef) (w.setCells m 0 [u, v])) :
    if Region.wanted o (yielded ops a.tmps) = true then Oper.wp Try.prog o a w K Q else E := by
  have hw : Region.wanted o (yielded ops a.tmps) = true := by simp [Region.wanted, hg]
  rw [if_pos hw]
  exact wp_store_mid _ x y hop m 0 _ hx hy ht infoCf (by simp [h1, h2]) hK
theorem stepAllocC {ops : Array Oper} {o : Oper} {a : Act} {w : World} {K : Act → World → Prop} {Q : Exit → Act → World → Prop} {E : Prop} (hg : o.guard = none) (hop : o.op = Op.alloc 24)
    (hK : ∀ m w', m = w.heap.size → w' = w.alloc (.cells #[.slice none 0 0, .slice none 0 0] 24) → K (a.put o.dst (.pointer (some ⟨m, 0, none⟩))) w') :
    if Region.wanted o (yielded ops a.tmps) = true then Oper.wp Try.prog o a w K Q else E := by
  have hw : Region.wanted o (yielded ops a.tmps) = true := by simp [Region.wanted, hg]
  rw [if_pos hw]
  obtain ⟨d, p, t, ps, af, gd⟩ := o
  subst hop
  unfold Oper.wp execOp
  go_simp
  exact hK _ _ rfl rfl
theorem wantCall2 {P : Program} {ops : Array Oper} {o : Oper} {a : Act} {w : World} {K : Act → World → Prop} {Q : Exit → Act → World → Prop} {E : Prop} (hw : Region.wanted o (yielded ops a.tmps) = true) (F : FuncId) (x y : Operand) (ts : Array TypeId)
    (hop : o.op = Op.call { callee := Callee.value (Operand.func F), args := #[x, y], argTypes := ts }) (u v : Value) (hx : a.eval x = u) (hy : a.eval y = v) (hF : a.eval (Operand.func F) = .func (.func F) #[] #[])
    (henter : (callFunc F #[u, v]).run P w = .ok (.enter F #[u, v]) w)
    (hc : Calls P F #[u, v] w fun e w' => ∃ r, e = .returned r ∧ K (a.put o.dst r) w') :
    if Region.wanted o (yielded ops a.tmps) = true then Oper.wp P o a w K Q else E := by
  rw [if_pos hw]
  unfold Oper.wp
  simp [execOp, hop, resolve, invoke, hx, hy, hF, Deferred.ofValue]
  rw [henter]
  refine hc.mono ?_
  rintro e w' ⟨r, rfl, hk⟩
  exact hk
/-- The new configuration's variable, and its rows. -/
structure NxB (w3 : World) (nb : Nat) (v1 v2 : Value) (L1 L2 : List Int) (W : World) : Prop where
  u : Old w3 W
  z : w3.heap.size ≤ nb
  c0 : W.cell? ⟨nb, 0, none⟩ = some v1
  c1 : W.cell? ⟨nb, 1, none⟩ = some v2
  f0 : W.frozen? ⟨nb, 0, none⟩ = false
  f1 : W.frozen? ⟨nb, 1, none⟩ = false
  o1 : OwnI w3.heap.size W v1 L1
  o2 : OwnI w3.heap.size W v2 L2
  d1 : ∀ j, v1.ownBlock = some j → j ≠ nb
  d2 : ∀ j, v2.ownBlock = some j → j ≠ nb
  d12 : ∀ j, v1.ownBlock = some j → v2.ownBlock ≠ some j
theorem NxB.mk' {w3 W : World} {nb : Nat} {v1 v2 : Value} {L1 L2 : List Int} (u : Old w3 W) (z : w3.heap.size ≤ nb) (t : T2 nb W) (o1 : OwnI w3.heap.size W v1 L1) (o2 : OwnI w3.heap.size W v2 L2) (d1 : ∀ j, v1.ownBlock = some j → j ≠ nb) (d2 : ∀ j, v2.ownBlock = some j → j ≠ nb) (d12 : ∀ j, v1.ownBlock = some j → v2.ownBlock ≠ some j) :
    NxB w3 nb v1 v2 L1 L2 (W.setCells nb 0 [v1, v2]) := by
  have H := World.cell?_setCells_in nb [v1, v2] 0 W (fun j hj => (t.there j hj).1)
  have c : Chg [nb] W (W.setCells nb 0 [v1, v2]) := Chg.setCells (by simp) _ _ (Chg.refl _ W)
  exact ⟨Old.setCells z _ _ u, z, by simpa using H 0 (by simp), by simpa using H 1 (by simp), by rw [World.frozen?_setCells]; exact t.f, by rw [World.frozen?_setCells]; exact t.g, o1.chg c (fun g e => by simp; exact d1 g e), o2.chg c (fun g e => by simp; exact d2 g e), d1, d2, d12⟩
/-- The variable of the answer is apart from all that is new. -/
theorem NxB.out {w w3 W : World} {nb rb : Nat} {v1 v2 : Value} {L1 L2 : List Int} (h : NxB w3 nb v1 v2 L1 L2 W) (hw : Old w w3) (hz : w.heap.size ≤ rb) (hr : rb < w3.heap.size) : Old w ((W.setCell ⟨rb, 0, none⟩ v1).setCell ⟨rb, 1, none⟩ v2) ∧ OwnI w.heap.size ((W.setCell ⟨rb, 0, none⟩ v1).setCell ⟨rb, 1, none⟩ v2) v1 L1 ∧ OwnI w.heap.size ((W.setCell ⟨rb, 0, none⟩ v1).setCell ⟨rb, 1, none⟩ v2) v2 L2 := by
  have c : Chg [rb] W ((W.setCell ⟨rb, 0, none⟩ v1).setCell ⟨rb, 1, none⟩ v2) := (Chg.set W ⟨rb, 0, none⟩ v1 (by simp)).trans (Chg.set _ ⟨rb, 1, none⟩ v2 (by simp))
  have n1 : ∀ g, v1.ownBlock = some g → g ∉ [rb] := fun g e => by have := (World.ownsRow.lt h.o1 g e).1; simp; omega
  have n2 : ∀ g, v2.ownBlock = some g → g ∉ [rb] := fun g e => by have := (World.ownsRow.lt h.o2 g e).1; simp; omega
  exact ⟨((hw.trans h.u).setCell hz v1).setCell hz v2, (h.o1.chg c n1).mono hw.size, (h.o2.chg c n2).mono hw.size⟩
/-- One of the rows has grown: the variable's other cell, and the answer's, are as they were. -/
theorem NxB.far {w3 W w5 : World} {nb : Nat} {v1 v2 : Value} {L1 L2 : List Int} (h : NxB w3 nb v1 v2 L1 L2 W) {v : Value} (hv : v = v1 ∨ v = v2) (c : Chg v.ownBlock.toList W w5) : Old w3 w5 ∧ w5.cell? ⟨nb, 0, none⟩ = some v1 ∧ w5.cell? ⟨nb, 1, none⟩ = some v2 ∧ w5.frozen? ⟨nb, 0, none⟩ = false ∧ w5.frozen? ⟨nb, 1, none⟩ = false := by
  have hn : nb ∉ v.ownBlock.toList := fun e => by
    rw [Option.mem_toList] at e
    rcases hv with rfl | rfl
    · exact h.d1 nb e rfl
    · exact h.d2 nb e rfl
  have hb : ∀ k, k ∈ v.ownBlock.toList → w3.heap.size ≤ k := fun k e => by
    rw [Option.mem_toList] at e
    rcases hv with rfl | rfl
    · exact (World.ownsRow.lt h.o1 k e).1
    · exact (World.ownsRow.lt h.o2 k e).1
  have q := c.block nb (World.block_lt_of_cell? W ⟨nb, 0, none⟩ h.c0) hn
  exact ⟨h.u.below (c.below _ hb h.u.size), c.cell h.c0 hn, c.cell h.c1 hn, (World.frozen?_of_block (a := ⟨nb, 0, none⟩) q).trans h.f0, (World.frozen?_of_block (a := ⟨nb, 1, none⟩) q).trans h.f1⟩
theorem NxB.grow1 {w3 W w5 : World} {nb : Nat} {v1 v2 v5 : Value} {L1 L2 L5 : List Int} (h : NxB w3 nb v1 v2 L1 L2 W) (c : Chg v1.ownBlock.toList W w5) (o : OwnI w3.heap.size w5 v5 L5) (n : ∀ k, v5.ownBlock = some k → v1.ownBlock = some k ∨ W.heap.size ≤ k) : NxB w3 nb v5 v2 L5 L2 (w5.setCell ⟨nb, 0, none⟩ v5) := by
  obtain ⟨q0, q1, q2, q3, q4⟩ := h.far (.inl rfl) c
  have hlt := World.block_lt_of_cell? W ⟨nb, 0, none⟩ h.c0
  have d5 : ∀ j, v5.ownBlock = some j → j ≠ nb := fun j e => by rcases n j e with z | z; exact h.d1 j z; show j ≠ nb; have : nb < W.heap.size := hlt; omega
  have cs : Chg [nb] w5 (w5.setCell ⟨nb, 0, none⟩ v5) := Chg.set _ _ _ (by simp)
  have o2 := h.o2.chg c (fun g e => by rw [Option.mem_toList]; exact fun e2 => h.d12 g e2 e)
  exact ⟨q0.setCell h.z _, h.z, World.cell?_setCell_same _ _ _ q1, by rw [World.cell?_setCell_other _ _ _ _ (by simp)]; exact q2, by rw [World.frozen?_setCell]; exact q3, by rw [World.frozen?_setCell]; exact q4, o.chg cs (fun g e => by simp; exact d5 g e), o2.chg cs (fun g e => by simp; exact h.d2 g e), d5, h.d2, fun j e => by rcases n j e with z | z; exact h.d12 j z; intro e2; have := (World.ownsRow.lt h.o2 j e2).2; omega⟩
theorem NxB.grow2 {w3 W w5 : World} {nb : Nat} {v1 v2 v5 : Value} {L1 L2 L5 : List Int} (h : NxB w3 nb v1 v2 L1 L2 W) (c : Chg v2.ownBlock.toList W w5) (o : OwnI w3.heap.size w5 v5 L5) (n : ∀ k, v5.ownBlock = some k → v2.ownBlock = some k ∨ W.heap.size ≤ k) : NxB w3 nb v1 v5 L1 L5 (w5.setCell ⟨nb, 1, none⟩ v5) := by
  obtain ⟨q0, q1, q2, q3, q4⟩ := h.far (.inr rfl) c
  have hlt := World.block_lt_of_cell? W ⟨nb, 0, none⟩ h.c0
  have d5 : ∀ j, v5.ownBlock = some j → j ≠ nb := fun j e => by rcases n j e with z | z; exact h.d2 j z; show j ≠ nb; have : nb < W.heap.size := hlt; omega
  have cs : Chg [nb] w5 (w5.setCell ⟨nb, 1, none⟩ v5) := Chg.set _ _ _ (by simp)
  have o1 := h.o1.chg c (fun g e => by rw [Option.mem_toList]; exact fun e2 => h.d12 g e e2)
  exact ⟨q0.setCell h.z _, h.z, by rw [World.cell?_setCell_other _ _ _ _ (by simp)]; exact q1, World.cell?_setCell_same _ _ _ q2, by rw [World.frozen?_setCell]; exact q3, by rw [World.frozen?_setCell]; exact q4, o1.chg cs (fun g e => by simp; exact h.d1 g e), o.chg cs (fun g e => by simp; exact d5 g e), h.d1, d5, fun j e1 e => by rcases n j e with z | z; exact h.d12 j e1 z; have := (World.ownsRow.lt h.o1 j e1).2; omega⟩
theorem two_set {W : World} {rb : Nat} {p q : Value} (h0 : W.cell? ⟨rb, 0, none⟩ = some p) (h1 : W.cell? ⟨rb, 1, none⟩ = some q) (a b : Value) : ((W.setCell ⟨rb, 0, none⟩ a).setCell ⟨rb, 1, none⟩ b).cell? ⟨rb, 0, none⟩ = some a ∧ ((W.setCell ⟨rb, 0, none⟩ a).setCell ⟨rb, 1, none⟩ b).cell? ⟨rb, 1, none⟩ = some b := by
  refine ⟨?_, World.cell?_setCell_same _ _ _ (u := q) ?_⟩
  · rw [World.cell?_setCell_other _ _ _ _ (by simp)]; exact World.cell?_setCell_same _ _ _ h0
  · rw [World.cell?_setCell_other _ _ _ _ (by simp)]; exact h1
theorem riK_spec (f : Nat → Int) : ∀ k, riK f k = true → (∀ i, i < k → 1 ≤ f i ∧ f i ≤ 7) ∧ (∀ i j, i < j → j < k → f i < f j) ∧ (k : Int) ≤ lastK f k ∧ lastK f k ≤ 7
  | 0, _ => ⟨fun i hi => by omega, fun i j h1 h2 => by omega, by simp [lastK], by simp [lastK]⟩
  | k + 1, h => by
    unfold riK at h
    simp only [Bool.and_eq_true, decide_eq_true_eq] at h
    obtain ⟨a, b, c, d⟩ := riK_spec f k h.1
    have hp : ∀ i, i < k → f i ≤ lastK f k := by
      intro i hi
      cases k with
      | zero => omega
      | succ k' =>
        show f i ≤ f k'
        by_cases e : i = k'
        · rw [e]; exact Int.le_refl _
        · have := b i k' (by omega) (by omega); omega
    refine ⟨fun i hi => ?_, fun i j h1 h2 => ?_, ?_, ?_⟩
    · by_cases e : i = k
      · subst e; omega
      · exact a i (by omega)
    · by_cases e : j = k
      · subst e; have := hp i h1; omega
      · exact b i j h1 (by omega)
    · show ((k + 1 : Nat) : Int) ≤ f k; omega
    · exact h.2.2
theorem riK_few (f : Nat → Int) (k : Nat) (h : riK f k = true) : k ≤ 7 := by have := riK_spec f k h; omega
theorem riK_pw (f : Nat → Int) (k : Nat) (h : riK f k = true) : (lsI f k).Pairwise (· ≤ ·) := by
  obtain ⟨_, b, _⟩ := riK_spec f k h
  rw [List.pairwise_iff_getElem]
  intro i j hi hj hij
  rw [lsI_len] at hi hj
  have e1 := lsI_get f k i hi
  have e2 := lsI_get f k j hj
  rw [List.getD_eq_getElem?_getD, List.getElem?_eq_getElem (by rw [lsI_len]; exact hi)] at e1
  rw [List.getD_eq_getElem?_getD, List.getElem?_eq_getElem (by rw [lsI_len]; exact hj)] at e2
  simp at e1 e2
  rw [e1, e2]
  have := b i j hij hj
  omega
theorem keepX_pw {L : List Int} (x : Int) (h : L.Pairwise (· ≤ ·)) : (keepX x L).Pairwise (· ≤ ·) := h.filter _
theorem keepX_len (x : Int) (L : List Int) : (keepX x L).length ≤ L.length := List.length_filter_le _ _
def nxV (k x : Int) (L : List Int) : List Int := if k = 2 then putS x (keepX x L) else keepX x L
def nxL (k x : Int) (L : List Int) : List Int := if k = 1 then putS x (keepX x L) else keepX x L
/-- What Next answers. -/
def NxPost (w : World) (flt : Int) (V L : List Int) (e : Ending) (w' : World) : Prop := Old w w' ∧ ((flt ≠ 0 ∧ e = .returned (.tuple #[.agg #[.slice none 0 0, .slice none 0 0], .int .i64 flt])) ∨ (flt = 0 ∧ ∃ v1 v2, e = .returned (.tuple #[.agg #[v1, v2], .int .i64 0]) ∧ OwnI w.heap.size w' v1 V ∧ OwnI w.heap.size w' v2 L))
set_option maxHeartbeats 8000000 in
set_option maxRecDepth 20000 in
theorem next_any (v1 v2 : Value) (n m : Nat) (f g : Nat → Int) (k x : Int) (w : World) (h1 : NRowL w v1 n f) (h2 : NRowL w v2 m g) (s1 : Sh v1) (s2 : Sh v2) :
    Calls Try.prog 10 #[.agg #[v1, v2], .int .i64 k, .int .i64 x] w fun e w' => NxPost w (fltC n f m g k x) (nxV k x (lsI f n)) (nxL k x (lsI g m)) e w' := by
  have HF0 := hid (fun (W : World) (u : Old w W) => fault_any v1 v2 n m f g k x W (h1.old u) (h2.old u))
  have HW10 := hid (fun (W : World) (u : Old w W) => without_any v1 n f x W (h1.old u) s1)
  have HW20 := hid (fun (W : World) (u : Old w W) => without_any v2 m g x W (h2.old u) s2)
  obtain ⟨_, p1, c1, rfl, _⟩ := h1
  obtain ⟨_, p2, c2, rfl, _⟩ := h2
  clear s1 s2
  go_enter Try.func10, Try.ntmps10
  go_upto_region 1 with (fail)
  generalize hw1 : ((w.alloc (.cells #[.slice p1 n c1, .slice p2 m c2] 24)).alloc (.cells #[.slice none 0 0, .slice none 0 0] 24)) = w1
  have O1 := hid (show Old w w1 from by rw [← hw1]; exact ((Old.refl _).alloc _).alloc _)
  have hb1 : BxS w.heap.size (.slice p1 n c1) (.slice p2 m c2) w1 := by rw [← hw1]; exact ⟨((Old.refl _).alloc _).keep (by simp), ((Old.refl _).alloc _).keep (by simp)⟩
  have ht1 : T2 (w.heap.size + 1) w1 := by
    rw [← hw1]
    have q := T2.new (w.alloc (.cells #[.slice p1 n c1, .slice p2 m c2] 24))
    simpa using q
  have HZ := hid (show w.heap.size ≤ w.heap.size + 1 from by omega)
  clear hw1
  obtain ⟨rb, hrb⟩ : ∃ rb, w.heap.size + 1 = rb := ⟨_, rfl⟩
  obtain ⟨cb, hcb⟩ : ∃ cb, w.heap.size = cb := ⟨_, rfl⟩
  rw [hrb] at ht1 HZ ⊢
  rw [hcb] at hb1 ⊢
  have HBx1 := hid hb1
  have HT1 := hid ht1
  obtain ⟨x0, x1⟩ := hb1
  clear ht1
  go_upto_region 2 with (go_at_call 33; refine (HF0.out _ O1.out).mono ?_; rintro e w3 ⟨rfl, o3⟩; have O3 := hid (O1.out.trans o3); have HBx := hid (BxS.old o3 HBx1.out); have HT := hid (T2.old o3 HT1.out); clear o3)
  clear HF0 HBx1 HT1 x0 x1 O1
  cases hflt : decide (fltC n f m g k x = 0) with
  | false =>
    have hf0 : fltC n f m g k x ≠ 0 := by simpa using hflt
    have d0 : (fltC n f m g k x != 0) = true := by simp [hf0]
    have HF := hid hf0
    obtain ⟨t0, t1, tf0, tf1⟩ := HT.out
    clear hflt hf0
    have HE : Hid (∃ F, F = fltC n f m g k x) := hid ⟨_, rfl⟩
    generalize hF : fltC n f m g k x = F at *
    have HFE := hid hF
    clear hF HE
    go_wp2
    obtain ⟨z0, z1⟩ := two_set HT.out.a HT.out.b (.slice none 0 0) (.slice none 0 0)
    refine bodyPost_ret (v := .tuple #[.agg #[.slice none 0 0, .slice none 0 0], .int .i64 F]) (by simp [results, Try.results10, go_sem, z0, z1]) rfl ⟨(O3.out.setCell HZ.out _).setCell HZ.out _, .inl ⟨?_, ?_⟩⟩
    · first | exact HF.out | (rw [HFE.out]; exact HF.out)
    · first | rfl | (rw [HFE.out])
  | true =>
    have hf0 : fltC n f m g k x = 0 := by simpa using hflt
    have hR : rightB n f m g = true := by
      cases hR : rightB n f m g with
      | true => rfl
      | false => exfalso; unfold fltC at hf0; rw [if_pos (.inl hR)] at hf0; exact absurd hf0 (by decide)
    have d0 : (fltC n f m g k x != 0) = false := by simp [hf0]
    have HF := hid hf0
    unfold rightB at hR
    simp only [Bool.and_eq_true] at hR
    have H7f := hid (show (lsI f n).length ≤ 1000 from by rw [lsI_len]; have := riK_few f n hR.2.1; omega)
    have H7g := hid (show (lsI g m).length ≤ 1000 from by rw [lsI_len]; have := riK_few g m hR.2.2.1; omega)
    have HRf := hid (riK_pw f n hR.2.1)
    have HRg := hid (riK_pw g m hR.2.2.1)
    have HW1 := hid (fun (W : World) (u : Old w3 W) => HW10.out W (O3.out.trans u))
    have HW2 := hid (fun (W : World) (u : Old w3 W) => HW20.out W (O3.out.trans u))
    have HRl : Hid (rb < w3.heap.size) := hid (World.block_lt_of_cell? w3 ⟨rb, 0, none⟩ HT.out.a)
    have HCb : Hid (cb < w3.heap.size) := hid (World.block_lt_of_cell? w3 ⟨cb, 0, none⟩ HBx.out.1)
    clear hflt hR HW10 HW20
    rw [hf0]
    clear d0 hf0
    go_upto_region 4 with (fail)
    refine wp_region_noPanic ?_
    refine wp_region_held_drew (S := BxS cb (.slice p1 n c1) (.slice p2 m c2)) (by kernel_rfl) ?_ (fun hHeld => ?_)
    · exact BxS.old ((Old.refl w3).drew) HBx.out
    (try simp only [Act.put]); (try simp only [List.setIfInBounds_toArray]); (try simp only [List.set_cons_succ]); (try simp only [List.set_cons_zero])
    clear hHeld
    refine wpAnyH_take (i := 0) (oi := { dst := some 18, op := Op.fieldAddr 24 (Operand.tmp 3) 0, type := 0, pos := "conf.go:66", after := #[], guard := none }) (v := ?vk1) rfl (by kernel_rfl) (by kernel_rfl) (by kernel_rfl) (fun _ _ _ h => h) (Or.inl ⟨by rfl, ?hk1⟩) (BxS.old ((Old.refl w3).drew) HBx.out) ?rk1
    case hk1 => (intro wz hSw; (try dsimp only at hSw); go_simp; try with_reducible rfl)
    (try simp only [Act.put]); (try simp only [List.setIfInBounds_toArray]); (try simp only [List.set_cons_succ]); (try simp only [List.set_cons_zero])
    refine wpAnyH_take (i := 1) (oi := { dst := some 19, op := Op.load 22 (Operand.tmp 18), type := 22, pos := "conf.go:66", after := #[{ on := 0, ground := Ground.data }], guard := none }) (v := ?vk2) rfl (by kernel_rfl) (by kernel_rfl) (by kernel_rfl) (fun _ _ _ h => h) (Or.inl ⟨by rfl, ?hk2⟩) (BxS.old ((Old.refl w3).drew) HBx.out) ?rk2
    case hk2 => (intro wz hSw; (try dsimp only at hSw); go_simp; try with_reducible rfl)
    (try simp only [Act.put]); (try simp only [List.setIfInBounds_toArray]); (try simp only [List.set_cons_succ]); (try simp only [List.set_cons_zero])
    refine wpAnyH_take (i := 2) (oi := { dst := some 20, op := Op.move (Operand.tmp 2), type := 3, pos := "conf.go:66", after := #[], guard := none }) (v := ?vk3) rfl (by kernel_rfl) (by kernel_rfl) (by kernel_rfl) (fun _ _ _ h => h) (Or.inl ⟨by rfl, ?hk3⟩) (BxS.old ((Old.refl w3).drew) HBx.out) ?rk3
    case hk3 => (intro wz hSw; (try dsimp only at hSw); go_simp; try with_reducible rfl)
    (try simp only [Act.put]); (try simp only [List.setIfInBounds_toArray]); (try simp only [List.set_cons_succ]); (try simp only [List.set_cons_zero])
    refine wpAnyH_take (i := 4) (oi := { dst := some 22, op := Op.fieldAddr 24 (Operand.tmp 3) 1, type := 0, pos := "conf.go:66", after := #[], guard := none }) (v := ?vk4) rfl (by kernel_rfl) (by kernel_rfl) (by kernel_rfl) (fun _ _ _ h => h) (Or.inl ⟨by rfl, ?hk4⟩) (BxS.old ((Old.refl w3).drew) HBx.out) ?rk4
    case hk4 => (intro wz hSw; (try dsimp only at hSw); go_simp; try with_reducible rfl)
    (try simp only [Act.put]); (try simp only [List.setIfInBounds_toArray]); (try simp only [List.set_cons_succ]); (try simp only [List.set_cons_zero])
    refine wpAnyH_take (i := 5) (oi := { dst := some 23, op := Op.load 22 (Operand.tmp 22), type := 22, pos := "conf.go:66", after := #[{ on := 4, ground := Ground.data }], guard := none }) (v := ?vk5) rfl (by kernel_rfl) (by kernel_rfl) (by kernel_rfl) (fun _ _ _ h => h) (Or.inl ⟨by rfl, ?hk5⟩) (BxS.old ((Old.refl w3).drew) HBx.out) ?rk5
    case hk5 => (intro wz hSw; (try dsimp only at hSw); go_simp; try with_reducible rfl)
    (try simp only [Act.put]); (try simp only [List.setIfInBounds_toArray]); (try simp only [List.set_cons_succ]); (try simp only [List.set_cons_zero])
    refine wpAnyH_take (i := 6) (oi := { dst := some 24, op := Op.move (Operand.tmp 2), type := 3, pos := "conf.go:66", after := #[], guard := none }) (v := ?vk6) rfl (by kernel_rfl) (by kernel_rfl) (by kernel_rfl) (fun _ _ _ h => h) (Or.inl ⟨by rfl, ?hk6⟩) (BxS.old ((Old.refl w3).drew) HBx.out) ?rk6
    case hk6 => (intro wz hSw; (try dsimp only at hSw); go_simp; try with_reducible rfl)
    (try simp only [Act.put]); (try simp only [List.setIfInBounds_toArray]); (try simp only [List.set_cons_succ]); (try simp only [List.set_cons_zero])
    refine wpAnyH_ready (rs := [3, 9]) (by kernel_rfl) (by simp) ?_
    refine AllReadyH.cons (o := { dst := some 21, op := Op.call { callee := Callee.value (Operand.func 34), args := #[Operand.tmp 19, Operand.tmp 20], argTypes := #[22, 3] }, type := 22, pos := "conf.go:66", after := #[{ on := 1, ground := Ground.data }, { on := 2, ground := Ground.data }], guard := none }) rfl (fun K hK => ?_) (AllReadyH.cons (o := { dst := some 9, op := Op.alloc 24, type := 0, pos := "conf.go:66", after := #[], guard := none }) rfl (fun K hK => ?_) AllReadyH.nil)
    · skip
      refine wantCall2 ?_ 34 (.tmp 19) (.tmp 20) #[22, 3] ?_ (.slice p1 n c1) (.int .i64 x) ?_ ?_ ?_ (enters_of Try.func34 (by kernel_rfl) rfl _ _) ?_
      · rfl
      · rfl
      · rfl
      · rfl
      · rfl
      refine (HW1.out _ ((Old.refl w3).drew)).mono ?_
      rintro o x7 ⟨u7, rfl, q7, b7⟩
      refine ⟨_, rfl, ?_⟩
      obtain ⟨g1, a1, e1⟩ := q7.len
      subst e1
      have z7 := q7.mono (b' := w3.heap.size) ((Old.refl w3).drew).size
      clear q7
      have U7 := ((Old.refl w3).drew).trans b7
      have S7 := BxS.old b7 (BxS.old ((Old.refl w3).drew) HBx.out)
      refine hK.out _ _ S7 (fun _ => ?_)
      clear hK K
      (try simp only [Act.put]); (try simp only [List.setIfInBounds_toArray]); (try simp only [List.set_cons_succ]); (try simp only [List.set_cons_zero])
      refine wpAnyH_ready (rs := [7, 9]) (by kernel_rfl) (by simp) ?_
      refine AllReadyH.cons (o := { dst := some 25, op := Op.call { callee := Callee.value (Operand.func 34), args := #[Operand.tmp 23, Operand.tmp 24], argTypes := #[22, 3] }, type := 22, pos := "conf.go:66", after := #[{ on := 5, ground := Ground.data }, { on := 6, ground := Ground.data }, { on := 3, ground := Ground.chain }], guard := none }) rfl (fun K hK => ?_) (AllReadyH.cons (o := { dst := some 9, op := Op.alloc 24, type := 0, pos := "conf.go:66", after := #[], guard := none }) rfl (fun K hK => ?_) AllReadyH.nil)
      · skip
        refine wantCall2 ?_ 34 (.tmp 23) (.tmp 24) #[22, 3] ?_ (.slice p2 m c2) (.int .i64 x) ?_ ?_ ?_ (enters_of Try.func34 (by kernel_rfl) rfl _ _) ?_
        · rfl
        · rfl
        · rfl
        · rfl
        · rfl
        refine (HW2.out _ U7).mono ?_
        rintro o x8 ⟨u8, rfl, q8, b8⟩
        refine ⟨_, rfl, ?_⟩
        obtain ⟨g2, a2, e2⟩ := q8.len
        subst e2
        have D12 : ∀ j, (Value.slice g1 (keepX x (lsI f n)).length a1).ownBlock = some j → (Value.slice g2 (keepX x (lsI g m)).length a2).ownBlock ≠ some j := fun j e1 e2 => by have := (World.ownsRow.lt z7 j e1).2; have := (World.ownsRow.lt q8 j e2).1; omega
        have z8 := q8.mono (b' := w3.heap.size) U7.size
        clear q8
        have U8 := U7.trans b8
        have S8 := BxS.old b8 S7
        have r0_8 := z7.up b8
        refine hK.out _ _ S8 (fun _ => ?_)
        clear hK K
        (try simp only [Act.put]); (try simp only [List.setIfInBounds_toArray]); (try simp only [List.set_cons_succ]); (try simp only [List.set_cons_zero])
        refine wpAnyH_take (i := 8) (oi := { dst := some 26, op := Op.build 24 #[(0, Operand.tmp 21), (1, Operand.tmp 25)], type := 24, pos := "conf.go:66", after := #[{ on := 3, ground := Ground.data }, { on := 7, ground := Ground.data }], guard := none }) (v := ?vk9) rfl (by kernel_rfl) (by kernel_rfl) (by kernel_rfl) (fun _ _ _ h => h) (Or.inl ⟨by rfl, ?hk9⟩) S8 ?rk9
        case hk9 => (intro wz hSw; (try dsimp only at hSw); go_simp; try with_reducible rfl)
        (try simp only [Act.put]); (try simp only [List.setIfInBounds_toArray]); (try simp only [List.set_cons_succ]); (try simp only [List.set_cons_zero])
        refine wpAnyH_ready (rs := [9]) (by kernel_rfl) (by simp) ?_
        refine AllReadyH.cons (o := { dst := some 9, op := Op.alloc 24, type := 0, pos := "conf.go:66", after := #[], guard := none }) rfl (fun K hK => ?_) AllReadyH.nil
        · skip
          refine stepAllocC ?_ ?_ ?_
          · rfl
          · rfl
          intro m10 y10 hm10 hy10
          have b10 := old_alloc hy10
          have tt10 : T2 m10 y10 := by rw [hy10, hm10]; exact T2.new _
          have Z10 : w3.heap.size ≤ m10 := by rw [hm10]; exact U8.size
          have Dm1 : ∀ j, (Value.slice g1 (keepX x (lsI f n)).length a1).ownBlock = some j → j ≠ m10 := fun j e => by have := (World.ownsRow.lt r0_8 j e).2; omega
          have Dm2 : ∀ j, (Value.slice g2 (keepX x (lsI g m)).length a2).ownBlock = some j → j ≠ m10 := fun j e => by have := (World.ownsRow.lt z8 j e).2; omega
          have U10 := U8.trans b10
          have S10 := BxS.old b10 S8
          have r0_10 := r0_8.up b10
          have r1_10 := z8.up b10
          clear hm10 hy10
          refine hK.out _ _ S10 (fun _ => ?_)
          clear hK K
          (try simp only [Act.put]); (try simp only [List.setIfInBounds_toArray]); (try simp only [List.set_cons_succ]); (try simp only [List.set_cons_zero])
          refine wpAnyH_ready (rs := [10]) (by kernel_rfl) (by simp) ?_
          refine AllReadyH.cons (o := { dst := none, op := Op.store 24 (Operand.tmp 9) (Operand.tmp 26), type := 0, pos := "conf.go:66", after := #[{ on := 9, ground := Ground.data }, { on := 8, ground := Ground.data }, { on := 7, ground := Ground.chain }, { on := 0, ground := Ground.phase }, { on := 1, ground := Ground.phase }, { on := 2, ground := Ground.phase }, { on := 3, ground := Ground.phase }, { on := 4, ground := Ground.phase }, { on := 5, ground := Ground.phase }, { on := 6, ground := Ground.phase }, { on := 7, ground := Ground.phase }, { on := 8, ground := Ground.phase }, { on := 9, ground := Ground.phase }], guard := none }) rfl (fun K hK => ?_) AllReadyH.nil
          · skip
            refine stepStoreC ?_ (.tmp 9) (.tmp 26) ?_ m10 (.slice g1 (keepX x (lsI f n)).length a1) (.slice g2 (keepX x (lsI g m)).length a2) ?_ ?_ tt10.there rfl rfl ?_
            · rfl
            · rfl
            · rfl
            · rfl
            have N11 := NxB.mk' U10 Z10 tt10 r0_10 r1_10 Dm1 Dm2 D12
            have S11 := BxS.setC S10 m10 [.slice g1 (keepX x (lsI f n)).length a1, .slice g2 (keepX x (lsI g m)).length a2] (by have := Z10; have := HCb.out; omega)
            refine hK.out _ _ S11 (fun _ => ?_)
            clear hK K
            (try simp only [Act.put]); (try simp only [List.setIfInBounds_toArray]); (try simp only [List.set_cons_succ]); (try simp only [List.set_cons_zero])
            refine wpAnyH_done (by kernel_rfl) ?_ _
            refine NoPanic.normal ?_
            have NZ := hid N11
            generalize hwz : World.setCells _ m10 0 _ = wz at *
            clear hwz
            generalize m10 = nb at *
            simp only [Exit.then]
            clear HW1 HW2
            have x0 := NZ.out.c0
            have x1 := NZ.out.c1
            by_cases k1 : k = 1
            · subst k1
              have HWi := hid (with_any w3.heap.size _ (keepX x (lsI g m)) x wz (Nat.le_trans (keepX_len x _) H7g.out) NZ.out.o2 NZ.out.u.size (keepX_pw x HRg.out))
              go_upto_region 10 with (go_at_call 35; refine HWi.out.mono ?_; rintro e w5 ⟨v5, rfl, o5, c5, n5⟩; obtain ⟨g5, a5, e5⟩ := o5.len; subst e5; obtain ⟨_, b0, b1, bf0, bf1⟩ := NZ.out.far (.inr rfl) c5; have N5 := hid (NZ.out.grow2 c5 o5 n5); clear o5 c5 n5)
              clear b0 b1 bf0 bf1 x0 x1
              generalize hw6 : World.setCell _ ⟨nb, 1, none⟩ _ = w6 at *
              clear hw6
              obtain ⟨x0, x1⟩ := And.intro N5.out.c0 N5.out.c1
              obtain ⟨t0, t1, tf0, tf1⟩ := T2.old N5.out.u HT.out
              go_wp2
              obtain ⟨y1, y2, y3⟩ := N5.out.out O3.out HZ.out HRl.out
              obtain ⟨z0, z1⟩ := two_set (T2.old N5.out.u HT.out).a (T2.old N5.out.u HT.out).b (.slice g1 (keepX x (lsI f n)).length a1) (.slice g5 (putS x (keepX x (lsI g m))).length a5)
              refine bodyPost_ret (v := .tuple #[.agg #[.slice g1 (keepX x (lsI f n)).length a1, .slice g5 (putS x (keepX x (lsI g m))).length a5], .int .i64 0]) (by simp [results, Try.results10, go_sem, z0, z1]) rfl ⟨y1, .inr ⟨HF.out, _, _, rfl, ?_, ?_⟩⟩
              · simpa [nxV] using y2
              · simpa [nxL] using y3
            · have d1 : (k == 1) = false := by simp [k1]
              by_cases k2 : k = 2
              · subst k2
                have HWi := hid (with_any w3.heap.size _ (keepX x (lsI f n)) x wz (Nat.le_trans (keepX_len x _) H7f.out) NZ.out.o1 NZ.out.u.size (keepX_pw x HRf.out))
                go_upto_region 10 with (go_at_call 35; refine HWi.out.mono ?_; rintro e w5 ⟨v5, rfl, o5, c5, n5⟩; obtain ⟨g5, a5, e5⟩ := o5.len; subst e5; obtain ⟨_, b0, b1, bf0, bf1⟩ := NZ.out.far (.inl rfl) c5; have N5 := hid (NZ.out.grow1 c5 o5 n5); clear o5 c5 n5)
                clear b0 b1 bf0 bf1 x0 x1
                generalize hw6 : World.setCell _ ⟨nb, 0, none⟩ _ = w6 at *
                clear hw6
                obtain ⟨x0, x1⟩ := And.intro N5.out.c0 N5.out.c1
                obtain ⟨t0, t1, tf0, tf1⟩ := T2.old N5.out.u HT.out
                go_wp2
                obtain ⟨y1, y2, y3⟩ := N5.out.out O3.out HZ.out HRl.out
                obtain ⟨z0, z1⟩ := two_set (T2.old N5.out.u HT.out).a (T2.old N5.out.u HT.out).b (.slice g5 (putS x (keepX x (lsI f n))).length a5) (.slice g2 (keepX x (lsI g m)).length a2)
                refine bodyPost_ret (v := .tuple #[.agg #[.slice g5 (putS x (keepX x (lsI f n))).length a5, .slice g2 (keepX x (lsI g m)).length a2], .int .i64 0]) (by simp [results, Try.results10, go_sem, z0, z1]) rfl ⟨y1, .inr ⟨HF.out, _, _, rfl, ?_, ?_⟩⟩
                · simpa [nxV] using y2
                · simpa [nxL] using y3
              · have d2 : (k == 2) = false := by simp [k2]
                clear x0 x1
                obtain ⟨x0, x1⟩ := And.intro NZ.out.c0 NZ.out.c1
                obtain ⟨t0, t1, tf0, tf1⟩ := T2.old NZ.out.u HT.out
                go_wp2
                obtain ⟨y1, y2, y3⟩ := NZ.out.out O3.out HZ.out HRl.out
                obtain ⟨z0, z1⟩ := two_set (T2.old NZ.out.u HT.out).a (T2.old NZ.out.u HT.out).b (.slice g1 (keepX x (lsI f n)).length a1) (.slice g2 (keepX x (lsI g m)).length a2)
                refine bodyPost_ret (v := .tuple #[.agg #[.slice g1 (keepX x (lsI f n)).length a1, .slice g2 (keepX x (lsI g m)).length a2], .int .i64 0]) (by simp [results, Try.results10, go_sem, z0, z1]) rfl ⟨y1, .inr ⟨HF.out, _, _, rfl, ?_, ?_⟩⟩
                · simpa [nxV, k2] using y2
                · simpa [nxL, k1] using y3
      · skip
        refine stepAllocC ?_ ?_ ?_
        · rfl
        · rfl
        intro m12 y12 hm12 hy12
        have b12 := old_alloc hy12
        have tt12 : T2 m12 y12 := by rw [hy12, hm12]; exact T2.new _
        have Z12 : w3.heap.size ≤ m12 := by rw [hm12]; exact U7.size
        have Dm1 : ∀ j, (Value.slice g1 (keepX x (lsI f n)).length a1).ownBlock = some j → j ≠ m12 := fun j e => by have := (World.ownsRow.lt z7 j e).2; omega
        have U12 := U7.trans b12
        have S12 := BxS.old b12 S7
        have r0_12 := z7.up b12
        clear hm12 hy12
        refine hK.out _ _ S12 (fun _ => ?_)
        clear hK K
        (try simp only [Act.put]); (try simp only [List.setIfInBounds_toArray]); (try simp only [List.set_cons_succ]); (try simp only [List.set_cons_zero])
        refine wpAnyH_ready (rs := [7]) (by kernel_rfl) (by simp) ?_
        refine AllReadyH.cons (o := { dst := some 25, op := Op.call { callee := Callee.value (Operand.func 34), args := #[Operand.tmp 23, Operand.tmp 24], argTypes := #[22, 3] }, type := 22, pos := "conf.go:66", after := #[{ on := 5, ground := Ground.data }, { on := 6, ground := Ground.data }, { on := 3, ground := Ground.chain }], guard := none }) rfl (fun K hK => ?_) AllReadyH.nil
        · skip
          refine wantCall2 ?_ 34 (.tmp 23) (.tmp 24) #[22, 3] ?_ (.slice p2 m c2) (.int .i64 x) ?_ ?_ ?_ (enters_of Try.func34 (by kernel_rfl) rfl _ _) ?_
          · rfl
          · rfl
          · rfl
          · rfl
          · rfl
          refine (HW2.out _ U12).mono ?_
          rintro o x13 ⟨u13, rfl, q13, b13⟩
          refine ⟨_, rfl, ?_⟩
          obtain ⟨g2, a2, e2⟩ := q13.len
          subst e2
          have D12 : ∀ j, (Value.slice g1 (keepX x (lsI f n)).length a1).ownBlock = some j → (Value.slice g2 (keepX x (lsI g m)).length a2).ownBlock ≠ some j := fun j e1 e2 => by have := (World.ownsRow.lt r0_12 j e1).2; have := (World.ownsRow.lt q13 j e2).1; omega
          have Dm2 : ∀ j, (Value.slice g2 (keepX x (lsI g m)).length a2).ownBlock = some j → j ≠ m12 := fun j e => by have := (World.ownsRow.lt q13 j e).1; have := World.block_lt_of_cell? _ _ tt12.a; simp at this; omega
          have z13 := q13.mono (b' := w3.heap.size) U12.size
          clear q13
          have U13 := U12.trans b13
          have S13 := BxS.old b13 S12
          have r0_13 := r0_12.up b13
          have t_13 := T2.old b13 tt12
          refine hK.out _ _ S13 (fun _ => ?_)
          clear hK K
          (try simp only [Act.put]); (try simp only [List.setIfInBounds_toArray]); (try simp only [List.set_cons_succ]); (try simp only [List.set_cons_zero])
          refine wpAnyH_take (i := 8) (oi := { dst := some 26, op := Op.build 24 #[(0, Operand.tmp 21), (1, Operand.tmp 25)], type := 24, pos := "conf.go:66", after := #[{ on := 3, ground := Ground.data }, { on := 7, ground := Ground.data }], guard := none }) (v := ?vk14) rfl (by kernel_rfl) (by kernel_rfl) (by kernel_rfl) (fun _ _ _ h => h) (Or.inl ⟨by rfl, ?hk14⟩) S13 ?rk14
          case hk14 => (intro wz hSw; (try dsimp only at hSw); go_simp; try with_reducible rfl)
          (try simp only [Act.put]); (try simp only [List.setIfInBounds_toArray]); (try simp only [List.set_cons_succ]); (try simp only [List.set_cons_zero])
          refine wpAnyH_ready (rs := [10]) (by kernel_rfl) (by simp) ?_
          refine AllReadyH.cons (o := { dst := none, op := Op.store 24 (Operand.tmp 9) (Operand.tmp 26), type := 0, pos := "conf.go:66", after := #[{ on := 9, ground := Ground.data }, { on := 8, ground := Ground.data }, { on := 7, ground := Ground.chain }, { on := 0, ground := Ground.phase }, { on := 1, ground := Ground.phase }, { on := 2, ground := Ground.phase }, { on := 3, ground := Ground.phase }, { on := 4, ground := Ground.phase }, { on := 5, ground := Ground.phase }, { on := 6, ground := Ground.phase }, { on := 7, ground := Ground.phase }, { on := 8, ground := Ground.phase }, { on := 9, ground := Ground.phase }], guard := none }) rfl (fun K hK => ?_) AllReadyH.nil
          · skip
            refine stepStoreC ?_ (.tmp 9) (.tmp 26) ?_ m12 (.slice g1 (keepX x (lsI f n)).length a1) (.slice g2 (keepX x (lsI g m)).length a2) ?_ ?_ t_13.there rfl rfl ?_
            · rfl
            · rfl
            · rfl
            · rfl
            have N15 := NxB.mk' U13 Z12 t_13 r0_13 z13 Dm1 Dm2 D12
            have S15 := BxS.setC S13 m12 [.slice g1 (keepX x (lsI f n)).length a1, .slice g2 (keepX x (lsI g m)).length a2] (by have := Z12; have := HCb.out; omega)
            refine hK.out _ _ S15 (fun _ => ?_)
            clear hK K
            (try simp only [Act.put]); (try simp only [List.setIfInBounds_toArray]); (try simp only [List.set_cons_succ]); (try simp only [List.set_cons_zero])
            refine wpAnyH_done (by kernel_rfl) ?_ _
            refine NoPanic.normal ?_
            have NZ := hid N15
            generalize hwz : World.setCells _ m12 0 _ = wz at *
            clear hwz
            generalize m12 = nb at *
            simp only [Exit.then]
            clear HW1 HW2
            have x0 := NZ.out.c0
            have x1 := NZ.out.c1
            by_cases k1 : k = 1
            · subst k1
              have HWi := hid (with_any w3.heap.size _ (keepX x (lsI g m)) x wz (Nat.le_trans (keepX_len x _) H7g.out) NZ.out.o2 NZ.out.u.size (keepX_pw x HRg.out))
              go_upto_region 10 with (go_at_call 35; refine HWi.out.mono ?_; rintro e w5 ⟨v5, rfl, o5, c5, n5⟩; obtain ⟨g5, a5, e5⟩ := o5.len; subst e5; obtain ⟨_, b0, b1, bf0, bf1⟩ := NZ.out.far (.inr rfl) c5; have N5 := hid (NZ.out.grow2 c5 o5 n5); clear o5 c5 n5)
              clear b0 b1 bf0 bf1 x0 x1
              generalize hw6 : World.setCell _ ⟨nb, 1, none⟩ _ = w6 at *
              clear hw6
              obtain ⟨x0, x1⟩ := And.intro N5.out.c0 N5.out.c1
              obtain ⟨t0, t1, tf0, tf1⟩ := T2.old N5.out.u HT.out
              go_wp2
              obtain ⟨y1, y2, y3⟩ := N5.out.out O3.out HZ.out HRl.out
              obtain ⟨z0, z1⟩ := two_set (T2.old N5.out.u HT.out).a (T2.old N5.out.u HT.out).b (.slice g1 (keepX x (lsI f n)).length a1) (.slice g5 (putS x (keepX x (lsI g m))).length a5)
              refine bodyPost_ret (v := .tuple #[.agg #[.slice g1 (keepX x (lsI f n)).length a1, .slice g5 (putS x (keepX x (lsI g m))).length a5], .int .i64 0]) (by simp [results, Try.results10, go_sem, z0, z1]) rfl ⟨y1, .inr ⟨HF.out, _, _, rfl, ?_, ?_⟩⟩
              · simpa [nxV] using y2
              · simpa [nxL] using y3
            · have d1 : (k == 1) = false := by simp [k1]
              by_cases k2 : k = 2
              · subst k2
                have HWi := hid (with_any w3.heap.size _ (keepX x (lsI f n)) x wz (Nat.le_trans (keepX_len x _) H7f.out) NZ.out.o1 NZ.out.u.size (keepX_pw x HRf.out))
                go_upto_region 10 with (go_at_call 35; refine HWi.out.mono ?_; rintro e w5 ⟨v5, rfl, o5, c5, n5⟩; obtain ⟨g5, a5, e5⟩ := o5.len; subst e5; obtain ⟨_, b0, b1, bf0, bf1⟩ := NZ.out.far (.inl rfl) c5; have N5 := hid (NZ.out.grow1 c5 o5 n5); clear o5 c5 n5)
                clear b0 b1 bf0 bf1 x0 x1
                generalize hw6 : World.setCell _ ⟨nb, 0, none⟩ _ = w6 at *
                clear hw6
                obtain ⟨x0, x1⟩ := And.intro N5.out.c0 N5.out.c1
                obtain ⟨t0, t1, tf0, tf1⟩ := T2.old N5.out.u HT.out
                go_wp2
                obtain ⟨y1, y2, y3⟩ := N5.out.out O3.out HZ.out HRl.out
                obtain ⟨z0, z1⟩ := two_set (T2.old N5.out.u HT.out).a (T2.old N5.out.u HT.out).b (.slice g5 (putS x (keepX x (lsI f n))).length a5) (.slice g2 (keepX x (lsI g m)).length a2)
                refine bodyPost_ret (v := .tuple #[.agg #[.slice g5 (putS x (keepX x (lsI f n))).length a5, .slice g2 (keepX x (lsI g m)).length a2], .int .i64 0]) (by simp [results, Try.results10, go_sem, z0, z1]) rfl ⟨y1, .inr ⟨HF.out, _, _, rfl, ?_, ?_⟩⟩
                · simpa [nxV] using y2
                · simpa [nxL] using y3
              · have d2 : (k == 2) = false := by simp [k2]
                clear x0 x1
                obtain ⟨x0, x1⟩ := And.intro NZ.out.c0 NZ.out.c1
                obtain ⟨t0, t1, tf0, tf1⟩ := T2.old NZ.out.u HT.out
                go_wp2
                obtain ⟨y1, y2, y3⟩ := NZ.out.out O3.out HZ.out HRl.out
                obtain ⟨z0, z1⟩ := two_set (T2.old NZ.out.u HT.out).a (T2.old NZ.out.u HT.out).b (.slice g1 (keepX x (lsI f n)).length a1) (.slice g2 (keepX x (lsI g m)).length a2)
                refine bodyPost_ret (v := .tuple #[.agg #[.slice g1 (keepX x (lsI f n)).length a1, .slice g2 (keepX x (lsI g m)).length a2], .int .i64 0]) (by simp [results, Try.results10, go_sem, z0, z1]) rfl ⟨y1, .inr ⟨HF.out, _, _, rfl, ?_, ?_⟩⟩
                · simpa [nxV, k2] using y2
                · simpa [nxL, k1] using y3
    · skip
      refine stepAllocC ?_ ?_ ?_
      · rfl
      · rfl
      intro m16 y16 hm16 hy16
      have b16 := old_alloc hy16
      have tt16 : T2 m16 y16 := by rw [hy16, hm16]; exact T2.new _
      have Z16 : w3.heap.size ≤ m16 := by rw [hm16]; exact ((Old.refl w3).drew).size
      have U16 := ((Old.refl w3).drew).trans b16
      have S16 := BxS.old b16 (BxS.old ((Old.refl w3).drew) HBx.out)
      clear hm16 hy16
      refine hK.out _ _ S16 (fun _ => ?_)
      clear hK K
      (try simp only [Act.put]); (try simp only [List.setIfInBounds_toArray]); (try simp only [List.set_cons_succ]); (try simp only [List.set_cons_zero])
      refine wpAnyH_ready (rs := [3]) (by kernel_rfl) (by simp) ?_
      refine AllReadyH.cons (o := { dst := some 21, op := Op.call { callee := Callee.value (Operand.func 34), args := #[Operand.tmp 19, Operand.tmp 20], argTypes := #[22, 3] }, type := 22, pos := "conf.go:66", after := #[{ on := 1, ground := Ground.data }, { on := 2, ground := Ground.data }], guard := none }) rfl (fun K hK => ?_) AllReadyH.nil
      · skip
        refine wantCall2 ?_ 34 (.tmp 19) (.tmp 20) #[22, 3] ?_ (.slice p1 n c1) (.int .i64 x) ?_ ?_ ?_ (enters_of Try.func34 (by kernel_rfl) rfl _ _) ?_
        · rfl
        · rfl
        · rfl
        · rfl
        · rfl
        refine (HW1.out _ U16).mono ?_
        rintro o x17 ⟨u17, rfl, q17, b17⟩
        refine ⟨_, rfl, ?_⟩
        obtain ⟨g1, a1, e1⟩ := q17.len
        subst e1
        have Dm1 : ∀ j, (Value.slice g1 (keepX x (lsI f n)).length a1).ownBlock = some j → j ≠ m16 := fun j e => by have := (World.ownsRow.lt q17 j e).1; have := World.block_lt_of_cell? _ _ tt16.a; simp at this; omega
        have z17 := q17.mono (b' := w3.heap.size) U16.size
        clear q17
        have U17 := U16.trans b17
        have S17 := BxS.old b17 S16
        have t_17 := T2.old b17 tt16
        refine hK.out _ _ S17 (fun _ => ?_)
        clear hK K
        (try simp only [Act.put]); (try simp only [List.setIfInBounds_toArray]); (try simp only [List.set_cons_succ]); (try simp only [List.set_cons_zero])
        refine wpAnyH_ready (rs := [7]) (by kernel_rfl) (by simp) ?_
        refine AllReadyH.cons (o := { dst := some 25, op := Op.call { callee := Callee.value (Operand.func 34), args := #[Operand.tmp 23, Operand.tmp 24], argTypes := #[22, 3] }, type := 22, pos := "conf.go:66", after := #[{ on := 5, ground := Ground.data }, { on := 6, ground := Ground.data }, { on := 3, ground := Ground.chain }], guard := none }) rfl (fun K hK => ?_) AllReadyH.nil
        · skip
          refine wantCall2 ?_ 34 (.tmp 23) (.tmp 24) #[22, 3] ?_ (.slice p2 m c2) (.int .i64 x) ?_ ?_ ?_ (enters_of Try.func34 (by kernel_rfl) rfl _ _) ?_
          · rfl
          · rfl
          · rfl
          · rfl
          · rfl
          refine (HW2.out _ U17).mono ?_
          rintro o x18 ⟨u18, rfl, q18, b18⟩
          refine ⟨_, rfl, ?_⟩
          obtain ⟨g2, a2, e2⟩ := q18.len
          subst e2
          have D12 : ∀ j, (Value.slice g1 (keepX x (lsI f n)).length a1).ownBlock = some j → (Value.slice g2 (keepX x (lsI g m)).length a2).ownBlock ≠ some j := fun j e1 e2 => by have := (World.ownsRow.lt z17 j e1).2; have := (World.ownsRow.lt q18 j e2).1; omega
          have Dm2 : ∀ j, (Value.slice g2 (keepX x (lsI g m)).length a2).ownBlock = some j → j ≠ m16 := fun j e => by have := (World.ownsRow.lt q18 j e).1; have := World.block_lt_of_cell? _ _ t_17.a; simp at this; omega
          have z18 := q18.mono (b' := w3.heap.size) U17.size
          clear q18
          have U18 := U17.trans b18
          have S18 := BxS.old b18 S17
          have r0_18 := z17.up b18
          have t_18 := T2.old b18 t_17
          refine hK.out _ _ S18 (fun _ => ?_)
          clear hK K
          (try simp only [Act.put]); (try simp only [List.setIfInBounds_toArray]); (try simp only [List.set_cons_succ]); (try simp only [List.set_cons_zero])
          refine wpAnyH_take (i := 8) (oi := { dst := some 26, op := Op.build 24 #[(0, Operand.tmp 21), (1, Operand.tmp 25)], type := 24, pos := "conf.go:66", after := #[{ on := 3, ground := Ground.data }, { on := 7, ground := Ground.data }], guard := none }) (v := ?vk19) rfl (by kernel_rfl) (by kernel_rfl) (by kernel_rfl) (fun _ _ _ h => h) (Or.inl ⟨by rfl, ?hk19⟩) S18 ?rk19
          case hk19 => (intro wz hSw; (try dsimp only at hSw); go_simp; try with_reducible rfl)
          (try simp only [Act.put]); (try simp only [List.setIfInBounds_toArray]); (try simp only [List.set_cons_succ]); (try simp only [List.set_cons_zero])
          refine wpAnyH_ready (rs := [10]) (by kernel_rfl) (by simp) ?_
          refine AllReadyH.cons (o := { dst := none, op := Op.store 24 (Operand.tmp 9) (Operand.tmp 26), type := 0, pos := "conf.go:66", after := #[{ on := 9, ground := Ground.data }, { on := 8, ground := Ground.data }, { on := 7, ground := Ground.chain }, { on := 0, ground := Ground.phase }, { on := 1, ground := Ground.phase }, { on := 2, ground := Ground.phase }, { on := 3, ground := Ground.phase }, { on := 4, ground := Ground.phase }, { on := 5, ground := Ground.phase }, { on := 6, ground := Ground.phase }, { on := 7, ground := Ground.phase }, { on := 8, ground := Ground.phase }, { on := 9, ground := Ground.phase }], guard := none }) rfl (fun K hK => ?_) AllReadyH.nil
          · skip
            refine stepStoreC ?_ (.tmp 9) (.tmp 26) ?_ m16 (.slice g1 (keepX x (lsI f n)).length a1) (.slice g2 (keepX x (lsI g m)).length a2) ?_ ?_ t_18.there rfl rfl ?_
            · rfl
            · rfl
            · rfl
            · rfl
            have N20 := NxB.mk' U18 Z16 t_18 r0_18 z18 Dm1 Dm2 D12
            have S20 := BxS.setC S18 m16 [.slice g1 (keepX x (lsI f n)).length a1, .slice g2 (keepX x (lsI g m)).length a2] (by have := Z16; have := HCb.out; omega)
            refine hK.out _ _ S20 (fun _ => ?_)
            clear hK K
            (try simp only [Act.put]); (try simp only [List.setIfInBounds_toArray]); (try simp only [List.set_cons_succ]); (try simp only [List.set_cons_zero])
            refine wpAnyH_done (by kernel_rfl) ?_ _
            refine NoPanic.normal ?_
            have NZ := hid N20
            generalize hwz : World.setCells _ m16 0 _ = wz at *
            clear hwz
            generalize m16 = nb at *
            simp only [Exit.then]
            clear HW1 HW2
            have x0 := NZ.out.c0
            have x1 := NZ.out.c1
            by_cases k1 : k = 1
            · subst k1
              have HWi := hid (with_any w3.heap.size _ (keepX x (lsI g m)) x wz (Nat.le_trans (keepX_len x _) H7g.out) NZ.out.o2 NZ.out.u.size (keepX_pw x HRg.out))
              go_upto_region 10 with (go_at_call 35; refine HWi.out.mono ?_; rintro e w5 ⟨v5, rfl, o5, c5, n5⟩; obtain ⟨g5, a5, e5⟩ := o5.len; subst e5; obtain ⟨_, b0, b1, bf0, bf1⟩ := NZ.out.far (.inr rfl) c5; have N5 := hid (NZ.out.grow2 c5 o5 n5); clear o5 c5 n5)
              clear b0 b1 bf0 bf1 x0 x1
              generalize hw6 : World.setCell _ ⟨nb, 1, none⟩ _ = w6 at *
              clear hw6
              obtain ⟨x0, x1⟩ := And.intro N5.out.c0 N5.out.c1
              obtain ⟨t0, t1, tf0, tf1⟩ := T2.old N5.out.u HT.out
              go_wp2
              obtain ⟨y1, y2, y3⟩ := N5.out.out O3.out HZ.out HRl.out
              obtain ⟨z0, z1⟩ := two_set (T2.old N5.out.u HT.out).a (T2.old N5.out.u HT.out).b (.slice g1 (keepX x (lsI f n)).length a1) (.slice g5 (putS x (keepX x (lsI g m))).length a5)
              refine bodyPost_ret (v := .tuple #[.agg #[.slice g1 (keepX x (lsI f n)).length a1, .slice g5 (putS x (keepX x (lsI g m))).length a5], .int .i64 0]) (by simp [results, Try.results10, go_sem, z0, z1]) rfl ⟨y1, .inr ⟨HF.out, _, _, rfl, ?_, ?_⟩⟩
              · simpa [nxV] using y2
              · simpa [nxL] using y3
            · have d1 : (k == 1) = false := by simp [k1]
              by_cases k2 : k = 2
              · subst k2
                have HWi := hid (with_any w3.heap.size _ (keepX x (lsI f n)) x wz (Nat.le_trans (keepX_len x _) H7f.out) NZ.out.o1 NZ.out.u.size (keepX_pw x HRf.out))
                go_upto_region 10 with (go_at_call 35; refine HWi.out.mono ?_; rintro e w5 ⟨v5, rfl, o5, c5, n5⟩; obtain ⟨g5, a5, e5⟩ := o5.len; subst e5; obtain ⟨_, b0, b1, bf0, bf1⟩ := NZ.out.far (.inl rfl) c5; have N5 := hid (NZ.out.grow1 c5 o5 n5); clear o5 c5 n5)
                clear b0 b1 bf0 bf1 x0 x1
                generalize hw6 : World.setCell _ ⟨nb, 0, none⟩ _ = w6 at *
                clear hw6
                obtain ⟨x0, x1⟩ := And.intro N5.out.c0 N5.out.c1
                obtain ⟨t0, t1, tf0, tf1⟩ := T2.old N5.out.u HT.out
                go_wp2
                obtain ⟨y1, y2, y3⟩ := N5.out.out O3.out HZ.out HRl.out
                obtain ⟨z0, z1⟩ := two_set (T2.old N5.out.u HT.out).a (T2.old N5.out.u HT.out).b (.slice g5 (putS x (keepX x (lsI f n))).length a5) (.slice g2 (keepX x (lsI g m)).length a2)
                refine bodyPost_ret (v := .tuple #[.agg #[.slice g5 (putS x (keepX x (lsI f n))).length a5, .slice g2 (keepX x (lsI g m)).length a2], .int .i64 0]) (by simp [results, Try.results10, go_sem, z0, z1]) rfl ⟨y1, .inr ⟨HF.out, _, _, rfl, ?_, ?_⟩⟩
                · simpa [nxV] using y2
                · simpa [nxL] using y3
              · have d2 : (k == 2) = false := by simp [k2]
                clear x0 x1
                obtain ⟨x0, x1⟩ := And.intro NZ.out.c0 NZ.out.c1
                obtain ⟨t0, t1, tf0, tf1⟩ := T2.old NZ.out.u HT.out
                go_wp2
                obtain ⟨y1, y2, y3⟩ := NZ.out.out O3.out HZ.out HRl.out
                obtain ⟨z0, z1⟩ := two_set (T2.old NZ.out.u HT.out).a (T2.old NZ.out.u HT.out).b (.slice g1 (keepX x (lsI f n)).length a1) (.slice g2 (keepX x (lsI g m)).length a2)
                refine bodyPost_ret (v := .tuple #[.agg #[.slice g1 (keepX x (lsI f n)).length a1, .slice g2 (keepX x (lsI g m)).length a2], .int .i64 0]) (by simp [results, Try.results10, go_sem, z0, z1]) rfl ⟨y1, .inr ⟨HF.out, _, _, rfl, ?_, ?_⟩⟩
                · simpa [nxV, k2] using y2
                · simpa [nxL, k1] using y3
end Go.Proofs.Ytcicefpcledmgaa
