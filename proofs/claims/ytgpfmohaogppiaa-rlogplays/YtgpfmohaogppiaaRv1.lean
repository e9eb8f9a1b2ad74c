/- What the document's Load of layer 15 needs, at every configuration; conditions: the rows lie in memory. -/
import Derived.Test.YtgpfmohaogppiaaRl20
import Derived.Deep.RegionHeld3
import Derived.Test.YtgpfmohaogppiaaV9
namespace Go.Proofs.Ytgpfmohaogppiaa
open Go.RowKit Go.Lib
set_option linter.unusedVariables false
set_option linter.unusedSimpArgs false
set_option maxRecDepth 20000
def Blk (w : World) (g : Nat) (t : TypeId) (s : Nat) : Prop := ∃ cur, w.heap[g]? = some (.cells cur t (0, 0)) ∧ cur.size = s
theorem OwnI.blk {base : Nat} {w : World} {g n cap : Nat} {L : List Int} (h : OwnI base w (.slice (some ⟨g, 0, none⟩) n cap) L) : Blk w g 3 cap ∧ base ≤ g ∧ n = L.length ∧ n ≤ cap ∧ cap ≤ maxLen ∧ ∀ j, j < L.length → w.cell? ⟨g, j, none⟩ = some (.int .i64 (L.getD j 0)) := by
  have h2 := h
  unfold OwnI at h2
  rcases h2.2 with ⟨e, _⟩ | ⟨g', cap', cur, e, hb, hg, hnc, hcm, hcs, htk⟩
  · cases e
  · cases e
    refine ⟨⟨cur, hg, by omega⟩, hb, rfl, hnc, hcm, fun j hj => ?_⟩
    rw [h2.cellAt j (by omega)]
    simp [ils, List.getD_eq_getElem?_getD, hj]
theorem two_set {W : World} {rb : Nat} {p q : Value} (h0 : W.cell? ⟨rb, 0, none⟩ = some p) (h1 : W.cell? ⟨rb, 1, none⟩ = some q) (a b : Value) : ((W.setCell ⟨rb, 0, none⟩ a).setCell ⟨rb, 1, none⟩ b).cell? ⟨rb, 0, none⟩ = some a ∧ ((W.setCell ⟨rb, 0, none⟩ a).setCell ⟨rb, 1, none⟩ b).cell? ⟨rb, 1, none⟩ = some b := by
  refine ⟨?_, World.cell?_setCell_same _ _ _ (u := q) ?_⟩
  · rw [World.cell?_setCell_other _ _ _ _ (by simp)]; exact World.cell?_setCell_same _ _ _ h0
  · rw [World.cell?_setCell_other _ _ _ _ (by simp)]; exact h1
theorem old_alloc {w w' : World} {o : Obj} (h : w' = w.alloc o) : Old w w' := by rw [h]; exact (Old.refl w).alloc o
theorem stepAllocC {ops : Array Oper} {o : Oper} {a : Act} {w : World} {K : Act → World → Prop} {Q : Exit → Act → World → Prop} {E : Prop} (hg : o.guard = none) (hop : o.op = Op.alloc 24)
    (hK : ∀ m w', m = w.heap.size → w' = w.alloc (.cells #[.slice none 0 0, .slice none 0 0] 24) → K (a.put o.dst (.pointer (some ⟨m, 0, none⟩))) w') :
    if Region.wanted o (yielded ops a.tmps) = true then Oper.wp Try.prog o a w K Q else E := by
  have hw : Region.wanted o (yielded ops a.tmps) = true := by simp [Region.wanted, hg]
  rw [if_pos hw]
  obtain ⟨d, p, t, ps, af, gd⟩ := o
  subst hop
  unfold Oper.wp execOp
  go_simp
  exact hK _ _ rfl rfl
theorem T2.new (w : World) : T2 w.heap.size (w.alloc (.cells #[.slice none 0 0, .slice none 0 0] 24)) := ⟨by simp, by simp, by simp, by simp⟩
theorem BxS.setC {cb : Nat} {a b : Value} {w : World} (h : BxS cb a b w) (m : Nat) (vs : List Value) (hn : cb ≠ m) : BxS cb a b (w.setCells m 0 vs) :=
  ⟨(World.cell?_setCells_out m vs 0 w ⟨cb, 0, none⟩ (fun e => absurd e hn)).trans h.1, (World.cell?_setCells_out m vs 0 w ⟨cb, 1, none⟩ (fun e => absurd e hn)).trans h.2⟩
theorem anyK_congr {p q : Nat → Bool} : ∀ n, (∀ i, i < n → p i = q i) → anyK p n = anyK q n
  | 0, _ => rfl
  | n + 1, h => by unfold anyK; rw [anyK_congr n (fun i hi => h i (by omega)), h n (by omega)]
theorem riK_congr {f g : Nat → Int} : ∀ n, (∀ i, i < n → f i = g i) → riK f n = riK g n
  | 0, _ => rfl
  | n + 1, h => by
    unfold riK
    have e : lastK f n = lastK g n := by
      cases n with
      | zero => rfl
      | succ k => exact h k (by omega)
    rw [riK_congr n (fun i hi => h i (by omega)), h n (by omega), e]
theorem rightB_congr {n m : Nat} {f g f' g' : Nat → Int} (h1 : ∀ i, i < n → f i = f' i) (h2 : ∀ i, i < m → g i = g' i) : rightB n f m g = rightB n f' m g' := by
  unfold rightB
  rw [riK_congr n h1, riK_congr m h2, anyK_congr n (fun i hi => ?_)]
  show anyK _ m = anyK _ m
  rw [h1 i hi]
  exact anyK_congr m (fun j hj => by rw [h2 j hj])
theorem wantCall1 {P : Program} {ops : Array Oper} {o : Oper} {a : Act} {w : World} {K : Act → World → Prop} {Q : Exit → Act → World → Prop} {E : Prop} (hw : Region.wanted o (yielded ops a.tmps) = true) (F : FuncId) (x : Operand) (ts : Array TypeId)
    (hop : o.op = Op.call { callee := Callee.value (Operand.func F), args := #[x], argTypes := ts }) (v : Value) (hx : a.eval x = v) (hF : a.eval (Operand.func F) = .func (.func F) #[] #[])
    (henter : (callFunc F #[v]).run P w = .ok (.enter F #[v]) w)
    (hc : Calls P F #[v] w fun e w' => ∃ r, e = .returned r ∧ K (a.put o.dst r) w') :
    if Region.wanted o (yielded ops a.tmps) = true then Oper.wp P o a w K Q else E := by
  rw [if_pos hw]
  unfold Oper.wp
  simp [execOp, hop, resolve, invoke, hx, hF, Deferred.ofValue]
  rw [henter]
  refine hc.mono ?_
  rintro e w' ⟨r, rfl, hk⟩
  exact hk
theorem NRowL.congr {w : World} {v : Value} {n : Nat} {f g : Nat → Int} (h : NRowL w v n f) (e : ∀ i, i < n → f i = g i) : NRowL w v n g := by
  obtain ⟨a, p, c, r, b1, b2, hc⟩ := h
  exact ⟨a, p, c, r, b1, b2, fun i hi => by obtain ⟨x, o, q, z⟩ := hc i hi; exact ⟨x, o, q, by rw [z, e i hi]⟩⟩
theorem OwnI.empty {base g : Nat} {w : World} (hb : base ≤ w.heap.size) (hg : w.heap.size = g) : OwnI base (w.alloc (.cells #[] 3)) (.slice (some ⟨g, 0, none⟩) 0 0) [] := by
  subst hg
  have h := World.ownsRow_made (base := base) (e := 3) (size := 1) w #[] 0 hb (by unfold maxLen; omega) rfl
  exact h
theorem own_where {base : Nat} {w : World} {t1 : Option Addr} {z1 : Nat} {L : List Int} (o : OwnI base w (.slice t1 L.length z1) L) : 0 < L.length → ∃ g, t1 = some ⟨g, 0, none⟩ ∧ base ≤ g ∧ g < w.heap.size ∧ L.length ≤ z1 ∧ Blk w g 3 z1 := by
  intro hl
  have o' := o
  unfold OwnI at o'
  rcases o'.2 with ⟨e, e0⟩ | ⟨g, cap, cur, e, _⟩
  · omega
  · cases e
    obtain ⟨b, hb, _, hc, _⟩ := o.blk
    exact ⟨g, rfl, hb, (World.ownsRow.lt o g rfl).2, hc, b⟩
abbrev R3 (a : Addr) (x : Value) (b : Addr) (y : Value) (c : Addr) (z : Value) : World → Prop := fun wz => wz.cell? a = some x ∧ wz.cell? b = some y ∧ wz.cell? c = some z
theorem R3.old {a b c : Addr} {x y z : Value} {w w' : World} (u : Old w w') (h : R3 a x b y c z w) : R3 a x b y c z w' := ⟨u.keep h.1, u.keep h.2.1, u.keep h.2.2⟩
theorem hasK_yes {f : Nat → Int} {x : Int} {n k : Nat} (hk : k < n) (e : f k = x) : hasK f x n = true := anyK_at _ n k hk (by simp [e])
theorem hasK_no {f : Nat → Int} {x : Int} {n : Nat} (h : ∀ i, i < n → f i ≠ x) : hasK f x n = false := by
  cases e : hasK f x n with
  | false => rfl
  | true =>
    obtain ⟨i, hi, q⟩ := (anyK_iff _ n).1 e
    exact absurd (by simpa using q : x = f i).symm (h i hi)
abbrev R1 (a : Addr) (x : Value) : World → Prop := fun wz => wz.cell? a = some x
theorem R1.old {a : Addr} {x : Value} {w w' : World} (u : Old w w') (h : R1 a x w) : R1 a x w' := u.keep h
abbrev R2 (a : Addr) (x : Value) (b : Addr) (y : Value) : World → Prop := fun wz => wz.cell? a = some x ∧ wz.cell? b = some y
theorem R2.old {a b : Addr} {x y : Value} {w w' : World} (u : Old w w') (h : R2 a x b y w) : R2 a x b y w' := ⟨u.keep h.1, u.keep h.2⟩
/-- How many of the first so many are such. -/
def cntQ (f : Nat → Int) (q : Int → Bool) : Nat → Nat | 0 => 0 | k + 1 => cntQ f q k + (if q (f k) = true then 1 else 0)
theorem cntQ_succ (f : Nat → Int) (q : Int → Bool) (k : Nat) : cntQ f q (k + 1) = cntQ f q k + (if q (f k) = true then 1 else 0) := rfl
theorem cntQ_le (f : Nat → Int) (q : Int → Bool) : ∀ n, cntQ f q n ≤ n
  | 0 => Nat.le_refl _
  | n + 1 => by have := cntQ_le f q n; unfold cntQ; split <;> omega
theorem lastK_ge {f : Nat → Int} {k : Nat} (h : riK f k = true) : (0 : Int) ≤ lastK f k := by
  cases k with
  | zero => simp [lastK]
  | succ k =>
    unfold riK at h
    rw [Bool.and_eq_true, Bool.and_eq_true, decide_eq_true_eq, decide_eq_true_eq] at h
    have ih := lastK_ge h.1
    simp only [lastK]
    omega
theorem anyK_no {p : Nat → Bool} {n : Nat} (h : ∀ i, i < n → p i = false) : anyK p n = false := by
  cases e : anyK p n with
  | false => rfl
  | true =>
    obtain ⟨i, hi, q⟩ := (anyK_iff _ n).1 e
    rw [h i hi] at q
    cases q
set_option maxHeartbeats 1000000 in
set_option maxRecDepth 20000 in
theorem rHas_any (v : Value) (n : Nat) (f : Nat → Int) (x : Int) (w : World) (hv : NRowL w v n f) :
    Calls Try.prog 73 #[v, .int .i64 x] w fun e w' => e = .returned (.bool (hasK f x n)) ∧ Old w w' := by
  obtain ⟨hm, p, c, rfl, _, _, hc⟩ := hv
  have HC := hid hc
  have hmm : (n : Int) ≤ 17592186044000 := by omega
  have HY := hid (fun (i : Nat) (hi : i < n) (e : f i = x) => hasK_yes hi e)
  have HNo := hid (fun (h : ∀ i, i < n → f i ≠ x) => hasK_no h)
  generalize hasK f x n = r at *
  clear hc hm
  go_enter Try.func73, Try.ntmps73
  go_wp2
  go_loopw [5] (fun i wr => ∃ k : Nat, k ≤ n ∧ i = .int .i64 (k : Nat) ∧ (∀ i, i < k → f i ≠ x) ∧ Old w wr) (fun i _ => n - (intOf i).toNat)
  case atStart => exact ⟨0, Nat.zero_le _, rfl, fun i hi => by omega, Old.refl _⟩
  case round =>
    obtain ⟨k, hk, rfl, h0, hu⟩ := hrel
    have H0 := hid h0
    clear h0
    by_cases hlt : k < n
    · obtain ⟨g, off, e1, c0⟩ := HC.out k hlt
      subst e1
      have x0 := hu.keep c0
      have l1 : (0 : Int) ≤ (k : Int) := by omega
      have l2 : (k : Int) < (n : Int) := by omega
      clear c0 HC
      by_cases q : f k = x
      · have HR := hid (HY.out k hlt q)
        have t : (f k == x) = true := by rw [beq_iff_eq]; exact q
        generalize f k = y at *
        clear q HY HNo H0
        go_wp2
        go_ret
        exact ⟨ret_b (by rw [HR.out]), hu⟩
      · have HS := hid (show ∀ i, i < k + 1 → f i ≠ x from fun i hi => by
          by_cases e : i = k
          · rw [e]; exact q
          · exact H0.out i (by omega))
        have t : (f k == x) = false := by rw [beq_eq_false_iff_ne]; exact q
        generalize f k = y at *
        clear q HY HNo H0
        go_wp2
        go_roundw
        case rel => exact ⟨k + 1, hlt, by go_num, HS.out, hu⟩
        case measure => simp [intOf]; omega
    · obtain rfl : n = k := by omega
      have HR := hid (HNo.out H0.out)
      clear HC HY HNo H0
      go_wp2
      go_ret
      exact ⟨ret_b (by rw [HR.out]), hu⟩
set_option maxHeartbeats 4000000 in
set_option maxRecDepth 20000 in
theorem rRising_any (v : Value) (n : Nat) (f : Nat → Int) (w : World) (hv : NRowL w v n f) :
    Calls Try.prog 72 #[v] w fun e w' => e = .returned (.bool (riK f n)) ∧ Old w w' := by
  obtain ⟨hm, p, c, rfl, _, _, hc⟩ := hv
  have HC := hid hc
  have hmm : (n : Int) ≤ 17592186044000 := by omega
  clear hc hm
  go_enter Try.func72, Try.ntmps72
  go_wp2
  go_loopw [3] (fun i wr => ∃ k : Nat, k ≤ n ∧ i = .int .i64 (k : Nat) ∧ riK f k = true ∧ Old w wr) (fun i _ => n - (intOf i).toNat)
  case atStart => exact ⟨0, Nat.zero_le _, rfl, rfl, Old.refl _⟩
  case round =>
    obtain ⟨k, hk, rfl, h0, hu⟩ := hrel
    have H0 := hid h0
    have hge := lastK_ge h0
    clear h0
    by_cases hlt : k < n
    · obtain ⟨g, off, e1, c0⟩ := HC.out k hlt
      subst e1
      have x0 := hu.keep c0
      have l1 : (0 : Int) ≤ (k : Int) := by omega
      have l2 : (k : Int) < (n : Int) := by omega
      clear c0
      have HSt := hid (riK_stop f k)
      have HGo := hid (show (decide (lastK f k < f k) && decide (f k ≤ 7)) = true → riK f (k + 1) = true from fun e => by unfold riK; rw [H0.out, e]; rfl)
      by_cases q1 : f k < 1
      · have HR := hid (HSt.out (by rw [Bool.and_eq_false_iff]; left; simp; omega) n hlt)
        generalize f k = y at *
        clear HC HSt HGo H0 hge
        have HX := hid (show R1 ⟨g, off + k, none⟩ (.int .i64 y) wr from x0)
        go_upto_region 4 with (fail)
        clear x0
        refine wp_region_noPanic ?_
        refine wp_region_held_drew (S := R1 ⟨g, off + k, none⟩ (.int .i64 y)) (by kernel_rfl) ?_ (fun hHeld => ?_)
        · exact R1.old ((Old.refl wr).drew) HX.out
        (try simp only [Act.put]); (try simp only [List.setIfInBounds_toArray]); (try simp only [List.set_cons_succ]); (try simp only [List.set_cons_zero])
        clear hHeld
        refine wpAnyH_take (i := 0) (oi := { dst := some 10, op := Op.move (Operand.tmp 0), type := 22, pos := "ref.go:29", after := #[], guard := none }) (v := ?vk1) rfl (by kernel_rfl) (by kernel_rfl) (by kernel_rfl) (fun _ _ _ h => h) (Or.inl ⟨by rfl, ?hk1⟩) (R1.old ((Old.refl wr).drew) HX.out) ?rk1
        case hk1 => (intro wz hSw; (try dsimp only at hSw); go_simp; try with_reducible rfl)
        (try simp only [Act.put]); (try simp only [List.setIfInBounds_toArray]); (try simp only [List.set_cons_succ]); (try simp only [List.set_cons_zero])
        refine wpAnyH_take (i := 1) (oi := { dst := some 11, op := Op.move (Operand.tmp 3), type := 3, pos := "ref.go:29", after := #[], guard := none }) (v := ?vk2) rfl (by kernel_rfl) (by kernel_rfl) (by kernel_rfl) (fun _ _ _ h => h) (Or.inl ⟨by rfl, ?hk2⟩) (R1.old ((Old.refl wr).drew) HX.out) ?rk2
        case hk2 => (intro wz hSw; (try dsimp only at hSw); go_simp; try with_reducible rfl)
        (try simp only [Act.put]); (try simp only [List.setIfInBounds_toArray]); (try simp only [List.set_cons_succ]); (try simp only [List.set_cons_zero])
        refine wpAnyH_take (i := 2) (oi := { dst := some 12, op := Op.indexAddr 22 (Operand.tmp 10) (Operand.tmp 11), type := 0, pos := "ref.go:29", after := #[{ on := 0, ground := Ground.data }, { on := 1, ground := Ground.data }], guard := none }) (v := ?vk3) rfl (by kernel_rfl) (by kernel_rfl) (by kernel_rfl) (fun _ _ _ h => h) (Or.inl ⟨by rfl, ?hk3⟩) (R1.old ((Old.refl wr).drew) HX.out) ?rk3
        case hk3 => (intro wz hSw; (try dsimp only at hSw); go_simp; try with_reducible rfl)
        (try simp only [Act.put]); (try simp only [List.setIfInBounds_toArray]); (try simp only [List.set_cons_succ]); (try simp only [List.set_cons_zero])
        refine wpAnyH_take (i := 3) (oi := { dst := some 13, op := Op.load 3 (Operand.tmp 12), type := 3, pos := "ref.go:29", after := #[{ on := 2, ground := Ground.data }], guard := none }) (v := ?vk4) rfl (by kernel_rfl) (by kernel_rfl) (by kernel_rfl) (fun _ _ _ h => h) (Or.inl ⟨by rfl, ?hk4⟩) (R1.old ((Old.refl wr).drew) HX.out) ?rk4
        case hk4 => (intro wz hSw; (try dsimp only at hSw); go_simp; try with_reducible rfl)
        (try simp only [Act.put]); (try simp only [List.setIfInBounds_toArray]); (try simp only [List.set_cons_succ]); (try simp only [List.set_cons_zero])
        refine wpAnyH_take (i := 4) (oi := { dst := some 14, op := Op.binOp BinOp.lss 3 (Operand.tmp 13) (Operand.const (Value.int IntKind.i64 1)) 3, type := 4, pos := "ref.go:29", after := #[{ on := 3, ground := Ground.data }], guard := none }) (v := ?vk5) rfl (by kernel_rfl) (by kernel_rfl) (by kernel_rfl) (fun _ _ _ h => h) (Or.inl ⟨by rfl, ?hk5⟩) (R1.old ((Old.refl wr).drew) HX.out) ?rk5
        case hk5 => (intro wz hSw; (try dsimp only at hSw); go_simp; try with_reducible rfl)
        (try simp only [Act.put]); (try simp only [List.setIfInBounds_toArray]); (try simp only [List.set_cons_succ]); (try simp only [List.set_cons_zero])
        refine wpAnyH_take (i := 5) (oi := { dst := some 15, op := Op.move (Operand.tmp 14), type := 4, pos := "ref.go:29", after := #[{ on := 4, ground := Ground.data }], guard := none }) (v := ?vk6) rfl (by kernel_rfl) (by kernel_rfl) (by kernel_rfl) (fun _ _ _ h => h) (Or.inl ⟨by rfl, ?hk6⟩) (R1.old ((Old.refl wr).drew) HX.out) ?rk6
        case hk6 => (intro wz hSw; (try dsimp only at hSw); go_simp; try with_reducible rfl)
        (try simp only [Act.put]); (try simp only [List.setIfInBounds_toArray]); (try simp only [List.set_cons_succ]); (try simp only [List.set_cons_zero])
        refine wpAnyH_take (i := 6) (oi := { dst := some 16, op := Op.move (Operand.tmp 0), type := 22, pos := "ref.go:29", after := #[{ on := 5, ground := Ground.guard }], guard := some (5, false) }) (v := undef) rfl (by kernel_rfl) (by kernel_rfl) (by kernel_rfl) (fun _ _ _ h => h) (Or.inr ⟨by rfl, rfl⟩) (R1.old ((Old.refl wr).drew) HX.out) ?_
        (try simp only [Act.put]); (try simp only [List.setIfInBounds_toArray]); (try simp only [List.set_cons_succ]); (try simp only [List.set_cons_zero])
        refine wpAnyH_take (i := 7) (oi := { dst := some 17, op := Op.move (Operand.tmp 3), type := 3, pos := "ref.go:29", after := #[{ on := 5, ground := Ground.guard }], guard := some (5, false) }) (v := undef) rfl (by kernel_rfl) (by kernel_rfl) (by kernel_rfl) (fun _ _ _ h => h) (Or.inr ⟨by rfl, rfl⟩) (R1.old ((Old.refl wr).drew) HX.out) ?_
        (try simp only [Act.put]); (try simp only [List.setIfInBounds_toArray]); (try simp only [List.set_cons_succ]); (try simp only [List.set_cons_zero])
        refine wpAnyH_take (i := 8) (oi := { dst := some 18, op := Op.indexAddr 22 (Operand.tmp 16) (Operand.tmp 17), type := 0, pos := "ref.go:29", after := #[{ on := 6, ground := Ground.data }, { on := 7, ground := Ground.data }, { on := 5, ground := Ground.guard }], guard := some (5, false) }) (v := undef) rfl (by kernel_rfl) (by kernel_rfl) (by kernel_rfl) (fun _ _ _ h => h) (Or.inr ⟨by rfl, rfl⟩) (R1.old ((Old.refl wr).drew) HX.out) ?_
        (try simp only [Act.put]); (try simp only [List.setIfInBounds_toArray]); (try simp only [List.set_cons_succ]); (try simp only [List.set_cons_zero])
        refine wpAnyH_take (i := 9) (oi := { dst := some 19, op := Op.load 3 (Operand.tmp 18), type := 3, pos := "ref.go:29", after := #[{ on := 8, ground := Ground.data }, { on := 5, ground := Ground.guard }], guard := some (5, false) }) (v := undef) rfl (by kernel_rfl) (by kernel_rfl) (by kernel_rfl) (fun _ _ _ h => h) (Or.inr ⟨by rfl, rfl⟩) (R1.old ((Old.refl wr).drew) HX.out) ?_
        (try simp only [Act.put]); (try simp only [List.setIfInBounds_toArray]); (try simp only [List.set_cons_succ]); (try simp only [List.set_cons_zero])
        refine wpAnyH_take (i := 10) (oi := { dst := some 20, op := Op.binOp BinOp.gtr 3 (Operand.tmp 19) (Operand.const (Value.int IntKind.i64 7)) 3, type := 4, pos := "ref.go:29", after := #[{ on := 9, ground := Ground.data }, { on := 5, ground := Ground.guard }], guard := some (5, false) }) (v := undef) rfl (by kernel_rfl) (by kernel_rfl) (by kernel_rfl) (fun _ _ _ h => h) (Or.inr ⟨by rfl, rfl⟩) (R1.old ((Old.refl wr).drew) HX.out) ?_
        (try simp only [Act.put]); (try simp only [List.setIfInBounds_toArray]); (try simp only [List.set_cons_succ]); (try simp only [List.set_cons_zero])
        refine wpAnyH_take (i := 11) (oi := { dst := some 21, op := Op.pick (Operand.tmp 15) (Operand.const (Value.bool true)) (Operand.tmp 20), type := 4, pos := "ref.go:29", after := #[{ on := 5, ground := Ground.data }, { on := 10, ground := Ground.data }], guard := none }) (v := ?vk7) rfl (by kernel_rfl) (by kernel_rfl) (by kernel_rfl) (fun _ _ _ h => h) (Or.inl ⟨by rfl, ?hk7⟩) (R1.old ((Old.refl wr).drew) HX.out) ?rk7
        case hk7 => (intro wz hSw; (try dsimp only at hSw); go_simp; try with_reducible rfl)
        (try simp only [Act.put]); (try simp only [List.setIfInBounds_toArray]); (try simp only [List.set_cons_succ]); (try simp only [List.set_cons_zero])
        refine wpAnyH_take (i := 12) (oi := { dst := some 22, op := Op.move (Operand.tmp 21), type := 4, pos := "ref.go:29", after := #[{ on := 11, ground := Ground.data }, { on := 5, ground := Ground.chain }], guard := none }) (v := ?vk8) rfl (by kernel_rfl) (by kernel_rfl) (by kernel_rfl) (fun _ _ _ h => h) (Or.inl ⟨by rfl, ?hk8⟩) (R1.old ((Old.refl wr).drew) HX.out) ?rk8
        case hk8 => (intro wz hSw; (try dsimp only at hSw); go_simp; try with_reducible rfl)
        (try simp only [Act.put]); (try simp only [List.setIfInBounds_toArray]); (try simp only [List.set_cons_succ]); (try simp only [List.set_cons_zero])
        refine wpAnyH_take (i := 13) (oi := { dst := some 23, op := Op.move (Operand.tmp 3), type := 3, pos := "ref.go:29", after := #[{ on := 12, ground := Ground.guard }], guard := some (12, false) }) (v := undef) rfl (by kernel_rfl) (by kernel_rfl) (by kernel_rfl) (fun _ _ _ h => h) (Or.inr ⟨by rfl, rfl⟩) (R1.old ((Old.refl wr).drew) HX.out) ?_
        (try simp only [Act.put]); (try simp only [List.setIfInBounds_toArray]); (try simp only [List.set_cons_succ]); (try simp only [List.set_cons_zero])
        refine wpAnyH_take (i := 14) (oi := { dst := some 24, op := Op.binOp BinOp.gtr 3 (Operand.tmp 23) (Operand.const (Value.int IntKind.i64 0)) 3, type := 4, pos := "ref.go:29", after := #[{ on := 13, ground := Ground.data }, { on := 12, ground := Ground.guard }], guard := some (12, false) }) (v := undef) rfl (by kernel_rfl) (by kernel_rfl) (by kernel_rfl) (fun _ _ _ h => h) (Or.inr ⟨by rfl, rfl⟩) (R1.old ((Old.refl wr).drew) HX.out) ?_
        (try simp only [Act.put]); (try simp only [List.setIfInBounds_toArray]); (try simp only [List.set_cons_succ]); (try simp only [List.set_cons_zero])
        refine wpAnyH_take (i := 15) (oi := { dst := some 25, op := Op.move (Operand.tmp 24), type := 4, pos := "ref.go:29", after := #[{ on := 14, ground := Ground.data }, { on := 12, ground := Ground.chain }, { on := 12, ground := Ground.guard }], guard := some (12, false) }) (v := undef) rfl (by kernel_rfl) (by kernel_rfl) (by kernel_rfl) (fun _ _ _ h => h) (Or.inr ⟨by rfl, rfl⟩) (R1.old ((Old.refl wr).drew) HX.out) ?_
        (try simp only [Act.put]); (try simp only [List.setIfInBounds_toArray]); (try simp only [List.set_cons_succ]); (try simp only [List.set_cons_zero])
        refine wpAnyH_take (i := 16) (oi := { dst := some 26, op := Op.move (Operand.tmp 0), type := 22, pos := "ref.go:29", after := #[{ on := 15, ground := Ground.guard }], guard := some (15, true) }) (v := undef) rfl (by kernel_rfl) (by kernel_rfl) (by kernel_rfl) (fun _ _ _ h => h) (Or.inr ⟨by rfl, rfl⟩) (R1.old ((Old.refl wr).drew) HX.out) ?_
        (try simp only [Act.put]); (try simp only [List.setIfInBounds_toArray]); (try simp only [List.set_cons_succ]); (try simp only [List.set_cons_zero])
        refine wpAnyH_take (i := 17) (oi := { dst := some 27, op := Op.move (Operand.tmp 3), type := 3, pos := "ref.go:29", after := #[{ on := 15, ground := Ground.guard }], guard := some (15, true) }) (v := undef) rfl (by kernel_rfl) (by kernel_rfl) (by kernel_rfl) (fun _ _ _ h => h) (Or.inr ⟨by rfl, rfl⟩) (R1.old ((Old.refl wr).drew) HX.out) ?_
        (try simp only [Act.put]); (try simp only [List.setIfInBounds_toArray]); (try simp only [List.set_cons_succ]); (try simp only [List.set_cons_zero])
        refine wpAnyH_take (i := 18) (oi := { dst := some 28, op := Op.indexAddr 22 (Operand.tmp 26) (Operand.tmp 27), type := 0, pos := "ref.go:29", after := #[{ on := 16, ground := Ground.data }, { on := 17, ground := Ground.data }, { on := 15, ground := Ground.guard }], guard := some (15, true) }) (v := undef) rfl (by kernel_rfl) (by kernel_rfl) (by kernel_rfl) (fun _ _ _ h => h) (Or.inr ⟨by rfl, rfl⟩) (R1.old ((Old.refl wr).drew) HX.out) ?_
        (try simp only [Act.put]); (try simp only [List.setIfInBounds_toArray]); (try simp only [List.set_cons_succ]); (try simp only [List.set_cons_zero])
        refine wpAnyH_take (i := 19) (oi := { dst := some 29, op := Op.load 3 (Operand.tmp 28), type := 3, pos := "ref.go:29", after := #[{ on := 18, ground := Ground.data }, { on := 15, ground := Ground.guard }], guard := some (15, true) }) (v := undef) rfl (by kernel_rfl) (by kernel_rfl) (by kernel_rfl) (fun _ _ _ h => h) (Or.inr ⟨by rfl, rfl⟩) (R1.old ((Old.refl wr).drew) HX.out) ?_
        (try simp only [Act.put]); (try simp only [List.setIfInBounds_toArray]); (try simp only [List.set_cons_succ]); (try simp only [List.set_cons_zero])
        refine wpAnyH_take (i := 20) (oi := { dst := some 30, op := Op.move (Operand.tmp 0), type := 22, pos := "ref.go:29", after := #[{ on := 15, ground := Ground.guard }], guard := some (15, true) }) (v := undef) rfl (by kernel_rfl) (by kernel_rfl) (by kernel_rfl) (fun _ _ _ h => h) (Or.inr ⟨by rfl, rfl⟩) (R1.old ((Old.refl wr).drew) HX.out) ?_
        (try simp only [Act.put]); (try simp only [List.setIfInBounds_toArray]); (try simp only [List.set_cons_succ]); (try simp only [List.set_cons_zero])
        refine wpAnyH_take (i := 21) (oi := { dst := some 31, op := Op.move (Operand.tmp 3), type := 3, pos := "ref.go:29", after := #[{ on := 15, ground := Ground.guard }], guard := some (15, true) }) (v := undef) rfl (by kernel_rfl) (by kernel_rfl) (by kernel_rfl) (fun _ _ _ h => h) (Or.inr ⟨by rfl, rfl⟩) (R1.old ((Old.refl wr).drew) HX.out) ?_
        (try simp only [Act.put]); (try simp only [List.setIfInBounds_toArray]); (try simp only [List.set_cons_succ]); (try simp only [List.set_cons_zero])
        refine wpAnyH_take (i := 22) (oi := { dst := some 32, op := Op.binOp BinOp.sub 3 (Operand.tmp 31) (Operand.const (Value.int IntKind.i64 1)) 3, type := 3, pos := "ref.go:29", after := #[{ on := 21, ground := Ground.data }, { on := 15, ground := Ground.guard }], guard := some (15, true) }) (v := undef) rfl (by kernel_rfl) (by kernel_rfl) (by kernel_rfl) (fun _ _ _ h => h) (Or.inr ⟨by rfl, rfl⟩) (R1.old ((Old.refl wr).drew) HX.out) ?_
        (try simp only [Act.put]); (try simp only [List.setIfInBounds_toArray]); (try simp only [List.set_cons_succ]); (try simp only [List.set_cons_zero])
        refine wpAnyH_take (i := 23) (oi := { dst := some 33, op := Op.indexAddr 22 (Operand.tmp 30) (Operand.tmp 32), type := 0, pos := "ref.go:29", after := #[{ on := 20, ground := Ground.data }, { on := 22, ground := Ground.data }, { on := 15, ground := Ground.guard }], guard := some (15, true) }) (v := undef) rfl (by kernel_rfl) (by kernel_rfl) (by kernel_rfl) (fun _ _ _ h => h) (Or.inr ⟨by rfl, rfl⟩) (R1.old ((Old.refl wr).drew) HX.out) ?_
        (try simp only [Act.put]); (try simp only [List.setIfInBounds_toArray]); (try simp only [List.set_cons_succ]); (try simp only [List.set_cons_zero])
        refine wpAnyH_take (i := 24) (oi := { dst := some 34, op := Op.load 3 (Operand.tmp 33), type := 3, pos := "ref.go:29", after := #[{ on := 23, ground := Ground.data }, { on := 15, ground := Ground.guard }], guard := some (15, true) }) (v := undef) rfl (by kernel_rfl) (by kernel_rfl) (by kernel_rfl) (fun _ _ _ h => h) (Or.inr ⟨by rfl, rfl⟩) (R1.old ((Old.refl wr).drew) HX.out) ?_
        (try simp only [Act.put]); (try simp only [List.setIfInBounds_toArray]); (try simp only [List.set_cons_succ]); (try simp only [List.set_cons_zero])
        refine wpAnyH_take (i := 25) (oi := { dst := some 35, op := Op.binOp BinOp.leq 3 (Operand.tmp 29) (Operand.tmp 34) 3, type := 4, pos := "ref.go:29", after := #[{ on := 19, ground := Ground.data }, { on := 24, ground := Ground.data }, { on := 15, ground := Ground.guard }], guard := some (15, true) }) (v := undef) rfl (by kernel_rfl) (by kernel_rfl) (by kernel_rfl) (fun _ _ _ h => h) (Or.inr ⟨by rfl, rfl⟩) (R1.old ((Old.refl wr).drew) HX.out) ?_
        (try simp only [Act.put]); (try simp only [List.setIfInBounds_toArray]); (try simp only [List.set_cons_succ]); (try simp only [List.set_cons_zero])
        refine wpAnyH_take (i := 26) (oi := { dst := some 36, op := Op.pick (Operand.tmp 25) (Operand.tmp 35) (Operand.const (Value.bool false)), type := 4, pos := "ref.go:29", after := #[{ on := 15, ground := Ground.data }, { on := 25, ground := Ground.data }, { on := 12, ground := Ground.guard }], guard := some (12, false) }) (v := undef) rfl (by kernel_rfl) (by kernel_rfl) (by kernel_rfl) (fun _ _ _ h => h) (Or.inr ⟨by rfl, rfl⟩) (R1.old ((Old.refl wr).drew) HX.out) ?_
        (try simp only [Act.put]); (try simp only [List.setIfInBounds_toArray]); (try simp only [List.set_cons_succ]); (try simp only [List.set_cons_zero])
        refine wpAnyH_take (i := 27) (oi := { dst := some 37, op := Op.pick (Operand.tmp 22) (Operand.const (Value.bool true)) (Operand.tmp 36), type := 4, pos := "ref.go:29", after := #[{ on := 12, ground := Ground.data }, { on := 26, ground := Ground.data }], guard := none }) (v := ?vk9) rfl (by kernel_rfl) (by kernel_rfl) (by kernel_rfl) (fun _ _ _ h => h) (Or.inl ⟨by rfl, ?hk9⟩) (R1.old ((Old.refl wr).drew) HX.out) ?rk9
        case hk9 => (intro wz hSw; (try dsimp only at hSw); go_simp; try with_reducible rfl)
        (try simp only [Act.put]); (try simp only [List.setIfInBounds_toArray]); (try simp only [List.set_cons_succ]); (try simp only [List.set_cons_zero])
        refine wpAnyH_done (by kernel_rfl) ?_ _
        refine NoPanic.normal ?_
        have UZ := hid ((Old.refl wr).drew)
        clear HX
        go_wp2
        go_ret
        exact ⟨ret_b (by rw [HR.out]), hu.trans UZ.out⟩
      · by_cases q2 : f k > 7
        · have HR := hid (HSt.out (by rw [Bool.and_eq_false_iff]; right; simp; omega) n hlt)
          generalize f k = y at *
          clear HC HSt HGo H0 hge
          have HX := hid (show R1 ⟨g, off + k, none⟩ (.int .i64 y) wr from x0)
          go_upto_region 4 with (fail)
          clear x0
          refine wp_region_noPanic ?_
          refine wp_region_held_drew (S := R1 ⟨g, off + k, none⟩ (.int .i64 y)) (by kernel_rfl) ?_ (fun hHeld => ?_)
          · exact R1.old ((Old.refl wr).drew) HX.out
          (try simp only [Act.put]); (try simp only [List.setIfInBounds_toArray]); (try simp only [List.set_cons_succ]); (try simp only [List.set_cons_zero])
          clear hHeld
          refine wpAnyH_take (i := 0) (oi := { dst := some 10, op := Op.move (Operand.tmp 0), type := 22, pos := "ref.go:29", after := #[], guard := none }) (v := ?vk10) rfl (by kernel_rfl) (by kernel_rfl) (by kernel_rfl) (fun _ _ _ h => h) (Or.inl ⟨by rfl, ?hk10⟩) (R1.old ((Old.refl wr).drew) HX.out) ?rk10
          case hk10 => (intro wz hSw; (try dsimp only at hSw); go_simp; try with_reducible rfl)
          (try simp only [Act.put]); (try simp only [List.setIfInBounds_toArray]); (try simp only [List.set_cons_succ]); (try simp only [List.set_cons_zero])
          refine wpAnyH_take (i := 1) (oi := { dst := some 11, op := Op.move (Operand.tmp 3), type := 3, pos := "ref.go:29", after := #[], guard := none }) (v := ?vk11) rfl (by kernel_rfl) (by kernel_rfl) (by kernel_rfl) (fun _ _ _ h => h) (Or.inl ⟨by rfl, ?hk11⟩) (R1.old ((Old.refl wr).drew) HX.out) ?rk11
          case hk11 => (intro wz hSw; (try dsimp only at hSw); go_simp; try with_reducible rfl)
          (try simp only [Act.put]); (try simp only [List.setIfInBounds_toArray]); (try simp only [List.set_cons_succ]); (try simp only [List.set_cons_zero])
          refine wpAnyH_take (i := 2) (oi := { dst := some 12, op := Op.indexAddr 22 (Operand.tmp 10) (Operand.tmp 11), type := 0, pos := "ref.go:29", after := #[{ on := 0, ground := Ground.data }, { on := 1, ground := Ground.data }], guard := none }) (v := ?vk12) rfl (by kernel_rfl) (by kernel_rfl) (by kernel_rfl) (fun _ _ _ h => h) (Or.inl ⟨by rfl, ?hk12⟩) (R1.old ((Old.refl wr).drew) HX.out) ?rk12
          case hk12 => (intro wz hSw; (try dsimp only at hSw); go_simp; try with_reducible rfl)
          (try simp only [Act.put]); (try simp only [List.setIfInBounds_toArray]); (try simp only [List.set_cons_succ]); (try simp only [List.set_cons_zero])
          refine wpAnyH_take (i := 3) (oi := { dst := some 13, op := Op.load 3 (Operand.tmp 12), type := 3, pos := "ref.go:29", after := #[{ on := 2, ground := Ground.data }], guard := none }) (v := ?vk13) rfl (by kernel_rfl) (by kernel_rfl) (by kernel_rfl) (fun _ _ _ h => h) (Or.inl ⟨by rfl, ?hk13⟩) (R1.old ((Old.refl wr).drew) HX.out) ?rk13
          case hk13 => (intro wz hSw; (try dsimp only at hSw); go_simp; try with_reducible rfl)
          (try simp only [Act.put]); (try simp only [List.setIfInBounds_toArray]); (try simp only [List.set_cons_succ]); (try simp only [List.set_cons_zero])
          refine wpAnyH_take (i := 4) (oi := { dst := some 14, op := Op.binOp BinOp.lss 3 (Operand.tmp 13) (Operand.const (Value.int IntKind.i64 1)) 3, type := 4, pos := "ref.go:29", after := #[{ on := 3, ground := Ground.data }], guard := none }) (v := ?vk14) rfl (by kernel_rfl) (by kernel_rfl) (by kernel_rfl) (fun _ _ _ h => h) (Or.inl ⟨by rfl, ?hk14⟩) (R1.old ((Old.refl wr).drew) HX.out) ?rk14
          case hk14 => (intro wz hSw; (try dsimp only at hSw); go_simp; try with_reducible rfl)
          (try simp only [Act.put]); (try simp only [List.setIfInBounds_toArray]); (try simp only [List.set_cons_succ]); (try simp only [List.set_cons_zero])
          refine wpAnyH_take (i := 5) (oi := { dst := some 15, op := Op.move (Operand.tmp 14), type := 4, pos := "ref.go:29", after := #[{ on := 4, ground := Ground.data }], guard := none }) (v := ?vk15) rfl (by kernel_rfl) (by kernel_rfl) (by kernel_rfl) (fun _ _ _ h => h) (Or.inl ⟨by rfl, ?hk15⟩) (R1.old ((Old.refl wr).drew) HX.out) ?rk15
          case hk15 => (intro wz hSw; (try dsimp only at hSw); go_simp; try with_reducible rfl)
          (try simp only [Act.put]); (try simp only [List.setIfInBounds_toArray]); (try simp only [List.set_cons_succ]); (try simp only [List.set_cons_zero])
          refine wpAnyH_take (i := 6) (oi := { dst := some 16, op := Op.move (Operand.tmp 0), type := 22, pos := "ref.go:29", after := #[{ on := 5, ground := Ground.guard }], guard := some (5, false) }) (v := ?vk16) rfl (by kernel_rfl) (by kernel_rfl) (by kernel_rfl) (fun _ _ _ h => h) (Or.inl ⟨by rfl, ?hk16⟩) (R1.old ((Old.refl wr).drew) HX.out) ?rk16
          case hk16 => (intro wz hSw; (try dsimp only at hSw); go_simp; try with_reducible rfl)
          (try simp only [Act.put]); (try simp only [List.setIfInBounds_toArray]); (try simp only [List.set_cons_succ]); (try simp only [List.set_cons_zero])
          refine wpAnyH_take (i := 7) (oi := { dst := some 17, op := Op.move (Operand.tmp 3), type := 3, pos := "ref.go:29", after := #[{ on := 5, ground := Ground.guard }], guard := some (5, false) }) (v := ?vk17) rfl (by kernel_rfl) (by kernel_rfl) (by kernel_rfl) (fun _ _ _ h => h) (Or.inl ⟨by rfl, ?hk17⟩) (R1.old ((Old.refl wr).drew) HX.out) ?rk17
          case hk17 => (intro wz hSw; (try dsimp only at hSw); go_simp; try with_reducible rfl)
          (try simp only [Act.put]); (try simp only [List.setIfInBounds_toArray]); (try simp only [List.set_cons_succ]); (try simp only [List.set_cons_zero])
          refine wpAnyH_take (i := 8) (oi := { dst := some 18, op := Op.indexAddr 22 (Operand.tmp 16) (Operand.tmp 17), type := 0, pos := "ref.go:29", after := #[{ on := 6, ground := Ground.data }, { on := 7, ground := Ground.data }, { on := 5, ground := Ground.guard }], guard := some (5, false) }) (v := ?vk18) rfl (by kernel_rfl) (by kernel_rfl) (by kernel_rfl) (fun _ _ _ h => h) (Or.inl ⟨by rfl, ?hk18⟩) (R1.old ((Old.refl wr).drew) HX.out) ?rk18
          case hk18 => (intro wz hSw; (try dsimp only at hSw); go_simp; try with_reducible rfl)
          (try simp only [Act.put]); (try simp only [List.setIfInBounds_toArray]); (try simp only [List.set_cons_succ]); (try simp only [List.set_cons_zero])
          refine wpAnyH_take (i := 9) (oi := { dst := some 19, op := Op.load 3 (Operand.tmp 18), type := 3, pos := "ref.go:29", after := #[{ on := 8, ground := Ground.data }, { on := 5, ground := Ground.guard }], guard := some (5, false) }) (v := ?vk19) rfl (by kernel_rfl) (by kernel_rfl) (by kernel_rfl) (fun _ _ _ h => h) (Or.inl ⟨by rfl, ?hk19⟩) (R1.old ((Old.refl wr).drew) HX.out) ?rk19
          case hk19 => (intro wz hSw; (try dsimp only at hSw); go_simp; try with_reducible rfl)
          (try simp only [Act.put]); (try simp only [List.setIfInBounds_toArray]); (try simp only [List.set_cons_succ]); (try simp only [List.set_cons_zero])
          refine wpAnyH_take (i := 10) (oi := { dst := some 20, op := Op.binOp BinOp.gtr 3 (Operand.tmp 19) (Operand.const (Value.int IntKind.i64 7)) 3, type := 4, pos := "ref.go:29", after := #[{ on := 9, ground := Ground.data }, { on := 5, ground := Ground.guard }], guard := some (5, false) }) (v := ?vk20) rfl (by kernel_rfl) (by kernel_rfl) (by kernel_rfl) (fun _ _ _ h => h) (Or.inl ⟨by rfl, ?hk20⟩) (R1.old ((Old.refl wr).drew) HX.out) ?rk20
          case hk20 => (intro wz hSw; (try dsimp only at hSw); go_simp; try with_reducible rfl)
          (try simp only [Act.put]); (try simp only [List.setIfInBounds_toArray]); (try simp only [List.set_cons_succ]); (try simp only [List.set_cons_zero])
          refine wpAnyH_take (i := 11) (oi := { dst := some 21, op := Op.pick (Operand.tmp 15) (Operand.const (Value.bool true)) (Operand.tmp 20), type := 4, pos := "ref.go:29", after := #[{ on := 5, ground := Ground.data }, { on := 10, ground := Ground.data }], guard := none }) (v := ?vk21) rfl (by kernel_rfl) (by kernel_rfl) (by kernel_rfl) (fun _ _ _ h => h) (Or.inl ⟨by rfl, ?hk21⟩) (R1.old ((Old.refl wr).drew) HX.out) ?rk21
          case hk21 => (intro wz hSw; (try dsimp only at hSw); go_simp; try with_reducible rfl)
          (try simp only [Act.put]); (try simp only [List.setIfInBounds_toArray]); (try simp only [List.set_cons_succ]); (try simp only [List.set_cons_zero])
          refine wpAnyH_take (i := 12) (oi := { dst := some 22, op := Op.move (Operand.tmp 21), type := 4, pos := "ref.go:29", after := #[{ on := 11, ground := Ground.data }, { on := 5, ground := Ground.chain }], guard := none }) (v := ?vk22) rfl (by kernel_rfl) (by kernel_rfl) (by kernel_rfl) (fun _ _ _ h => h) (Or.inl ⟨by rfl, ?hk22⟩) (R1.old ((Old.refl wr).drew) HX.out) ?rk22
          case hk22 => (intro wz hSw; (try dsimp only at hSw); go_simp; try with_reducible rfl)
          (try simp only [Act.put]); (try simp only [List.setIfInBounds_toArray]); (try simp only [List.set_cons_succ]); (try simp only [List.set_cons_zero])
          refine wpAnyH_take (i := 13) (oi := { dst := some 23, op := Op.move (Operand.tmp 3), type := 3, pos := "ref.go:29", after := #[{ on := 12, ground := Ground.guard }], guard := some (12, false) }) (v := undef) rfl (by kernel_rfl) (by kernel_rfl) (by kernel_rfl) (fun _ _ _ h => h) (Or.inr ⟨by rfl, rfl⟩) (R1.old ((Old.refl wr).drew) HX.out) ?_
          (try simp only [Act.put]); (try simp only [List.setIfInBounds_toArray]); (try simp only [List.set_cons_succ]); (try simp only [List.set_cons_zero])
          refine wpAnyH_take (i := 14) (oi := { dst := some 24, op := Op.binOp BinOp.gtr 3 (Operand.tmp 23) (Operand.const (Value.int IntKind.i64 0)) 3, type := 4, pos := "ref.go:29", after := #[{ on := 13, ground := Ground.data }, { on := 12, ground := Ground.guard }], guard := some (12, false) }) (v := undef) rfl (by kernel_rfl) (by kernel_rfl) (by kernel_rfl) (fun _ _ _ h => h) (Or.inr ⟨by rfl, rfl⟩) (R1.old ((Old.refl wr).drew) HX.out) ?_
          (try simp only [Act.put]); (try simp only [List.setIfInBounds_toArray]); (try simp only [List.set_cons_succ]); (try simp only [List.set_cons_zero])
          refine wpAnyH_take (i := 15) (oi := { dst := some 25, op := Op.move (Operand.tmp 24), type := 4, pos := "ref.go:29", after := #[{ on := 14, ground := Ground.data }, { on := 12, ground := Ground.chain }, { on := 12, ground := Ground.guard }], guard := some (12, false) }) (v := undef) rfl (by kernel_rfl) (by kernel_rfl) (by kernel_rfl) (fun _ _ _ h => h) (Or.inr ⟨by rfl, rfl⟩) (R1.old ((Old.refl wr).drew) HX.out) ?_
          (try simp only [Act.put]); (try simp only [List.setIfInBounds_toArray]); (try simp only [List.set_cons_succ]); (try simp only [List.set_cons_zero])
          refine wpAnyH_take (i := 16) (oi := { dst := some 26, op := Op.move (Operand.tmp 0), type := 22, pos := "ref.go:29", after := #[{ on := 15, ground := Ground.guard }], guard := some (15, true) }) (v := undef) rfl (by kernel_rfl) (by kernel_rfl) (by kernel_rfl) (fun _ _ _ h => h) (Or.inr ⟨by rfl, rfl⟩) (R1.old ((Old.refl wr).drew) HX.out) ?_
          (try simp only [Act.put]); (try simp only [List.setIfInBounds_toArray]); (try simp only [List.set_cons_succ]); (try simp only [List.set_cons_zero])
          refine wpAnyH_take (i := 17) (oi := { dst := some 27, op := Op.move (Operand.tmp 3), type := 3, pos := "ref.go:29", after := #[{ on := 15, ground := Ground.guard }], guard := some (15, true) }) (v := undef) rfl (by kernel_rfl) (by kernel_rfl) (by kernel_rfl) (fun _ _ _ h => h) (Or.inr ⟨by rfl, rfl⟩) (R1.old ((Old.refl wr).drew) HX.out) ?_
          (try simp only [Act.put]); (try simp only [List.setIfInBounds_toArray]); (try simp only [List.set_cons_succ]); (try simp only [List.set_cons_zero])
          refine wpAnyH_take (i := 18) (oi := { dst := some 28, op := Op.indexAddr 22 (Operand.tmp 26) (Operand.tmp 27), type := 0, pos := "ref.go:29", after := #[{ on := 16, ground := Ground.data }, { on := 17, ground := Ground.data }, { on := 15, ground := Ground.guard }], guard := some (15, true) }) (v := undef) rfl (by kernel_rfl) (by kernel_rfl) (by kernel_rfl) (fun _ _ _ h => h) (Or.inr ⟨by rfl, rfl⟩) (R1.old ((Old.refl wr).drew) HX.out) ?_
          (try simp only [Act.put]); (try simp only [List.setIfInBounds_toArray]); (try simp only [List.set_cons_succ]); (try simp only [List.set_cons_zero])
          refine wpAnyH_take (i := 19) (oi := { dst := some 29, op := Op.load 3 (Operand.tmp 28), type := 3, pos := "ref.go:29", after := #[{ on := 18, ground := Ground.data }, { on := 15, ground := Ground.guard }], guard := some (15, true) }) (v := undef) rfl (by kernel_rfl) (by kernel_rfl) (by kernel_rfl) (fun _ _ _ h => h) (Or.inr ⟨by rfl, rfl⟩) (R1.old ((Old.refl wr).drew) HX.out) ?_
          (try simp only [Act.put]); (try simp only [List.setIfInBounds_toArray]); (try simp only [List.set_cons_succ]); (try simp only [List.set_cons_zero])
          refine wpAnyH_take (i := 20) (oi := { dst := some 30, op := Op.move (Operand.tmp 0), type := 22, pos := "ref.go:29", after := #[{ on := 15, ground := Ground.guard }], guard := some (15, true) }) (v := undef) rfl (by kernel_rfl) (by kernel_rfl) (by kernel_rfl) (fun _ _ _ h => h) (Or.inr ⟨by rfl, rfl⟩) (R1.old ((Old.refl wr).drew) HX.out) ?_
          (try simp only [Act.put]); (try simp only [List.setIfInBounds_toArray]); (try simp only [List.set_cons_succ]); (try simp only [List.set_cons_zero])
          refine wpAnyH_take (i := 21) (oi := { dst := some 31, op := Op.move (Operand.tmp 3), type := 3, pos := "ref.go:29", after := #[{ on := 15, ground := Ground.guard }], guard := some (15, true) }) (v := undef) rfl (by kernel_rfl) (by kernel_rfl) (by kernel_rfl) (fun _ _ _ h => h) (Or.inr ⟨by rfl, rfl⟩) (R1.old ((Old.refl wr).drew) HX.out) ?_
          (try simp only [Act.put]); (try simp only [List.setIfInBounds_toArray]); (try simp only [List.set_cons_succ]); (try simp only [List.set_cons_zero])
          refine wpAnyH_take (i := 22) (oi := { dst := some 32, op := Op.binOp BinOp.sub 3 (Operand.tmp 31) (Operand.const (Value.int IntKind.i64 1)) 3, type := 3, pos := "ref.go:29", after := #[{ on := 21, ground := Ground.data }, { on := 15, ground := Ground.guard }], guard := some (15, true) }) (v := undef) rfl (by kernel_rfl) (by kernel_rfl) (by kernel_rfl) (fun _ _ _ h => h) (Or.inr ⟨by rfl, rfl⟩) (R1.old ((Old.refl wr).drew) HX.out) ?_
          (try simp only [Act.put]); (try simp only [List.setIfInBounds_toArray]); (try simp only [List.set_cons_succ]); (try simp only [List.set_cons_zero])
          refine wpAnyH_take (i := 23) (oi := { dst := some 33, op := Op.indexAddr 22 (Operand.tmp 30) (Operand.tmp 32), type := 0, pos := "ref.go:29", after := #[{ on := 20, ground := Ground.data }, { on := 22, ground := Ground.data }, { on := 15, ground := Ground.guard }], guard := some (15, true) }) (v := undef) rfl (by kernel_rfl) (by kernel_rfl) (by kernel_rfl) (fun _ _ _ h => h) (Or.inr ⟨by rfl, rfl⟩) (R1.old ((Old.refl wr).drew) HX.out) ?_
          (try simp only [Act.put]); (try simp only [List.setIfInBounds_toArray]); (try simp only [List.set_cons_succ]); (try simp only [List.set_cons_zero])
          refine wpAnyH_take (i := 24) (oi := { dst := some 34, op := Op.load 3 (Operand.tmp 33), type := 3, pos := "ref.go:29", after := #[{ on := 23, ground := Ground.data }, { on := 15, ground := Ground.guard }], guard := some (15, true) }) (v := undef) rfl (by kernel_rfl) (by kernel_rfl) (by kernel_rfl) (fun _ _ _ h => h) (Or.inr ⟨by rfl, rfl⟩) (R1.old ((Old.refl wr).drew) HX.out) ?_
          (try simp only [Act.put]); (try simp only [List.setIfInBounds_toArray]); (try simp only [List.set_cons_succ]); (try simp only [List.set_cons_zero])
          refine wpAnyH_take (i := 25) (oi := { dst := some 35, op := Op.binOp BinOp.leq 3 (Operand.tmp 29) (Operand.tmp 34) 3, type := 4, pos := "ref.go:29", after := #[{ on := 19, ground := Ground.data }, { on := 24, ground := Ground.data }, { on := 15, ground := Ground.guard }], guard := some (15, true) }) (v := undef) rfl (by kernel_rfl) (by kernel_rfl) (by kernel_rfl) (fun _ _ _ h => h) (Or.inr ⟨by rfl, rfl⟩) (R1.old ((Old.refl wr).drew) HX.out) ?_
          (try simp only [Act.put]); (try simp only [List.setIfInBounds_toArray]); (try simp only [List.set_cons_succ]); (try simp only [List.set_cons_zero])
          refine wpAnyH_take (i := 26) (oi := { dst := some 36, op := Op.pick (Operand.tmp 25) (Operand.tmp 35) (Operand.const (Value.bool false)), type := 4, pos := "ref.go:29", after := #[{ on := 15, ground := Ground.data }, { on := 25, ground := Ground.data }, { on := 12, ground := Ground.guard }], guard := some (12, false) }) (v := undef) rfl (by kernel_rfl) (by kernel_rfl) (by kernel_rfl) (fun _ _ _ h => h) (Or.inr ⟨by rfl, rfl⟩) (R1.old ((Old.refl wr).drew) HX.out) ?_
          (try simp only [Act.put]); (try simp only [List.setIfInBounds_toArray]); (try simp only [List.set_cons_succ]); (try simp only [List.set_cons_zero])
          refine wpAnyH_take (i := 27) (oi := { dst := some 37, op := Op.pick (Operand.tmp 22) (Operand.const (Value.bool true)) (Operand.tmp 36), type := 4, pos := "ref.go:29", after := #[{ on := 12, ground := Ground.data }, { on := 26, ground := Ground.data }], guard := none }) (v := ?vk23) rfl (by kernel_rfl) (by kernel_rfl) (by kernel_rfl) (fun _ _ _ h => h) (Or.inl ⟨by rfl, ?hk23⟩) (R1.old ((Old.refl wr).drew) HX.out) ?rk23
          case hk23 => (intro wz hSw; (try dsimp only at hSw); go_simp; try with_reducible rfl)
          (try simp only [Act.put]); (try simp only [List.setIfInBounds_toArray]); (try simp only [List.set_cons_succ]); (try simp only [List.set_cons_zero])
          refine wpAnyH_done (by kernel_rfl) ?_ _
          refine NoPanic.normal ?_
          have UZ := hid ((Old.refl wr).drew)
          clear HX
          go_wp2
          go_ret
          exact ⟨ret_b (by rw [HR.out]), hu.trans UZ.out⟩
        · by_cases hz : k = 0
          · subst hz
            have HR := hid (HGo.out (by rw [Bool.and_eq_true]; exact ⟨decide_eq_true (show (0 : Int) < f 0 by omega), decide_eq_true (by omega)⟩))
            generalize f 0 = y at *
            clear HC HSt HGo H0 hge
            have HX := hid (show R1 ⟨g, off, none⟩ (.int .i64 y) wr from x0)
            go_upto_region 4 with (fail)
            clear x0
            refine wp_region_noPanic ?_
            refine wp_region_held_drew (S := R1 ⟨g, off, none⟩ (.int .i64 y)) (by kernel_rfl) ?_ (fun hHeld => ?_)
            · exact R1.old ((Old.refl wr).drew) HX.out
            (try simp only [Act.put]); (try simp only [List.setIfInBounds_toArray]); (try simp only [List.set_cons_succ]); (try simp only [List.set_cons_zero])
            clear hHeld
            refine wpAnyH_take (i := 0) (oi := { dst := some 10, op := Op.move (Operand.tmp 0), type := 22, pos := "ref.go:29", after := #[], guard := none }) (v := ?vk24) rfl (by kernel_rfl) (by kernel_rfl) (by kernel_rfl) (fun _ _ _ h => h) (Or.inl ⟨by rfl, ?hk24⟩) (R1.old ((Old.refl wr).drew) HX.out) ?rk24
            case hk24 => (intro wz hSw; (try dsimp only at hSw); go_simp; try with_reducible rfl)
            (try simp only [Act.put]); (try simp only [List.setIfInBounds_toArray]); (try simp only [List.set_cons_succ]); (try simp only [List.set_cons_zero])
            refine wpAnyH_take (i := 1) (oi := { dst := some 11, op := Op.move (Operand.tmp 3), type := 3, pos := "ref.go:29", after := #[], guard := none }) (v := ?vk25) rfl (by kernel_rfl) (by kernel_rfl) (by kernel_rfl) (fun _ _ _ h => h) (Or.inl ⟨by rfl, ?hk25⟩) (R1.old ((Old.refl wr).drew) HX.out) ?rk25
            case hk25 => (intro wz hSw; (try dsimp only at hSw); go_simp; try with_reducible rfl)
            (try simp only [Act.put]); (try simp only [List.setIfInBounds_toArray]); (try simp only [List.set_cons_succ]); (try simp only [List.set_cons_zero])
            refine wpAnyH_take (i := 2) (oi := { dst := some 12, op := Op.indexAddr 22 (Operand.tmp 10) (Operand.tmp 11), type := 0, pos := "ref.go:29", after := #[{ on := 0, ground := Ground.data }, { on := 1, ground := Ground.data }], guard := none }) (v := ?vk26) rfl (by kernel_rfl) (by kernel_rfl) (by kernel_rfl) (fun _ _ _ h => h) (Or.inl ⟨by rfl, ?hk26⟩) (R1.old ((Old.refl wr).drew) HX.out) ?rk26
            case hk26 => (intro wz hSw; (try dsimp only at hSw); go_simp; try with_reducible rfl)
            (try simp only [Act.put]); (try simp only [List.setIfInBounds_toArray]); (try simp only [List.set_cons_succ]); (try simp only [List.set_cons_zero])
            refine wpAnyH_take (i := 3) (oi := { dst := some 13, op := Op.load 3 (Operand.tmp 12), type := 3, pos := "ref.go:29", after := #[{ on := 2, ground := Ground.data }], guard := none }) (v := ?vk27) rfl (by kernel_rfl) (by kernel_rfl) (by kernel_rfl) (fun _ _ _ h => h) (Or.inl ⟨by rfl, ?hk27⟩) (R1.old ((Old.refl wr).drew) HX.out) ?rk27
            case hk27 => (intro wz hSw; (try dsimp only at hSw); go_simp; try with_reducible rfl)
            (try simp only [Act.put]); (try simp only [List.setIfInBounds_toArray]); (try simp only [List.set_cons_succ]); (try simp only [List.set_cons_zero])
            refine wpAnyH_take (i := 4) (oi := { dst := some 14, op := Op.binOp BinOp.lss 3 (Operand.tmp 13) (Operand.const (Value.int IntKind.i64 1)) 3, type := 4, pos := "ref.go:29", after := #[{ on := 3, ground := Ground.data }], guard := none }) (v := ?vk28) rfl (by kernel_rfl) (by kernel_rfl) (by kernel_rfl) (fun _ _ _ h => h) (Or.inl ⟨by rfl, ?hk28⟩) (R1.old ((Old.refl wr).drew) HX.out) ?rk28
            case hk28 => (intro wz hSw; (try dsimp only at hSw); go_simp; try with_reducible rfl)
            (try simp only [Act.put]); (try simp only [List.setIfInBounds_toArray]); (try simp only [List.set_cons_succ]); (try simp only [List.set_cons_zero])
            refine wpAnyH_take (i := 5) (oi := { dst := some 15, op := Op.move (Operand.tmp 14), type := 4, pos := "ref.go:29", after := #[{ on := 4, ground := Ground.data }], guard := none }) (v := ?vk29) rfl (by kernel_rfl) (by kernel_rfl) (by kernel_rfl) (fun _ _ _ h => h) (Or.inl ⟨by rfl, ?hk29⟩) (R1.old ((Old.refl wr).drew) HX.out) ?rk29
            case hk29 => (intro wz hSw; (try dsimp only at hSw); go_simp; try with_reducible rfl)
            (try simp only [Act.put]); (try simp only [List.setIfInBounds_toArray]); (try simp only [List.set_cons_succ]); (try simp only [List.set_cons_zero])
            refine wpAnyH_take (i := 6) (oi := { dst := some 16, op := Op.move (Operand.tmp 0), type := 22, pos := "ref.go:29", after := #[{ on := 5, ground := Ground.guard }], guard := some (5, false) }) (v := ?vk30) rfl (by kernel_rfl) (by kernel_rfl) (by kernel_rfl) (fun _ _ _ h => h) (Or.inl ⟨by rfl, ?hk30⟩) (R1.old ((Old.refl wr).drew) HX.out) ?rk30
            case hk30 => (intro wz hSw; (try dsimp only at hSw); go_simp; try with_reducible rfl)
            (try simp only [Act.put]); (try simp only [List.setIfInBounds_toArray]); (try simp only [List.set_cons_succ]); (try simp only [List.set_cons_zero])
            refine wpAnyH_take (i := 7) (oi := { dst := some 17, op := Op.move (Operand.tmp 3), type := 3, pos := "ref.go:29", after := #[{ on := 5, ground := Ground.guard }], guard := some (5, false) }) (v := ?vk31) rfl (by kernel_rfl) (by kernel_rfl) (by kernel_rfl) (fun _ _ _ h => h) (Or.inl ⟨by rfl, ?hk31⟩) (R1.old ((Old.refl wr).drew) HX.out) ?rk31
            case hk31 => (intro wz hSw; (try dsimp only at hSw); go_simp; try with_reducible rfl)
            (try simp only [Act.put]); (try simp only [List.setIfInBounds_toArray]); (try simp only [List.set_cons_succ]); (try simp only [List.set_cons_zero])
            refine wpAnyH_take (i := 8) (oi := { dst := some 18, op := Op.indexAddr 22 (Operand.tmp 16) (Operand.tmp 17), type := 0, pos := "ref.go:29", after := #[{ on := 6, ground := Ground.data }, { on := 7, ground := Ground.data }, { on := 5, ground := Ground.guard }], guard := some (5, false) }) (v := ?vk32) rfl (by kernel_rfl) (by kernel_rfl) (by kernel_rfl) (fun _ _ _ h => h) (Or.inl ⟨by rfl, ?hk32⟩) (R1.old ((Old.refl wr).drew) HX.out) ?rk32
            case hk32 => (intro wz hSw; (try dsimp only at hSw); go_simp; try with_reducible rfl)
            (try simp only [Act.put]); (try simp only [List.setIfInBounds_toArray]); (try simp only [List.set_cons_succ]); (try simp only [List.set_cons_zero])
            refine wpAnyH_take (i := 9) (oi := { dst := some 19, op := Op.load 3 (Operand.tmp 18), type := 3, pos := "ref.go:29", after := #[{ on := 8, ground := Ground.data }, { on := 5, ground := Ground.guard }], guard := some (5, false) }) (v := ?vk33) rfl (by kernel_rfl) (by kernel_rfl) (by kernel_rfl) (fun _ _ _ h => h) (Or.inl ⟨by rfl, ?hk33⟩) (R1.old ((Old.refl wr).drew) HX.out) ?rk33
            case hk33 => (intro wz hSw; (try dsimp only at hSw); go_simp; try with_reducible rfl)
            (try simp only [Act.put]); (try simp only [List.setIfInBounds_toArray]); (try simp only [List.set_cons_succ]); (try simp only [List.set_cons_zero])
            refine wpAnyH_take (i := 10) (oi := { dst := some 20, op := Op.binOp BinOp.gtr 3 (Operand.tmp 19) (Operand.const (Value.int IntKind.i64 7)) 3, type := 4, pos := "ref.go:29", after := #[{ on := 9, ground := Ground.data }, { on := 5, ground := Ground.guard }], guard := some (5, false) }) (v := ?vk34) rfl (by kernel_rfl) (by kernel_rfl) (by kernel_rfl) (fun _ _ _ h => h) (Or.inl ⟨by rfl, ?hk34⟩) (R1.old ((Old.refl wr).drew) HX.out) ?rk34
            case hk34 => (intro wz hSw; (try dsimp only at hSw); go_simp; try with_reducible rfl)
            (try simp only [Act.put]); (try simp only [List.setIfInBounds_toArray]); (try simp only [List.set_cons_succ]); (try simp only [List.set_cons_zero])
            refine wpAnyH_take (i := 11) (oi := { dst := some 21, op := Op.pick (Operand.tmp 15) (Operand.const (Value.bool true)) (Operand.tmp 20), type := 4, pos := "ref.go:29", after := #[{ on := 5, ground := Ground.data }, { on := 10, ground := Ground.data }], guard := none }) (v := ?vk35) rfl (by kernel_rfl) (by kernel_rfl) (by kernel_rfl) (fun _ _ _ h => h) (Or.inl ⟨by rfl, ?hk35⟩) (R1.old ((Old.refl wr).drew) HX.out) ?rk35
            case hk35 => (intro wz hSw; (try dsimp only at hSw); go_simp; try with_reducible rfl)
            (try simp only [Act.put]); (try simp only [List.setIfInBounds_toArray]); (try simp only [List.set_cons_succ]); (try simp only [List.set_cons_zero])
            refine wpAnyH_take (i := 12) (oi := { dst := some 22, op := Op.move (Operand.tmp 21), type := 4, pos := "ref.go:29", after := #[{ on := 11, ground := Ground.data }, { on := 5, ground := Ground.chain }], guard := none }) (v := ?vk36) rfl (by kernel_rfl) (by kernel_rfl) (by kernel_rfl) (fun _ _ _ h => h) (Or.inl ⟨by rfl, ?hk36⟩) (R1.old ((Old.refl wr).drew) HX.out) ?rk36
            case hk36 => (intro wz hSw; (try dsimp only at hSw); go_simp; try with_reducible rfl)
            (try simp only [Act.put]); (try simp only [List.setIfInBounds_toArray]); (try simp only [List.set_cons_succ]); (try simp only [List.set_cons_zero])
            refine wpAnyH_take (i := 13) (oi := { dst := some 23, op := Op.move (Operand.tmp 3), type := 3, pos := "ref.go:29", after := #[{ on := 12, ground := Ground.guard }], guard := some (12, false) }) (v := ?vk37) rfl (by kernel_rfl) (by kernel_rfl) (by kernel_rfl) (fun _ _ _ h => h) (Or.inl ⟨by rfl, ?hk37⟩) (R1.old ((Old.refl wr).drew) HX.out) ?rk37
            case hk37 => (intro wz hSw; (try dsimp only at hSw); go_simp; try with_reducible rfl)
            (try simp only [Act.put]); (try simp only [List.setIfInBounds_toArray]); (try simp only [List.set_cons_succ]); (try simp only [List.set_cons_zero])
            refine wpAnyH_take (i := 14) (oi := { dst := some 24, op := Op.binOp BinOp.gtr 3 (Operand.tmp 23) (Operand.const (Value.int IntKind.i64 0)) 3, type := 4, pos := "ref.go:29", after := #[{ on := 13, ground := Ground.data }, { on := 12, ground := Ground.guard }], guard := some (12, false) }) (v := ?vk38) rfl (by kernel_rfl) (by kernel_rfl) (by kernel_rfl) (fun _ _ _ h => h) (Or.inl ⟨by rfl, ?hk38⟩) (R1.old ((Old.refl wr).drew) HX.out) ?rk38
            case hk38 => (intro wz hSw; (try dsimp only at hSw); go_simp; try with_reducible rfl)
            (try simp only [Act.put]); (try simp only [List.setIfInBounds_toArray]); (try simp only [List.set_cons_succ]); (try simp only [List.set_cons_zero])
            refine wpAnyH_take (i := 15) (oi := { dst := some 25, op := Op.move (Operand.tmp 24), type := 4, pos := "ref.go:29", after := #[{ on := 14, ground := Ground.data }, { on := 12, ground := Ground.chain }, { on := 12, ground := Ground.guard }], guard := some (12, false) }) (v := ?vk39) rfl (by kernel_rfl) (by kernel_rfl) (by kernel_rfl) (fun _ _ _ h => h) (Or.inl ⟨by rfl, ?hk39⟩) (R1.old ((Old.refl wr).drew) HX.out) ?rk39
            case hk39 => (intro wz hSw; (try dsimp only at hSw); go_simp; try with_reducible rfl)
            (try simp only [Act.put]); (try simp only [List.setIfInBounds_toArray]); (try simp only [List.set_cons_succ]); (try simp only [List.set_cons_zero])
            refine wpAnyH_take (i := 16) (oi := { dst := some 26, op := Op.move (Operand.tmp 0), type := 22, pos := "ref.go:29", after := #[{ on := 15, ground := Ground.guard }], guard := some (15, true) }) (v := undef) rfl (by kernel_rfl) (by kernel_rfl) (by kernel_rfl) (fun _ _ _ h => h) (Or.inr ⟨by rfl, rfl⟩) (R1.old ((Old.refl wr).drew) HX.out) ?_
            (try simp only [Act.put]); (try simp only [List.setIfInBounds_toArray]); (try simp only [List.set_cons_succ]); (try simp only [List.set_cons_zero])
            refine wpAnyH_take (i := 17) (oi := { dst := some 27, op := Op.move (Operand.tmp 3), type := 3, pos := "ref.go:29", after := #[{ on := 15, ground := Ground.guard }], guard := some (15, true) }) (v := undef) rfl (by kernel_rfl) (by kernel_rfl) (by kernel_rfl) (fun _ _ _ h => h) (Or.inr ⟨by rfl, rfl⟩) (R1.old ((Old.refl wr).drew) HX.out) ?_
            (try simp only [Act.put]); (try simp only [List.setIfInBounds_toArray]); (try simp only [List.set_cons_succ]); (try simp only [List.set_cons_zero])
            refine wpAnyH_take (i := 18) (oi := { dst := some 28, op := Op.indexAddr 22 (Operand.tmp 26) (Operand.tmp 27), type := 0, pos := "ref.go:29", after := #[{ on := 16, ground := Ground.data }, { on := 17, ground := Ground.data }, { on := 15, ground := Ground.guard }], guard := some (15, true) }) (v := undef) rfl (by kernel_rfl) (by kernel_rfl) (by kernel_rfl) (fun _ _ _ h => h) (Or.inr ⟨by rfl, rfl⟩) (R1.old ((Old.refl wr).drew) HX.out) ?_
            (try simp only [Act.put]); (try simp only [List.setIfInBounds_toArray]); (try simp only [List.set_cons_succ]); (try simp only [List.set_cons_zero])
            refine wpAnyH_take (i := 19) (oi := { dst := some 29, op := Op.load 3 (Operand.tmp 28), type := 3, pos := "ref.go:29", after := #[{ on := 18, ground := Ground.data }, { on := 15, ground := Ground.guard }], guard := some (15, true) }) (v := undef) rfl (by kernel_rfl) (by kernel_rfl) (by kernel_rfl) (fun _ _ _ h => h) (Or.inr ⟨by rfl, rfl⟩) (R1.old ((Old.refl wr).drew) HX.out) ?_
            (try simp only [Act.put]); (try simp only [List.setIfInBounds_toArray]); (try simp only [List.set_cons_succ]); (try simp only [List.set_cons_zero])
            refine wpAnyH_take (i := 20) (oi := { dst := some 30, op := Op.move (Operand.tmp 0), type := 22, pos := "ref.go:29", after := #[{ on := 15, ground := Ground.guard }], guard := some (15, true) }) (v := undef) rfl (by kernel_rfl) (by kernel_rfl) (by kernel_rfl) (fun _ _ _ h => h) (Or.inr ⟨by rfl, rfl⟩) (R1.old ((Old.refl wr).drew) HX.out) ?_
            (try simp only [Act.put]); (try simp only [List.setIfInBounds_toArray]); (try simp only [List.set_cons_succ]); (try simp only [List.set_cons_zero])
            refine wpAnyH_take (i := 21) (oi := { dst := some 31, op := Op.move (Operand.tmp 3), type := 3, pos := "ref.go:29", after := #[{ on := 15, ground := Ground.guard }], guard := some (15, true) }) (v := undef) rfl (by kernel_rfl) (by kernel_rfl) (by kernel_rfl) (fun _ _ _ h => h) (Or.inr ⟨by rfl, rfl⟩) (R1.old ((Old.refl wr).drew) HX.out) ?_
            (try simp only [Act.put]); (try simp only [List.setIfInBounds_toArray]); (try simp only [List.set_cons_succ]); (try simp only [List.set_cons_zero])
            refine wpAnyH_take (i := 22) (oi := { dst := some 32, op := Op.binOp BinOp.sub 3 (Operand.tmp 31) (Operand.const (Value.int IntKind.i64 1)) 3, type := 3, pos := "ref.go:29", after := #[{ on := 21, ground := Ground.data }, { on := 15, ground := Ground.guard }], guard := some (15, true) }) (v := undef) rfl (by kernel_rfl) (by kernel_rfl) (by kernel_rfl) (fun _ _ _ h => h) (Or.inr ⟨by rfl, rfl⟩) (R1.old ((Old.refl wr).drew) HX.out) ?_
            (try simp only [Act.put]); (try simp only [List.setIfInBounds_toArray]); (try simp only [List.set_cons_succ]); (try simp only [List.set_cons_zero])
            refine wpAnyH_take (i := 23) (oi := { dst := some 33, op := Op.indexAddr 22 (Operand.tmp 30) (Operand.tmp 32), type := 0, pos := "ref.go:29", after := #[{ on := 20, ground := Ground.data }, { on := 22, ground := Ground.data }, { on := 15, ground := Ground.guard }], guard := some (15, true) }) (v := undef) rfl (by kernel_rfl) (by kernel_rfl) (by kernel_rfl) (fun _ _ _ h => h) (Or.inr ⟨by rfl, rfl⟩) (R1.old ((Old.refl wr).drew) HX.out) ?_
            (try simp only [Act.put]); (try simp only [List.setIfInBounds_toArray]); (try simp only [List.set_cons_succ]); (try simp only [List.set_cons_zero])
            refine wpAnyH_take (i := 24) (oi := { dst := some 34, op := Op.load 3 (Operand.tmp 33), type := 3, pos := "ref.go:29", after := #[{ on := 23, ground := Ground.data }, { on := 15, ground := Ground.guard }], guard := some (15, true) }) (v := undef) rfl (by kernel_rfl) (by kernel_rfl) (by kernel_rfl) (fun _ _ _ h => h) (Or.inr ⟨by rfl, rfl⟩) (R1.old ((Old.refl wr).drew) HX.out) ?_
            (try simp only [Act.put]); (try simp only [List.setIfInBounds_toArray]); (try simp only [List.set_cons_succ]); (try simp only [List.set_cons_zero])
            refine wpAnyH_take (i := 25) (oi := { dst := some 35, op := Op.binOp BinOp.leq 3 (Operand.tmp 29) (Operand.tmp 34) 3, type := 4, pos := "ref.go:29", after := #[{ on := 19, ground := Ground.data }, { on := 24, ground := Ground.data }, { on := 15, ground := Ground.guard }], guard := some (15, true) }) (v := undef) rfl (by kernel_rfl) (by kernel_rfl) (by kernel_rfl) (fun _ _ _ h => h) (Or.inr ⟨by rfl, rfl⟩) (R1.old ((Old.refl wr).drew) HX.out) ?_
            (try simp only [Act.put]); (try simp only [List.setIfInBounds_toArray]); (try simp only [List.set_cons_succ]); (try simp only [List.set_cons_zero])
            refine wpAnyH_take (i := 26) (oi := { dst := some 36, op := Op.pick (Operand.tmp 25) (Operand.tmp 35) (Operand.const (Value.bool false)), type := 4, pos := "ref.go:29", after := #[{ on := 15, ground := Ground.data }, { on := 25, ground := Ground.data }, { on := 12, ground := Ground.guard }], guard := some (12, false) }) (v := ?vk40) rfl (by kernel_rfl) (by kernel_rfl) (by kernel_rfl) (fun _ _ _ h => h) (Or.inl ⟨by rfl, ?hk40⟩) (R1.old ((Old.refl wr).drew) HX.out) ?rk40
            case hk40 => (intro wz hSw; (try dsimp only at hSw); go_simp; try with_reducible rfl)
            (try simp only [Act.put]); (try simp only [List.setIfInBounds_toArray]); (try simp only [List.set_cons_succ]); (try simp only [List.set_cons_zero])
            refine wpAnyH_take (i := 27) (oi := { dst := some 37, op := Op.pick (Operand.tmp 22) (Operand.const (Value.bool true)) (Operand.tmp 36), type := 4, pos := "ref.go:29", after := #[{ on := 12, ground := Ground.data }, { on := 26, ground := Ground.data }], guard := none }) (v := ?vk41) rfl (by kernel_rfl) (by kernel_rfl) (by kernel_rfl) (fun _ _ _ h => h) (Or.inl ⟨by rfl, ?hk41⟩) (R1.old ((Old.refl wr).drew) HX.out) ?rk41
            case hk41 => (intro wz hSw; (try dsimp only at hSw); go_simp; try with_reducible rfl)
            (try simp only [Act.put]); (try simp only [List.setIfInBounds_toArray]); (try simp only [List.set_cons_succ]); (try simp only [List.set_cons_zero])
            refine wpAnyH_done (by kernel_rfl) ?_ _
            refine NoPanic.normal ?_
            have UZ := hid ((Old.refl wr).drew)
            clear HX
            go_wp2
            go_roundw
            case rel => exact ⟨1, hlt, by go_num, HR.out, hu.trans UZ.out⟩
            case measure => simp [intOf]; omega
          · obtain ⟨j, hj⟩ : ∃ j : Nat, k = j + 1 := ⟨k - 1, by omega⟩
            obtain ⟨g', off', e2, c1⟩ := HC.out j (by omega)
            cases e2
            have x1 := hu.keep c1
            have lk : lastK f k = f j := by rw [hj]; rfl
            have lw : IntKind.i64.wrap ((k : Int) - 1) = (j : Int) := by rw [IntWalk.i64_in _ (by omega)]; omega
            have l3 : (k : Int) > 0 := by omega
            have l3n : 0 < k := by omega
            have l3d : decide ((k : Int) > 0) = true := decide_eq_true l3
            have l4 : (0 : Int) ≤ (j : Int) := by omega
            have l5 : (j : Int) < (n : Int) := by omega
            clear c1 hj hz
            by_cases q3 : f k ≤ f j
            · have HR := hid (HSt.out (by rw [Bool.and_eq_false_iff]; exact .inl (decide_eq_false (by rw [lk]; omega))) n hlt)
              clear HC HSt HGo H0 hge lk
              generalize f k = y at *
              generalize f j = z at *
              have HX := hid (show R2 ⟨g, off + k, none⟩ (.int .i64 y) ⟨g, off + j, none⟩ (.int .i64 z) wr from ⟨x0, x1⟩)
              go_upto_region 4 with (fail)
              clear x0 x1
              refine wp_region_noPanic ?_
              refine wp_region_held_drew (S := R2 ⟨g, off + k, none⟩ (.int .i64 y) ⟨g, off + j, none⟩ (.int .i64 z)) (by kernel_rfl) ?_ (fun hHeld => ?_)
              · exact R2.old ((Old.refl wr).drew) HX.out
              (try simp only [Act.put]); (try simp only [List.setIfInBounds_toArray]); (try simp only [List.set_cons_succ]); (try simp only [List.set_cons_zero])
              clear hHeld
              refine wpAnyH_take (i := 0) (oi := { dst := some 10, op := Op.move (Operand.tmp 0), type := 22, pos := "ref.go:29", after := #[], guard := none }) (v := ?vk42) rfl (by kernel_rfl) (by kernel_rfl) (by kernel_rfl) (fun _ _ _ h => h) (Or.inl ⟨by rfl, ?hk42⟩) (R2.old ((Old.refl wr).drew) HX.out) ?rk42
              case hk42 => (intro wz hSw; (try dsimp only at hSw); go_simp; try with_reducible rfl)
              (try simp only [Act.put]); (try simp only [List.setIfInBounds_toArray]); (try simp only [List.set_cons_succ]); (try simp only [List.set_cons_zero])
              refine wpAnyH_take (i := 1) (oi := { dst := some 11, op := Op.move (Operand.tmp 3), type := 3, pos := "ref.go:29", after := #[], guard := none }) (v := ?vk43) rfl (by kernel_rfl) (by kernel_rfl) (by kernel_rfl) (fun _ _ _ h => h) (Or.inl ⟨by rfl, ?hk43⟩) (R2.old ((Old.refl wr).drew) HX.out) ?rk43
              case hk43 => (intro wz hSw; (try dsimp only at hSw); go_simp; try with_reducible rfl)
              (try simp only [Act.put]); (try simp only [List.setIfInBounds_toArray]); (try simp only [List.set_cons_succ]); (try simp only [List.set_cons_zero])
              refine wpAnyH_take (i := 2) (oi := { dst := some 12, op := Op.indexAddr 22 (Operand.tmp 10) (Operand.tmp 11), type := 0, pos := "ref.go:29", after := #[{ on := 0, ground := Ground.data }, { on := 1, ground := Ground.data }], guard := none }) (v := ?vk44) rfl (by kernel_rfl) (by kernel_rfl) (by kernel_rfl) (fun _ _ _ h => h) (Or.inl ⟨by rfl, ?hk44⟩) (R2.old ((Old.refl wr).drew) HX.out) ?rk44
              case hk44 => (intro wz hSw; (try dsimp only at hSw); go_simp; try with_reducible rfl)
              (try simp only [Act.put]); (try simp only [List.setIfInBounds_toArray]); (try simp only [List.set_cons_succ]); (try simp only [List.set_cons_zero])
              refine wpAnyH_take (i := 3) (oi := { dst := some 13, op := Op.load 3 (Operand.tmp 12), type := 3, pos := "ref.go:29", after := #[{ on := 2, ground := Ground.data }], guard := none }) (v := ?vk45) rfl (by kernel_rfl) (by kernel_rfl) (by kernel_rfl) (fun _ _ _ h => h) (Or.inl ⟨by rfl, ?hk45⟩) (R2.old ((Old.refl wr).drew) HX.out) ?rk45
              case hk45 => (intro wz hSw; (try dsimp only at hSw); go_simp; try with_reducible rfl)
              (try simp only [Act.put]); (try simp only [List.setIfInBounds_toArray]); (try simp only [List.set_cons_succ]); (try simp only [List.set_cons_zero])
              refine wpAnyH_take (i := 4) (oi := { dst := some 14, op := Op.binOp BinOp.lss 3 (Operand.tmp 13) (Operand.const (Value.int IntKind.i64 1)) 3, type := 4, pos := "ref.go:29", after := #[{ on := 3, ground := Ground.data }], guard := none }) (v := ?vk46) rfl (by kernel_rfl) (by kernel_rfl) (by kernel_rfl) (fun _ _ _ h => h) (Or.inl ⟨by rfl, ?hk46⟩) (R2.old ((Old.refl wr).drew) HX.out) ?rk46
              case hk46 => (intro wz hSw; (try dsimp only at hSw); go_simp; try with_reducible rfl)
              (try simp only [Act.put]); (try simp only [List.setIfInBounds_toArray]); (try simp only [List.set_cons_succ]); (try simp only [List.set_cons_zero])
              refine wpAnyH_take (i := 5) (oi := { dst := some 15, op := Op.move (Operand.tmp 14), type := 4, pos := "ref.go:29", after := #[{ on := 4, ground := Ground.data }], guard := none }) (v := ?vk47) rfl (by kernel_rfl) (by kernel_rfl) (by kernel_rfl) (fun _ _ _ h => h) (Or.inl ⟨by rfl, ?hk47⟩) (R2.old ((Old.refl wr).drew) HX.out) ?rk47
              case hk47 => (intro wz hSw; (try dsimp only at hSw); go_simp; try with_reducible rfl)
              (try simp only [Act.put]); (try simp only [List.setIfInBounds_toArray]); (try simp only [List.set_cons_succ]); (try simp only [List.set_cons_zero])
              refine wpAnyH_take (i := 6) (oi := { dst := some 16, op := Op.move (Operand.tmp 0), type := 22, pos := "ref.go:29", after := #[{ on := 5, ground := Ground.guard }], guard := some (5, false) }) (v := ?vk48) rfl (by kernel_rfl) (by kernel_rfl) (by kernel_rfl) (fun _ _ _ h => h) (Or.inl ⟨by rfl, ?hk48⟩) (R2.old ((Old.refl wr).drew) HX.out) ?rk48
              case hk48 => (intro wz hSw; (try dsimp only at hSw); go_simp; try with_reducible rfl)
              (try simp only [Act.put]); (try simp only [List.setIfInBounds_toArray]); (try simp only [List.set_cons_succ]); (try simp only [List.set_cons_zero])
              refine wpAnyH_take (i := 7) (oi := { dst := some 17, op := Op.move (Operand.tmp 3), type := 3, pos := "ref.go:29", after := #[{ on := 5, ground := Ground.guard }], guard := some (5, false) }) (v := ?vk49) rfl (by kernel_rfl) (by kernel_rfl) (by kernel_rfl) (fun _ _ _ h => h) (Or.inl ⟨by rfl, ?hk49⟩) (R2.old ((Old.refl wr).drew) HX.out) ?rk49
              case hk49 => (intro wz hSw; (try dsimp only at hSw); go_simp; try with_reducible rfl)
              (try simp only [Act.put]); (try simp only [List.setIfInBounds_toArray]); (try simp only [List.set_cons_succ]); (try simp only [List.set_cons_zero])
              refine wpAnyH_take (i := 8) (oi := { dst := some 18, op := Op.indexAddr 22 (Operand.tmp 16) (Operand.tmp 17), type := 0, pos := "ref.go:29", after := #[{ on := 6, ground := Ground.data }, { on := 7, ground := Ground.data }, { on := 5, ground := Ground.guard }], guard := some (5, false) }) (v := ?vk50) rfl (by kernel_rfl) (by kernel_rfl) (by kernel_rfl) (fun _ _ _ h => h) (Or.inl ⟨by rfl, ?hk50⟩) (R2.old ((Old.refl wr).drew) HX.out) ?rk50
              case hk50 => (intro wz hSw; (try dsimp only at hSw); go_simp; try with_reducible rfl)
              (try simp only [Act.put]); (try simp only [List.setIfInBounds_toArray]); (try simp only [List.set_cons_succ]); (try simp only [List.set_cons_zero])
              refine wpAnyH_take (i := 9) (oi := { dst := some 19, op := Op.load 3 (Operand.tmp 18), type := 3, pos := "ref.go:29", after := #[{ on := 8, ground := Ground.data }, { on := 5, ground := Ground.guard }], guard := some (5, false) }) (v := ?vk51) rfl (by kernel_rfl) (by kernel_rfl) (by kernel_rfl) (fun _ _ _ h => h) (Or.inl ⟨by rfl, ?hk51⟩) (R2.old ((Old.refl wr).drew) HX.out) ?rk51
              case hk51 => (intro wz hSw; (try dsimp only at hSw); go_simp; try with_reducible rfl)
              (try simp only [Act.put]); (try simp only [List.setIfInBounds_toArray]); (try simp only [List.set_cons_succ]); (try simp only [List.set_cons_zero])
              refine wpAnyH_take (i := 10) (oi := { dst := some 20, op := Op.binOp BinOp.gtr 3 (Operand.tmp 19) (Operand.const (Value.int IntKind.i64 7)) 3, type := 4, pos := "ref.go:29", after := #[{ on := 9, ground := Ground.data }, { on := 5, ground := Ground.guard }], guard := some (5, false) }) (v := ?vk52) rfl (by kernel_rfl) (by kernel_rfl) (by kernel_rfl) (fun _ _ _ h => h) (Or.inl ⟨by rfl, ?hk52⟩) (R2.old ((Old.refl wr).drew) HX.out) ?rk52
              case hk52 => (intro wz hSw; (try dsimp only at hSw); go_simp; try with_reducible rfl)
              (try simp only [Act.put]); (try simp only [List.setIfInBounds_toArray]); (try simp only [List.set_cons_succ]); (try simp only [List.set_cons_zero])
              refine wpAnyH_take (i := 11) (oi := { dst := some 21, op := Op.pick (Operand.tmp 15) (Operand.const (Value.bool true)) (Operand.tmp 20), type := 4, pos := "ref.go:29", after := #[{ on := 5, ground := Ground.data }, { on := 10, ground := Ground.data }], guard := none }) (v := ?vk53) rfl (by kernel_rfl) (by kernel_rfl) (by kernel_rfl) (fun _ _ _ h => h) (Or.inl ⟨by rfl, ?hk53⟩) (R2.old ((Old.refl wr).drew) HX.out) ?rk53
              case hk53 => (intro wz hSw; (try dsimp only at hSw); go_simp; try with_reducible rfl)
              (try simp only [Act.put]); (try simp only [List.setIfInBounds_toArray]); (try simp only [List.set_cons_succ]); (try simp only [List.set_cons_zero])
              refine wpAnyH_take (i := 12) (oi := { dst := some 22, op := Op.move (Operand.tmp 21), type := 4, pos := "ref.go:29", after := #[{ on := 11, ground := Ground.data }, { on := 5, ground := Ground.chain }], guard := none }) (v := ?vk54) rfl (by kernel_rfl) (by kernel_rfl) (by kernel_rfl) (fun _ _ _ h => h) (Or.inl ⟨by rfl, ?hk54⟩) (R2.old ((Old.refl wr).drew) HX.out) ?rk54
              case hk54 => (intro wz hSw; (try dsimp only at hSw); go_simp; try with_reducible rfl)
              (try simp only [Act.put]); (try simp only [List.setIfInBounds_toArray]); (try simp only [List.set_cons_succ]); (try simp only [List.set_cons_zero])
              refine wpAnyH_take (i := 13) (oi := { dst := some 23, op := Op.move (Operand.tmp 3), type := 3, pos := "ref.go:29", after := #[{ on := 12, ground := Ground.guard }], guard := some (12, false) }) (v := ?vk55) rfl (by kernel_rfl) (by kernel_rfl) (by kernel_rfl) (fun _ _ _ h => h) (Or.inl ⟨by rfl, ?hk55⟩) (R2.old ((Old.refl wr).drew) HX.out) ?rk55
              case hk55 => (intro wz hSw; (try dsimp only at hSw); go_simp; try with_reducible rfl)
              (try simp only [Act.put]); (try simp only [List.setIfInBounds_toArray]); (try simp only [List.set_cons_succ]); (try simp only [List.set_cons_zero])
              refine wpAnyH_take (i := 14) (oi := { dst := some 24, op := Op.binOp BinOp.gtr 3 (Operand.tmp 23) (Operand.const (Value.int IntKind.i64 0)) 3, type := 4, pos := "ref.go:29", after := #[{ on := 13, ground := Ground.data }, { on := 12, ground := Ground.guard }], guard := some (12, false) }) (v := ?vk56) rfl (by kernel_rfl) (by kernel_rfl) (by kernel_rfl) (fun _ _ _ h => h) (Or.inl ⟨by rfl, ?hk56⟩) (R2.old ((Old.refl wr).drew) HX.out) ?rk56
              case hk56 => (intro wz hSw; (try dsimp only at hSw); go_simp; try with_reducible rfl)
              (try simp only [Act.put]); (try simp only [List.setIfInBounds_toArray]); (try simp only [List.set_cons_succ]); (try simp only [List.set_cons_zero])
              refine wpAnyH_take (i := 15) (oi := { dst := some 25, op := Op.move (Operand.tmp 24), type := 4, pos := "ref.go:29", after := #[{ on := 14, ground := Ground.data }, { on := 12, ground := Ground.chain }, { on := 12, ground := Ground.guard }], guard := some (12, false) }) (v := ?vk57) rfl (by kernel_rfl) (by kernel_rfl) (by kernel_rfl) (fun _ _ _ h => h) (Or.inl ⟨by rfl, ?hk57⟩) (R2.old ((Old.refl wr).drew) HX.out) ?rk57
              case hk57 => (intro wz hSw; (try dsimp only at hSw); go_simp; try with_reducible rfl)
              (try simp only [Act.put]); (try simp only [List.setIfInBounds_toArray]); (try simp only [List.set_cons_succ]); (try simp only [List.set_cons_zero])
              refine wpAnyH_take (i := 16) (oi := { dst := some 26, op := Op.move (Operand.tmp 0), type := 22, pos := "ref.go:29", after := #[{ on := 15, ground := Ground.guard }], guard := some (15, true) }) (v := ?vk58) rfl (by kernel_rfl) (by kernel_rfl) (by kernel_rfl) (fun _ _ _ h => h) (Or.inl ⟨by rfl, ?hk58⟩) (R2.old ((Old.refl wr).drew) HX.out) ?rk58
              case hk58 => (intro wz hSw; (try dsimp only at hSw); go_simp; try with_reducible rfl)
              (try simp only [Act.put]); (try simp only [List.setIfInBounds_toArray]); (try simp only [List.set_cons_succ]); (try simp only [List.set_cons_zero])
              refine wpAnyH_take (i := 17) (oi := { dst := some 27, op := Op.move (Operand.tmp 3), type := 3, pos := "ref.go:29", after := #[{ on := 15, ground := Ground.guard }], guard := some (15, true) }) (v := ?vk59) rfl (by kernel_rfl) (by kernel_rfl) (by kernel_rfl) (fun _ _ _ h => h) (Or.inl ⟨by rfl, ?hk59⟩) (R2.old ((Old.refl wr).drew) HX.out) ?rk59
              case hk59 => (intro wz hSw; (try dsimp only at hSw); go_simp; try with_reducible rfl)
              (try simp only [Act.put]); (try simp only [List.setIfInBounds_toArray]); (try simp only [List.set_cons_succ]); (try simp only [List.set_cons_zero])
              refine wpAnyH_take (i := 18) (oi := { dst := some 28, op := Op.indexAddr 22 (Operand.tmp 26) (Operand.tmp 27), type := 0, pos := "ref.go:29", after := #[{ on := 16, ground := Ground.data }, { on := 17, ground := Ground.data }, { on := 15, ground := Ground.guard }], guard := some (15, true) }) (v := ?vk60) rfl (by kernel_rfl) (by kernel_rfl) (by kernel_rfl) (fun _ _ _ h => h) (Or.inl ⟨by rfl, ?hk60⟩) (R2.old ((Old.refl wr).drew) HX.out) ?rk60
              case hk60 => (intro wz hSw; (try dsimp only at hSw); go_simp; try with_reducible rfl)
              (try simp only [Act.put]); (try simp only [List.setIfInBounds_toArray]); (try simp only [List.set_cons_succ]); (try simp only [List.set_cons_zero])
              refine wpAnyH_take (i := 19) (oi := { dst := some 29, op := Op.load 3 (Operand.tmp 28), type := 3, pos := "ref.go:29", after := #[{ on := 18, ground := Ground.data }, { on := 15, ground := Ground.guard }], guard := some (15, true) }) (v := ?vk61) rfl (by kernel_rfl) (by kernel_rfl) (by kernel_rfl) (fun _ _ _ h => h) (Or.inl ⟨by rfl, ?hk61⟩) (R2.old ((Old.refl wr).drew) HX.out) ?rk61
              case hk61 => (intro wz hSw; (try dsimp only at hSw); go_simp; try with_reducible rfl)
              (try simp only [Act.put]); (try simp only [List.setIfInBounds_toArray]); (try simp only [List.set_cons_succ]); (try simp only [List.set_cons_zero])
              refine wpAnyH_take (i := 20) (oi := { dst := some 30, op := Op.move (Operand.tmp 0), type := 22, pos := "ref.go:29", after := #[{ on := 15, ground := Ground.guard }], guard := some (15, true) }) (v := ?vk62) rfl (by kernel_rfl) (by kernel_rfl) (by kernel_rfl) (fun _ _ _ h => h) (Or.inl ⟨by rfl, ?hk62⟩) (R2.old ((Old.refl wr).drew) HX.out) ?rk62
              case hk62 => (intro wz hSw; (try dsimp only at hSw); go_simp; try with_reducible rfl)
              (try simp only [Act.put]); (try simp only [List.setIfInBounds_toArray]); (try simp only [List.set_cons_succ]); (try simp only [List.set_cons_zero])
              refine wpAnyH_take (i := 21) (oi := { dst := some 31, op := Op.move (Operand.tmp 3), type := 3, pos := "ref.go:29", after := #[{ on := 15, ground := Ground.guard }], guard := some (15, true) }) (v := ?vk63) rfl (by kernel_rfl) (by kernel_rfl) (by kernel_rfl) (fun _ _ _ h => h) (Or.inl ⟨by rfl, ?hk63⟩) (R2.old ((Old.refl wr).drew) HX.out) ?rk63
              case hk63 => (intro wz hSw; (try dsimp only at hSw); go_simp; try with_reducible rfl)
              (try simp only [Act.put]); (try simp only [List.setIfInBounds_toArray]); (try simp only [List.set_cons_succ]); (try simp only [List.set_cons_zero])
              refine wpAnyH_take (i := 22) (oi := { dst := some 32, op := Op.binOp BinOp.sub 3 (Operand.tmp 31) (Operand.const (Value.int IntKind.i64 1)) 3, type := 3, pos := "ref.go:29", after := #[{ on := 21, ground := Ground.data }, { on := 15, ground := Ground.guard }], guard := some (15, true) }) (v := ?vk64) rfl (by kernel_rfl) (by kernel_rfl) (by kernel_rfl) (fun _ _ _ h => h) (Or.inl ⟨by rfl, ?hk64⟩) (R2.old ((Old.refl wr).drew) HX.out) ?rk64
              case hk64 => (intro wz hSw; (try dsimp only at hSw); go_simp; try with_reducible rfl)
              (try simp only [Act.put]); (try simp only [List.setIfInBounds_toArray]); (try simp only [List.set_cons_succ]); (try simp only [List.set_cons_zero])
              refine wpAnyH_take (i := 23) (oi := { dst := some 33, op := Op.indexAddr 22 (Operand.tmp 30) (Operand.tmp 32), type := 0, pos := "ref.go:29", after := #[{ on := 20, ground := Ground.data }, { on := 22, ground := Ground.data }, { on := 15, ground := Ground.guard }], guard := some (15, true) }) (v := ?vk65) rfl (by kernel_rfl) (by kernel_rfl) (by kernel_rfl) (fun _ _ _ h => h) (Or.inl ⟨by rfl, ?hk65⟩) (R2.old ((Old.refl wr).drew) HX.out) ?rk65
              case hk65 => (intro wz hSw; (try dsimp only at hSw); go_simp; try with_reducible rfl)
              (try simp only [Act.put]); (try simp only [List.setIfInBounds_toArray]); (try simp only [List.set_cons_succ]); (try simp only [List.set_cons_zero])
              refine wpAnyH_take (i := 24) (oi := { dst := some 34, op := Op.load 3 (Operand.tmp 33), type := 3, pos := "ref.go:29", after := #[{ on := 23, ground := Ground.data }, { on := 15, ground := Ground.guard }], guard := some (15, true) }) (v := ?vk66) rfl (by kernel_rfl) (by kernel_rfl) (by kernel_rfl) (fun _ _ _ h => h) (Or.inl ⟨by rfl, ?hk66⟩) (R2.old ((Old.refl wr).drew) HX.out) ?rk66
              case hk66 => (intro wz hSw; (try dsimp only at hSw); go_simp; try with_reducible rfl)
              (try simp only [Act.put]); (try simp only [List.setIfInBounds_toArray]); (try simp only [List.set_cons_succ]); (try simp only [List.set_cons_zero])
              refine wpAnyH_take (i := 25) (oi := { dst := some 35, op := Op.binOp BinOp.leq 3 (Operand.tmp 29) (Operand.tmp 34) 3, type := 4, pos := "ref.go:29", after := #[{ on := 19, ground := Ground.data }, { on := 24, ground := Ground.data }, { on := 15, ground := Ground.guard }], guard := some (15, true) }) (v := ?vk67) rfl (by kernel_rfl) (by kernel_rfl) (by kernel_rfl) (fun _ _ _ h => h) (Or.inl ⟨by rfl, ?hk67⟩) (R2.old ((Old.refl wr).drew) HX.out) ?rk67
              case hk67 => (intro wz hSw; (try dsimp only at hSw); go_simp; try with_reducible rfl)
              (try simp only [Act.put]); (try simp only [List.setIfInBounds_toArray]); (try simp only [List.set_cons_succ]); (try simp only [List.set_cons_zero])
              refine wpAnyH_take (i := 26) (oi := { dst := some 36, op := Op.pick (Operand.tmp 25) (Operand.tmp 35) (Operand.const (Value.bool false)), type := 4, pos := "ref.go:29", after := #[{ on := 15, ground := Ground.data }, { on := 25, ground := Ground.data }, { on := 12, ground := Ground.guard }], guard := some (12, false) }) (v := ?vk68) rfl (by kernel_rfl) (by kernel_rfl) (by kernel_rfl) (fun _ _ _ h => h) (Or.inl ⟨by rfl, ?hk68⟩) (R2.old ((Old.refl wr).drew) HX.out) ?rk68
              case hk68 => (intro wz hSw; (try dsimp only at hSw); go_simp; try with_reducible rfl)
              (try simp only [Act.put]); (try simp only [List.setIfInBounds_toArray]); (try simp only [List.set_cons_succ]); (try simp only [List.set_cons_zero])
              refine wpAnyH_take (i := 27) (oi := { dst := some 37, op := Op.pick (Operand.tmp 22) (Operand.const (Value.bool true)) (Operand.tmp 36), type := 4, pos := "ref.go:29", after := #[{ on := 12, ground := Ground.data }, { on := 26, ground := Ground.data }], guard := none }) (v := ?vk69) rfl (by kernel_rfl) (by kernel_rfl) (by kernel_rfl) (fun _ _ _ h => h) (Or.inl ⟨by rfl, ?hk69⟩) (R2.old ((Old.refl wr).drew) HX.out) ?rk69
              case hk69 => (intro wz hSw; (try dsimp only at hSw); go_simp; try with_reducible rfl)
              (try simp only [Act.put]); (try simp only [List.setIfInBounds_toArray]); (try simp only [List.set_cons_succ]); (try simp only [List.set_cons_zero])
              refine wpAnyH_done (by kernel_rfl) ?_ _
              refine NoPanic.normal ?_
              have UZ := hid ((Old.refl wr).drew)
              clear HX
              go_wp2
              go_ret
              exact ⟨ret_b (by rw [HR.out]), hu.trans UZ.out⟩
            · have HR := hid (HGo.out (by rw [Bool.and_eq_true]; exact ⟨decide_eq_true (by rw [lk]; omega), decide_eq_true (by omega)⟩))
              clear HC HSt HGo H0 hge lk
              generalize f k = y at *
              generalize f j = z at *
              have HX := hid (show R2 ⟨g, off + k, none⟩ (.int .i64 y) ⟨g, off + j, none⟩ (.int .i64 z) wr from ⟨x0, x1⟩)
              go_upto_region 4 with (fail)
              clear x0 x1
              refine wp_region_noPanic ?_
              refine wp_region_held_drew (S := R2 ⟨g, off + k, none⟩ (.int .i64 y) ⟨g, off + j, none⟩ (.int .i64 z)) (by kernel_rfl) ?_ (fun hHeld => ?_)
              · exact R2.old ((Old.refl wr).drew) HX.out
              (try simp only [Act.put]); (try simp only [List.setIfInBounds_toArray]); (try simp only [List.set_cons_succ]); (try simp only [List.set_cons_zero])
              clear hHeld
              refine wpAnyH_take (i := 0) (oi := { dst := some 10, op := Op.move (Operand.tmp 0), type := 22, pos := "ref.go:29", after := #[], guard := none }) (v := ?vk70) rfl (by kernel_rfl) (by kernel_rfl) (by kernel_rfl) (fun _ _ _ h => h) (Or.inl ⟨by rfl, ?hk70⟩) (R2.old ((Old.refl wr).drew) HX.out) ?rk70
              case hk70 => (intro wz hSw; (try dsimp only at hSw); go_simp; try with_reducible rfl)
              (try simp only [Act.put]); (try simp only [List.setIfInBounds_toArray]); (try simp only [List.set_cons_succ]); (try simp only [List.set_cons_zero])
              refine wpAnyH_take (i := 1) (oi := { dst := some 11, op := Op.move (Operand.tmp 3), type := 3, pos := "ref.go:29", after := #[], guard := none }) (v := ?vk71) rfl (by kernel_rfl) (by kernel_rfl) (by kernel_rfl) (fun _ _ _ h => h) (Or.inl ⟨by rfl, ?hk71⟩) (R2.old ((Old.refl wr).drew) HX.out) ?rk71
              case hk71 => (intro wz hSw; (try dsimp only at hSw); go_simp; try with_reducible rfl)
              (try simp only [Act.put]); (try simp only [List.setIfInBounds_toArray]); (try simp only [List.set_cons_succ]); (try simp only [List.set_cons_zero])
              refine wpAnyH_take (i := 2) (oi := { dst := some 12, op := Op.indexAddr 22 (Operand.tmp 10) (Operand.tmp 11), type := 0, pos := "ref.go:29", after := #[{ on := 0, ground := Ground.data }, { on := 1, ground := Ground.data }], guard := none }) (v := ?vk72) rfl (by kernel_rfl) (by kernel_rfl) (by kernel_rfl) (fun _ _ _ h => h) (Or.inl ⟨by rfl, ?hk72⟩) (R2.old ((Old.refl wr).drew) HX.out) ?rk72
              case hk72 => (intro wz hSw; (try dsimp only at hSw); go_simp; try with_reducible rfl)
              (try simp only [Act.put]); (try simp only [List.setIfInBounds_toArray]); (try simp only [List.set_cons_succ]); (try simp only [List.set_cons_zero])
              refine wpAnyH_take (i := 3) (oi := { dst := some 13, op := Op.load 3 (Operand.tmp 12), type := 3, pos := "ref.go:29", after := #[{ on := 2, ground := Ground.data }], guard := none }) (v := ?vk73) rfl (by kernel_rfl) (by kernel_rfl) (by kernel_rfl) (fun _ _ _ h => h) (Or.inl ⟨by rfl, ?hk73⟩) (R2.old ((Old.refl wr).drew) HX.out) ?rk73
              case hk73 => (intro wz hSw; (try dsimp only at hSw); go_simp; try with_reducible rfl)
              (try simp only [Act.put]); (try simp only [List.setIfInBounds_toArray]); (try simp only [List.set_cons_succ]); (try simp only [List.set_cons_zero])
              refine wpAnyH_take (i := 4) (oi := { dst := some 14, op := Op.binOp BinOp.lss 3 (Operand.tmp 13) (Operand.const (Value.int IntKind.i64 1)) 3, type := 4, pos := "ref.go:29", after := #[{ on := 3, ground := Ground.data }], guard := none }) (v := ?vk74) rfl (by kernel_rfl) (by kernel_rfl) (by kernel_rfl) (fun _ _ _ h => h) (Or.inl ⟨by rfl, ?hk74⟩) (R2.old ((Old.refl wr).drew) HX.out) ?rk74
              case hk74 => (intro wz hSw; (try dsimp only at hSw); go_simp; try with_reducible rfl)
              (try simp only [Act.put]); (try simp only [List.setIfInBounds_toArray]); (try simp only [List.set_cons_succ]); (try simp only [List.set_cons_zero])
              refine wpAnyH_take (i := 5) (oi := { dst := some 15, op := Op.move (Operand.tmp 14), type := 4, pos := "ref.go:29", after := #[{ on := 4, ground := Ground.data }], guard := none }) (v := ?vk75) rfl (by kernel_rfl) (by kernel_rfl) (by kernel_rfl) (fun _ _ _ h => h) (Or.inl ⟨by rfl, ?hk75⟩) (R2.old ((Old.refl wr).drew) HX.out) ?rk75
              case hk75 => (intro wz hSw; (try dsimp only at hSw); go_simp; try with_reducible rfl)
              (try simp only [Act.put]); (try simp only [List.setIfInBounds_toArray]); (try simp only [List.set_cons_succ]); (try simp only [List.set_cons_zero])
              refine wpAnyH_take (i := 6) (oi := { dst := some 16, op := Op.move (Operand.tmp 0), type := 22, pos := "ref.go:29", after := #[{ on := 5, ground := Ground.guard }], guard := some (5, false) }) (v := ?vk76) rfl (by kernel_rfl) (by kernel_rfl) (by kernel_rfl) (fun _ _ _ h => h) (Or.inl ⟨by rfl, ?hk76⟩) (R2.old ((Old.refl wr).drew) HX.out) ?rk76
              case hk76 => (intro wz hSw; (try dsimp only at hSw); go_simp; try with_reducible rfl)
              (try simp only [Act.put]); (try simp only [List.setIfInBounds_toArray]); (try simp only [List.set_cons_succ]); (try simp only [List.set_cons_zero])
              refine wpAnyH_take (i := 7) (oi := { dst := some 17, op := Op.move (Operand.tmp 3), type := 3, pos := "ref.go:29", after := #[{ on := 5, ground := Ground.guard }], guard := some (5, false) }) (v := ?vk77) rfl (by kernel_rfl) (by kernel_rfl) (by kernel_rfl) (fun _ _ _ h => h) (Or.inl ⟨by rfl, ?hk77⟩) (R2.old ((Old.refl wr).drew) HX.out) ?rk77
              case hk77 => (intro wz hSw; (try dsimp only at hSw); go_simp; try with_reducible rfl)
              (try simp only [Act.put]); (try simp only [List.setIfInBounds_toArray]); (try simp only [List.set_cons_succ]); (try simp only [List.set_cons_zero])
              refine wpAnyH_take (i := 8) (oi := { dst := some 18, op := Op.indexAddr 22 (Operand.tmp 16) (Operand.tmp 17), type := 0, pos := "ref.go:29", after := #[{ on := 6, ground := Ground.data }, { on := 7, ground := Ground.data }, { on := 5, ground := Ground.guard }], guard := some (5, false) }) (v := ?vk78) rfl (by kernel_rfl) (by kernel_rfl) (by kernel_rfl) (fun _ _ _ h => h) (Or.inl ⟨by rfl, ?hk78⟩) (R2.old ((Old.refl wr).drew) HX.out) ?rk78
              case hk78 => (intro wz hSw; (try dsimp only at hSw); go_simp; try with_reducible rfl)
              (try simp only [Act.put]); (try simp only [List.setIfInBounds_toArray]); (try simp only [List.set_cons_succ]); (try simp only [List.set_cons_zero])
              refine wpAnyH_take (i := 9) (oi := { dst := some 19, op := Op.load 3 (Operand.tmp 18), type := 3, pos := "ref.go:29", after := #[{ on := 8, ground := Ground.data }, { on := 5, ground := Ground.guard }], guard := some (5, false) }) (v := ?vk79) rfl (by kernel_rfl) (by kernel_rfl) (by kernel_rfl) (fun _ _ _ h => h) (Or.inl ⟨by rfl, ?hk79⟩) (R2.old ((Old.refl wr).drew) HX.out) ?rk79
              case hk79 => (intro wz hSw; (try dsimp only at hSw); go_simp; try with_reducible rfl)
              (try simp only [Act.put]); (try simp only [List.setIfInBounds_toArray]); (try simp only [List.set_cons_succ]); (try simp only [List.set_cons_zero])
              refine wpAnyH_take (i := 10) (oi := { dst := some 20, op := Op.binOp BinOp.gtr 3 (Operand.tmp 19) (Operand.const (Value.int IntKind.i64 7)) 3, type := 4, pos := "ref.go:29", after := #[{ on := 9, ground := Ground.data }, { on := 5, ground := Ground.guard }], guard := some (5, false) }) (v := ?vk80) rfl (by kernel_rfl) (by kernel_rfl) (by kernel_rfl) (fun _ _ _ h => h) (Or.inl ⟨by rfl, ?hk80⟩) (R2.old ((Old.refl wr).drew) HX.out) ?rk80
              case hk80 => (intro wz hSw; (try dsimp only at hSw); go_simp; try with_reducible rfl)
              (try simp only [Act.put]); (try simp only [List.setIfInBounds_toArray]); (try simp only [List.set_cons_succ]); (try simp only [List.set_cons_zero])
              refine wpAnyH_take (i := 11) (oi := { dst := some 21, op := Op.pick (Operand.tmp 15) (Operand.const (Value.bool true)) (Operand.tmp 20), type := 4, pos := "ref.go:29", after := #[{ on := 5, ground := Ground.data }, { on := 10, ground := Ground.data }], guard := none }) (v := ?vk81) rfl (by kernel_rfl) (by kernel_rfl) (by kernel_rfl) (fun _ _ _ h => h) (Or.inl ⟨by rfl, ?hk81⟩) (R2.old ((Old.refl wr).drew) HX.out) ?rk81
              case hk81 => (intro wz hSw; (try dsimp only at hSw); go_simp; try with_reducible rfl)
              (try simp only [Act.put]); (try simp only [List.setIfInBounds_toArray]); (try simp only [List.set_cons_succ]); (try simp only [List.set_cons_zero])
              refine wpAnyH_take (i := 12) (oi := { dst := some 22, op := Op.move (Operand.tmp 21), type := 4, pos := "ref.go:29", after := #[{ on := 11, ground := Ground.data }, { on := 5, ground := Ground.chain }], guard := none }) (v := ?vk82) rfl (by kernel_rfl) (by kernel_rfl) (by kernel_rfl) (fun _ _ _ h => h) (Or.inl ⟨by rfl, ?hk82⟩) (R2.old ((Old.refl wr).drew) HX.out) ?rk82
              case hk82 => (intro wz hSw; (try dsimp only at hSw); go_simp; try with_reducible rfl)
              (try simp only [Act.put]); (try simp only [List.setIfInBounds_toArray]); (try simp only [List.set_cons_succ]); (try simp only [List.set_cons_zero])
              refine wpAnyH_take (i := 13) (oi := { dst := some 23, op := Op.move (Operand.tmp 3), type := 3, pos := "ref.go:29", after := #[{ on := 12, ground := Ground.guard }], guard := some (12, false) }) (v := ?vk83) rfl (by kernel_rfl) (by kernel_rfl) (by kernel_rfl) (fun _ _ _ h => h) (Or.inl ⟨by rfl, ?hk83⟩) (R2.old ((Old.refl wr).drew) HX.out) ?rk83
              case hk83 => (intro wz hSw; (try dsimp only at hSw); go_simp; try with_reducible rfl)
              (try simp only [Act.put]); (try simp only [List.setIfInBounds_toArray]); (try simp only [List.set_cons_succ]); (try simp only [List.set_cons_zero])
              refine wpAnyH_take (i := 14) (oi := { dst := some 24, op := Op.binOp BinOp.gtr 3 (Operand.tmp 23) (Operand.const (Value.int IntKind.i64 0)) 3, type := 4, pos := "ref.go:29", after := #[{ on := 13, ground := Ground.data }, { on := 12, ground := Ground.guard }], guard := some (12, false) }) (v := ?vk84) rfl (by kernel_rfl) (by kernel_rfl) (by kernel_rfl) (fun _ _ _ h => h) (Or.inl ⟨by rfl, ?hk84⟩) (R2.old ((Old.refl wr).drew) HX.out) ?rk84
              case hk84 => (intro wz hSw; (try dsimp only at hSw); go_simp; try with_reducible rfl)
              (try simp only [Act.put]); (try simp only [List.setIfInBounds_toArray]); (try simp only [List.set_cons_succ]); (try simp only [List.set_cons_zero])
              refine wpAnyH_take (i := 15) (oi := { dst := some 25, op := Op.move (Operand.tmp 24), type := 4, pos := "ref.go:29", after := #[{ on := 14, ground := Ground.data }, { on := 12, ground := Ground.chain }, { on := 12, ground := Ground.guard }], guard := some (12, false) }) (v := ?vk85) rfl (by kernel_rfl) (by kernel_rfl) (by kernel_rfl) (fun _ _ _ h => h) (Or.inl ⟨by rfl, ?hk85⟩) (R2.old ((Old.refl wr).drew) HX.out) ?rk85
              case hk85 => (intro wz hSw; (try dsimp only at hSw); go_simp; try with_reducible rfl)
              (try simp only [Act.put]); (try simp only [List.setIfInBounds_toArray]); (try simp only [List.set_cons_succ]); (try simp only [List.set_cons_zero])
              refine wpAnyH_take (i := 16) (oi := { dst := some 26, op := Op.move (Operand.tmp 0), type := 22, pos := "ref.go:29", after := #[{ on := 15, ground := Ground.guard }], guard := some (15, true) }) (v := ?vk86) rfl (by kernel_rfl) (by kernel_rfl) (by kernel_rfl) (fun _ _ _ h => h) (Or.inl ⟨by rfl, ?hk86⟩) (R2.old ((Old.refl wr).drew) HX.out) ?rk86
              case hk86 => (intro wz hSw; (try dsimp only at hSw); go_simp; try with_reducible rfl)
              (try simp only [Act.put]); (try simp only [List.setIfInBounds_toArray]); (try simp only [List.set_cons_succ]); (try simp only [List.set_cons_zero])
              refine wpAnyH_take (i := 17) (oi := { dst := some 27, op := Op.move (Operand.tmp 3), type := 3, pos := "ref.go:29", after := #[{ on := 15, ground := Ground.guard }], guard := some (15, true) }) (v := ?vk87) rfl (by kernel_rfl) (by kernel_rfl) (by kernel_rfl) (fun _ _ _ h => h) (Or.inl ⟨by rfl, ?hk87⟩) (R2.old ((Old.refl wr).drew) HX.out) ?rk87
              case hk87 => (intro wz hSw; (try dsimp only at hSw); go_simp; try with_reducible rfl)
              (try simp only [Act.put]); (try simp only [List.setIfInBounds_toArray]); (try simp only [List.set_cons_succ]); (try simp only [List.set_cons_zero])
              refine wpAnyH_take (i := 18) (oi := { dst := some 28, op := Op.indexAddr 22 (Operand.tmp 26) (Operand.tmp 27), type := 0, pos := "ref.go:29", after := #[{ on := 16, ground := Ground.data }, { on := 17, ground := Ground.data }, { on := 15, ground := Ground.guard }], guard := some (15, true) }) (v := ?vk88) rfl (by kernel_rfl) (by kernel_rfl) (by kernel_rfl) (fun _ _ _ h => h) (Or.inl ⟨by rfl, ?hk88⟩) (R2.old ((Old.refl wr).drew) HX.out) ?rk88
              case hk88 => (intro wz hSw; (try dsimp only at hSw); go_simp; try with_reducible rfl)
              (try simp only [Act.put]); (try simp only [List.setIfInBounds_toArray]); (try simp only [List.set_cons_succ]); (try simp only [List.set_cons_zero])
              refine wpAnyH_take (i := 19) (oi := { dst := some 29, op := Op.load 3 (Operand.tmp 28), type := 3, pos := "ref.go:29", after := #[{ on := 18, ground := Ground.data }, { on := 15, ground := Ground.guard }], guard := some (15, true) }) (v := ?vk89) rfl (by kernel_rfl) (by kernel_rfl) (by kernel_rfl) (fun _ _ _ h => h) (Or.inl ⟨by rfl, ?hk89⟩) (R2.old ((Old.refl wr).drew) HX.out) ?rk89
              case hk89 => (intro wz hSw; (try dsimp only at hSw); go_simp; try with_reducible rfl)
              (try simp only [Act.put]); (try simp only [List.setIfInBounds_toArray]); (try simp only [List.set_cons_succ]); (try simp only [List.set_cons_zero])
              refine wpAnyH_take (i := 20) (oi := { dst := some 30, op := Op.move (Operand.tmp 0), type := 22, pos := "ref.go:29", after := #[{ on := 15, ground := Ground.guard }], guard := some (15, true) }) (v := ?vk90) rfl (by kernel_rfl) (by kernel_rfl) (by kernel_rfl) (fun _ _ _ h => h) (Or.inl ⟨by rfl, ?hk90⟩) (R2.old ((Old.refl wr).drew) HX.out) ?rk90
              case hk90 => (intro wz hSw; (try dsimp only at hSw); go_simp; try with_reducible rfl)
              (try simp only [Act.put]); (try simp only [List.setIfInBounds_toArray]); (try simp only [List.set_cons_succ]); (try simp only [List.set_cons_zero])
              refine wpAnyH_take (i := 21) (oi := { dst := some 31, op := Op.move (Operand.tmp 3), type := 3, pos := "ref.go:29", after := #[{ on := 15, ground := Ground.guard }], guard := some (15, true) }) (v := ?vk91) rfl (by kernel_rfl) (by kernel_rfl) (by kernel_rfl) (fun _ _ _ h => h) (Or.inl ⟨by rfl, ?hk91⟩) (R2.old ((Old.refl wr).drew) HX.out) ?rk91
              case hk91 => (intro wz hSw; (try dsimp only at hSw); go_simp; try with_reducible rfl)
              (try simp only [Act.put]); (try simp only [List.setIfInBounds_toArray]); (try simp only [List.set_cons_succ]); (try simp only [List.set_cons_zero])
              refine wpAnyH_take (i := 22) (oi := { dst := some 32, op := Op.binOp BinOp.sub 3 (Operand.tmp 31) (Operand.const (Value.int IntKind.i64 1)) 3, type := 3, pos := "ref.go:29", after := #[{ on := 21, ground := Ground.data }, { on := 15, ground := Ground.guard }], guard := some (15, true) }) (v := ?vk92) rfl (by kernel_rfl) (by kernel_rfl) (by kernel_rfl) (fun _ _ _ h => h) (Or.inl ⟨by rfl, ?hk92⟩) (R2.old ((Old.refl wr).drew) HX.out) ?rk92
              case hk92 => (intro wz hSw; (try dsimp only at hSw); go_simp; try with_reducible rfl)
              (try simp only [Act.put]); (try simp only [List.setIfInBounds_toArray]); (try simp only [List.set_cons_succ]); (try simp only [List.set_cons_zero])
              refine wpAnyH_take (i := 23) (oi := { dst := some 33, op := Op.indexAddr 22 (Operand.tmp 30) (Operand.tmp 32), type := 0, pos := "ref.go:29", after := #[{ on := 20, ground := Ground.data }, { on := 22, ground := Ground.data }, { on := 15, ground := Ground.guard }], guard := some (15, true) }) (v := ?vk93) rfl (by kernel_rfl) (by kernel_rfl) (by kernel_rfl) (fun _ _ _ h => h) (Or.inl ⟨by rfl, ?hk93⟩) (R2.old ((Old.refl wr).drew) HX.out) ?rk93
              case hk93 => (intro wz hSw; (try dsimp only at hSw); go_simp; try with_reducible rfl)
              (try simp only [Act.put]); (try simp only [List.setIfInBounds_toArray]); (try simp only [List.set_cons_succ]); (try simp only [List.set_cons_zero])
              refine wpAnyH_take (i := 24) (oi := { dst := some 34, op := Op.load 3 (Operand.tmp 33), type := 3, pos := "ref.go:29", after := #[{ on := 23, ground := Ground.data }, { on := 15, ground := Ground.guard }], guard := some (15, true) }) (v := ?vk94) rfl (by kernel_rfl) (by kernel_rfl) (by kernel_rfl) (fun _ _ _ h => h) (Or.inl ⟨by rfl, ?hk94⟩) (R2.old ((Old.refl wr).drew) HX.out) ?rk94
              case hk94 => (intro wz hSw; (try dsimp only at hSw); go_simp; try with_reducible rfl)
              (try simp only [Act.put]); (try simp only [List.setIfInBounds_toArray]); (try simp only [List.set_cons_succ]); (try simp only [List.set_cons_zero])
              refine wpAnyH_take (i := 25) (oi := { dst := some 35, op := Op.binOp BinOp.leq 3 (Operand.tmp 29) (Operand.tmp 34) 3, type := 4, pos := "ref.go:29", after := #[{ on := 19, ground := Ground.data }, { on := 24, ground := Ground.data }, { on := 15, ground := Ground.guard }], guard := some (15, true) }) (v := ?vk95) rfl (by kernel_rfl) (by kernel_rfl) (by kernel_rfl) (fun _ _ _ h => h) (Or.inl ⟨by rfl, ?hk95⟩) (R2.old ((Old.refl wr).drew) HX.out) ?rk95
              case hk95 => (intro wz hSw; (try dsimp only at hSw); go_simp; try with_reducible rfl)
              (try simp only [Act.put]); (try simp only [List.setIfInBounds_toArray]); (try simp only [List.set_cons_succ]); (try simp only [List.set_cons_zero])
              refine wpAnyH_take (i := 26) (oi := { dst := some 36, op := Op.pick (Operand.tmp 25) (Operand.tmp 35) (Operand.const (Value.bool false)), type := 4, pos := "ref.go:29", after := #[{ on := 15, ground := Ground.data }, { on := 25, ground := Ground.data }, { on := 12, ground := Ground.guard }], guard := some (12, false) }) (v := ?vk96) rfl (by kernel_rfl) (by kernel_rfl) (by kernel_rfl) (fun _ _ _ h => h) (Or.inl ⟨by rfl, ?hk96⟩) (R2.old ((Old.refl wr).drew) HX.out) ?rk96
              case hk96 => (intro wz hSw; (try dsimp only at hSw); go_simp; try with_reducible rfl)
              (try simp only [Act.put]); (try simp only [List.setIfInBounds_toArray]); (try simp only [List.set_cons_succ]); (try simp only [List.set_cons_zero])
              refine wpAnyH_take (i := 27) (oi := { dst := some 37, op := Op.pick (Operand.tmp 22) (Operand.const (Value.bool true)) (Operand.tmp 36), type := 4, pos := "ref.go:29", after := #[{ on := 12, ground := Ground.data }, { on := 26, ground := Ground.data }], guard := none }) (v := ?vk97) rfl (by kernel_rfl) (by kernel_rfl) (by kernel_rfl) (fun _ _ _ h => h) (Or.inl ⟨by rfl, ?hk97⟩) (R2.old ((Old.refl wr).drew) HX.out) ?rk97
              case hk97 => (intro wz hSw; (try dsimp only at hSw); go_simp; try with_reducible rfl)
              (try simp only [Act.put]); (try simp only [List.setIfInBounds_toArray]); (try simp only [List.set_cons_succ]); (try simp only [List.set_cons_zero])
              refine wpAnyH_done (by kernel_rfl) ?_ _
              refine NoPanic.normal ?_
              have UZ := hid ((Old.refl wr).drew)
              clear HX
              go_wp2
              go_roundw
              case rel => exact ⟨k + 1, hlt, by go_num, HR.out, hu.trans UZ.out⟩
              case measure => simp [intOf]; omega
    · obtain rfl : n = k := by omega
      clear HC
      go_wp2
      go_ret
      exact ⟨ret_b (by rw [H0.out]), hu⟩
set_option maxHeartbeats 4000000 in
set_option maxRecDepth 20000 in
theorem rRightConf_any (v1 v2 : Value) (n m : Nat) (f g : Nat → Int) (w : World) (h1 : NRowL w v1 n f) (h2 : NRowL w v2 m g) :
    Calls Try.prog 68 #[.agg #[v1, v2]] w fun e w' => e = .returned (.bool (riK f n && (riK g m && !anyK (fun i => hasK g (f i) m) n))) ∧ Old w w' := by
  have HA := hid (fun (W : World) (u : Old w W) => rRising_any v1 n f W (h1.old u))
  have HB := hid (fun (W : World) (u : Old w W) => rRising_any v2 m g W (h2.old u))
  have HH := hid (fun (x : Int) (W : World) (u : Old w W) => rHas_any v2 m g x W (h2.old u))
  obtain ⟨hn, p1, c1, rfl, _, _, hc⟩ := h1
  obtain ⟨hm, p2, c2, rfl, _, _, _⟩ := h2
  have HC := hid hc
  have hmm : (n : Int) ≤ 17592186044000 := by omega
  clear hc
  have tok1 : True := trivial
  go_enter Try.func68, Try.ntmps68
  cases e1 : riK f n with
  | false =>
    rw [e1] at HA
    go_wp2_with (go_at_call 72; refine (HA.out _ ((Old.refl w).alloc _)).mono ?_; rintro e w1 ⟨rfl, u1⟩; have U1 := hid (((Old.refl w).alloc _).trans u1); clear u1)
    go_ret
    exact ⟨by simp, U1.out⟩
  | true =>
    rw [e1] at HA
    cases e2 : riK g m with
    | false =>
      rw [e2] at HB
      go_wp2_with (first | (go_at_call 72; have _t := tok1; clear tok1 _t; refine (HA.out _ ((Old.refl w).alloc _)).mono ?_; rintro e w1 ⟨rfl, u1⟩; have U1 := hid (((Old.refl w).alloc _).trans u1); have x1 : w1.cell? ⟨w.heap.size, 1, none⟩ = some (.slice p2 m c2) := u1.keep (by simp); clear u1) | (go_at_call 72; refine (HB.out _ U1.out).mono ?_; rintro e w2 ⟨rfl, u2⟩; have U2 := hid (U1.out.trans u2); clear u2))
      go_ret
      exact ⟨by simp, U2.out⟩
    | true =>
      rw [e2] at HB
      go_upto_region 4 with (first | (go_at_call 72; have _t := tok1; clear tok1 _t; refine (HA.out _ ((Old.refl w).alloc _)).mono ?_; rintro e w1 ⟨rfl, u1⟩; have U1 := hid (((Old.refl w).alloc _).trans u1); have x0 : w1.cell? ⟨w.heap.size, 0, none⟩ = some (.slice p1 n c1) := u1.keep (by simp); have x1 : w1.cell? ⟨w.heap.size, 1, none⟩ = some (.slice p2 m c2) := u1.keep (by simp); clear u1) | (go_at_call 72; refine (HB.out _ U1.out).mono ?_; rintro e w2 ⟨rfl, u2⟩; have U2 := hid (U1.out.trans u2); have y0 := u2.keep x0; have y1 := u2.keep x1; clear u2))
      clear HA HB x0 x1 U1
      generalize w.heap.size = cb at *
      have HNo := hid (fun (h : ∀ i, i < n → hasK g (f i) m = false) => anyK_no (p := fun i => hasK g (f i) m) h)
      have HYe := hid (fun (i : Nat) (hi : i < n) (e : hasK g (f i) m = true) => anyK_at (fun i => hasK g (f i) m) n i hi e)
      go_loopw [3] (fun i wr => ∃ k : Nat, k ≤ n ∧ i = .int .i64 (k : Nat) ∧ (∀ i, i < k → hasK g (f i) m = false) ∧ Old w2 wr) (fun i _ => n - (intOf i).toNat)
      case atStart => exact ⟨0, Nat.zero_le _, rfl, fun i hi => by omega, Old.refl _⟩
      case round =>
        obtain ⟨k, hk, rfl, h0, hu⟩ := hrel
        have H0 := hid h0
        clear h0
        have z0 := hu.keep y0
        have z1 := hu.keep y1
        by_cases hlt : k < n
        · obtain ⟨b, off, ha, c0⟩ := HC.out k hlt
          subst ha
          have z2 := (U2.out.trans hu).keep c0
          have l1 : (0 : Int) ≤ (k : Int) := by omega
          have l2 : (k : Int) < (n : Int) := by omega
          have HQ := hid (fun (W : World) (u : Old wr W) => HH.out (f k) W ((U2.out.trans hu).trans u))
          clear c0
          cases ek : hasK g (f k) m with
          | true =>
            have HR := hid (HYe.out k hlt ek)
            rw [ek] at HQ
            clear HC HNo HYe HH H0 ek
            generalize f k = y at *
            have HX := hid (show R3 ⟨b, off + k, none⟩ (.int .i64 y) ⟨cb, 0, none⟩ (.slice (some ⟨b, off, none⟩) n c1) ⟨cb, 1, none⟩ (.slice p2 m c2) wr from ⟨z2, z0, z1⟩)
            go_upto_region 6 with (fail)
            clear z0 z1 z2 y0 y1
            refine wp_region_noPanic ?_
            refine wp_region_held_drew (S := R3 ⟨b, off + k, none⟩ (.int .i64 y) ⟨cb, 0, none⟩ (.slice (some ⟨b, off, none⟩) n c1) ⟨cb, 1, none⟩ (.slice p2 m c2)) (by kernel_rfl) ?_ (fun hHeld => ?_)
            · exact R3.old ((Old.refl wr).drew) HX.out
            (try simp only [Act.put]); (try simp only [List.setIfInBounds_toArray]); (try simp only [List.set_cons_succ]); (try simp only [List.set_cons_zero])
            clear hHeld
            refine wpAnyH_take (i := 0) (oi := { dst := some 21, op := Op.fieldAddr 24 (Operand.tmp 1) 1, type := 0, pos := "ref.go:52", after := #[], guard := none }) (v := ?vk98) rfl (by kernel_rfl) (by kernel_rfl) (by kernel_rfl) (fun _ _ _ h => h) (Or.inl ⟨by rfl, ?hk98⟩) (R3.old ((Old.refl wr).drew) HX.out) ?rk98
            case hk98 => (intro wz hSw; (try dsimp only at hSw); go_simp; try with_reducible rfl)
            (try simp only [Act.put]); (try simp only [List.setIfInBounds_toArray]); (try simp only [List.set_cons_succ]); (try simp only [List.set_cons_zero])
            refine wpAnyH_take (i := 1) (oi := { dst := some 22, op := Op.load 22 (Operand.tmp 21), type := 22, pos := "ref.go:52", after := #[{ on := 0, ground := Ground.data }], guard := none }) (v := ?vk99) rfl (by kernel_rfl) (by kernel_rfl) (by kernel_rfl) (fun _ _ _ h => h) (Or.inl ⟨by rfl, ?hk99⟩) (R3.old ((Old.refl wr).drew) HX.out) ?rk99
            case hk99 => (intro wz hSw; (try dsimp only at hSw); go_simp; try with_reducible rfl)
            (try simp only [Act.put]); (try simp only [List.setIfInBounds_toArray]); (try simp only [List.set_cons_succ]); (try simp only [List.set_cons_zero])
            refine wpAnyH_take (i := 2) (oi := { dst := some 23, op := Op.fieldAddr 24 (Operand.tmp 1) 0, type := 0, pos := "ref.go:52", after := #[], guard := none }) (v := ?vk100) rfl (by kernel_rfl) (by kernel_rfl) (by kernel_rfl) (fun _ _ _ h => h) (Or.inl ⟨by rfl, ?hk100⟩) (R3.old ((Old.refl wr).drew) HX.out) ?rk100
            case hk100 => (intro wz hSw; (try dsimp only at hSw); go_simp; try with_reducible rfl)
            (try simp only [Act.put]); (try simp only [List.setIfInBounds_toArray]); (try simp only [List.set_cons_succ]); (try simp only [List.set_cons_zero])
            refine wpAnyH_take (i := 3) (oi := { dst := some 24, op := Op.load 22 (Operand.tmp 23), type := 22, pos := "ref.go:52", after := #[{ on := 2, ground := Ground.data }], guard := none }) (v := ?vk101) rfl (by kernel_rfl) (by kernel_rfl) (by kernel_rfl) (fun _ _ _ h => h) (Or.inl ⟨by rfl, ?hk101⟩) (R3.old ((Old.refl wr).drew) HX.out) ?rk101
            case hk101 => (intro wz hSw; (try dsimp only at hSw); go_simp; try with_reducible rfl)
            (try simp only [Act.put]); (try simp only [List.setIfInBounds_toArray]); (try simp only [List.set_cons_succ]); (try simp only [List.set_cons_zero])
            refine wpAnyH_take (i := 4) (oi := { dst := some 25, op := Op.move (Operand.tmp 3), type := 3, pos := "ref.go:52", after := #[], guard := none }) (v := ?vk102) rfl (by kernel_rfl) (by kernel_rfl) (by kernel_rfl) (fun _ _ _ h => h) (Or.inl ⟨by rfl, ?hk102⟩) (R3.old ((Old.refl wr).drew) HX.out) ?rk102
            case hk102 => (intro wz hSw; (try dsimp only at hSw); go_simp; try with_reducible rfl)
            (try simp only [Act.put]); (try simp only [List.setIfInBounds_toArray]); (try simp only [List.set_cons_succ]); (try simp only [List.set_cons_zero])
            refine wpAnyH_take (i := 5) (oi := { dst := some 26, op := Op.indexAddr 22 (Operand.tmp 24) (Operand.tmp 25), type := 0, pos := "ref.go:52", after := #[{ on := 3, ground := Ground.data }, { on := 4, ground := Ground.data }], guard := none }) (v := ?vk103) rfl (by kernel_rfl) (by kernel_rfl) (by kernel_rfl) (fun _ _ _ h => h) (Or.inl ⟨by rfl, ?hk103⟩) (R3.old ((Old.refl wr).drew) HX.out) ?rk103
            case hk103 => (intro wz hSw; (try dsimp only at hSw); go_simp; try with_reducible rfl)
            (try simp only [Act.put]); (try simp only [List.setIfInBounds_toArray]); (try simp only [List.set_cons_succ]); (try simp only [List.set_cons_zero])
            refine wpAnyH_take (i := 6) (oi := { dst := some 27, op := Op.load 3 (Operand.tmp 26), type := 3, pos := "ref.go:52", after := #[{ on := 5, ground := Ground.data }], guard := none }) (v := ?vk104) rfl (by kernel_rfl) (by kernel_rfl) (by kernel_rfl) (fun _ _ _ h => h) (Or.inl ⟨by rfl, ?hk104⟩) (R3.old ((Old.refl wr).drew) HX.out) ?rk104
            case hk104 => (intro wz hSw; (try dsimp only at hSw); go_simp; try with_reducible rfl)
            (try simp only [Act.put]); (try simp only [List.setIfInBounds_toArray]); (try simp only [List.set_cons_succ]); (try simp only [List.set_cons_zero])
            refine wpAnyH_ready (rs := [7]) (by kernel_rfl) (by simp) ?_
            refine AllReadyH.cons (o := { dst := some 28, op := Op.call { callee := Callee.value (Operand.func 73), args := #[Operand.tmp 22, Operand.tmp 27], argTypes := #[22, 3] }, type := 4, pos := "ref.go:52", after := #[{ on := 1, ground := Ground.data }, { on := 6, ground := Ground.data }], guard := none }) rfl (fun K hK => ?_) AllReadyH.nil
            refine wantCall2 ?_ 73 (.tmp 22) (.tmp 27) #[22, 3] ?_ (.slice p2 m c2) (.int .i64 y) ?_ ?_ ?_ ((enters_of Try.func73 (by kernel_rfl) rfl) _ _) ?_
            · rfl
            · rfl
            · rfl
            · rfl
            · rfl
            refine (HQ.out _ ((Old.refl wr).drew)).mono ?_
            rintro o x105 ⟨rfl, b105⟩
            refine ⟨_, rfl, ?_⟩
            have U105 := ((Old.refl wr).drew).trans b105
            refine hK.out _ _ (R3.old U105 HX.out) (fun _ => ?_)
            clear hK K
            (try simp only [Act.put]); (try simp only [List.setIfInBounds_toArray]); (try simp only [List.set_cons_succ]); (try simp only [List.set_cons_zero])
            refine wpAnyH_done (by kernel_rfl) ?_ _
            refine NoPanic.normal ?_
            have UZ := hid U105
            clear HX
            go_wp2
            go_ret
            exact ⟨by rw [HR.out]; rfl, (U2.out.trans hu).trans UZ.out⟩
          | false =>
            have HS := hid (show ∀ i, i < k + 1 → hasK g (f i) m = false from fun i hi => by
              by_cases e : i = k
              · rw [e]; exact ek
              · exact H0.out i (by omega))
            rw [ek] at HQ
            clear HC HNo HYe HH H0 ek
            generalize f k = y at *
            have HX := hid (show R3 ⟨b, off + k, none⟩ (.int .i64 y) ⟨cb, 0, none⟩ (.slice (some ⟨b, off, none⟩) n c1) ⟨cb, 1, none⟩ (.slice p2 m c2) wr from ⟨z2, z0, z1⟩)
            go_upto_region 6 with (fail)
            clear z0 z1 z2 y0 y1
            refine wp_region_noPanic ?_
            refine wp_region_held_drew (S := R3 ⟨b, off + k, none⟩ (.int .i64 y) ⟨cb, 0, none⟩ (.slice (some ⟨b, off, none⟩) n c1) ⟨cb, 1, none⟩ (.slice p2 m c2)) (by kernel_rfl) ?_ (fun hHeld => ?_)
            · exact R3.old ((Old.refl wr).drew) HX.out
            (try simp only [Act.put]); (try simp only [List.setIfInBounds_toArray]); (try simp only [List.set_cons_succ]); (try simp only [List.set_cons_zero])
            clear hHeld
            refine wpAnyH_take (i := 0) (oi := { dst := some 21, op := Op.fieldAddr 24 (Operand.tmp 1) 1, type := 0, pos := "ref.go:52", after := #[], guard := none }) (v := ?vk106) rfl (by kernel_rfl) (by kernel_rfl) (by kernel_rfl) (fun _ _ _ h => h) (Or.inl ⟨by rfl, ?hk106⟩) (R3.old ((Old.refl wr).drew) HX.out) ?rk106
            case hk106 => (intro wz hSw; (try dsimp only at hSw); go_simp; try with_reducible rfl)
            (try simp only [Act.put]); (try simp only [List.setIfInBounds_toArray]); (try simp only [List.set_cons_succ]); (try simp only [List.set_cons_zero])
            refine wpAnyH_take (i := 1) (oi := { dst := some 22, op := Op.load 22 (Operand.tmp 21), type := 22, pos := "ref.go:52", after := #[{ on := 0, ground := Ground.data }], guard := none }) (v := ?vk107) rfl (by kernel_rfl) (by kernel_rfl) (by kernel_rfl) (fun _ _ _ h => h) (Or.inl ⟨by rfl, ?hk107⟩) (R3.old ((Old.refl wr).drew) HX.out) ?rk107
            case hk107 => (intro wz hSw; (try dsimp only at hSw); go_simp; try with_reducible rfl)
            (try simp only [Act.put]); (try simp only [List.setIfInBounds_toArray]); (try simp only [List.set_cons_succ]); (try simp only [List.set_cons_zero])
            refine wpAnyH_take (i := 2) (oi := { dst := some 23, op := Op.fieldAddr 24 (Operand.tmp 1) 0, type := 0, pos := "ref.go:52", after := #[], guard := none }) (v := ?vk108) rfl (by kernel_rfl) (by kernel_rfl) (by kernel_rfl) (fun _ _ _ h => h) (Or.inl ⟨by rfl, ?hk108⟩) (R3.old ((Old.refl wr).drew) HX.out) ?rk108
            case hk108 => (intro wz hSw; (try dsimp only at hSw); go_simp; try with_reducible rfl)
            (try simp only [Act.put]); (try simp only [List.setIfInBounds_toArray]); (try simp only [List.set_cons_succ]); (try simp only [List.set_cons_zero])
            refine wpAnyH_take (i := 3) (oi := { dst := some 24, op := Op.load 22 (Operand.tmp 23), type := 22, pos := "ref.go:52", after := #[{ on := 2, ground := Ground.data }], guard := none }) (v := ?vk109) rfl (by kernel_rfl) (by kernel_rfl) (by kernel_rfl) (fun _ _ _ h => h) (Or.inl ⟨by rfl, ?hk109⟩) (R3.old ((Old.refl wr).drew) HX.out) ?rk109
            case hk109 => (intro wz hSw; (try dsimp only at hSw); go_simp; try with_reducible rfl)
            (try simp only [Act.put]); (try simp only [List.setIfInBounds_toArray]); (try simp only [List.set_cons_succ]); (try simp only [List.set_cons_zero])
            refine wpAnyH_take (i := 4) (oi := { dst := some 25, op := Op.move (Operand.tmp 3), type := 3, pos := "ref.go:52", after := #[], guard := none }) (v := ?vk110) rfl (by kernel_rfl) (by kernel_rfl) (by kernel_rfl) (fun _ _ _ h => h) (Or.inl ⟨by rfl, ?hk110⟩) (R3.old ((Old.refl wr).drew) HX.out) ?rk110
            case hk110 => (intro wz hSw; (try dsimp only at hSw); go_simp; try with_reducible rfl)
            (try simp only [Act.put]); (try simp only [List.setIfInBounds_toArray]); (try simp only [List.set_cons_succ]); (try simp only [List.set_cons_zero])
            refine wpAnyH_take (i := 5) (oi := { dst := some 26, op := Op.indexAddr 22 (Operand.tmp 24) (Operand.tmp 25), type := 0, pos := "ref.go:52", after := #[{ on := 3, ground := Ground.data }, { on := 4, ground := Ground.data }], guard := none }) (v := ?vk111) rfl (by kernel_rfl) (by kernel_rfl) (by kernel_rfl) (fun _ _ _ h => h) (Or.inl ⟨by rfl, ?hk111⟩) (R3.old ((Old.refl wr).drew) HX.out) ?rk111
            case hk111 => (intro wz hSw; (try dsimp only at hSw); go_simp; try with_reducible rfl)
            (try simp only [Act.put]); (try simp only [List.setIfInBounds_toArray]); (try simp only [List.set_cons_succ]); (try simp only [List.set_cons_zero])
            refine wpAnyH_take (i := 6) (oi := { dst := some 27, op := Op.load 3 (Operand.tmp 26), type := 3, pos := "ref.go:52", after := #[{ on := 5, ground := Ground.data }], guard := none }) (v := ?vk112) rfl (by kernel_rfl) (by kernel_rfl) (by kernel_rfl) (fun _ _ _ h => h) (Or.inl ⟨by rfl, ?hk112⟩) (R3.old ((Old.refl wr).drew) HX.out) ?rk112
            case hk112 => (intro wz hSw; (try dsimp only at hSw); go_simp; try with_reducible rfl)
            (try simp only [Act.put]); (try simp only [List.setIfInBounds_toArray]); (try simp only [List.set_cons_succ]); (try simp only [List.set_cons_zero])
            refine wpAnyH_ready (rs := [7]) (by kernel_rfl) (by simp) ?_
            refine AllReadyH.cons (o := { dst := some 28, op := Op.call { callee := Callee.value (Operand.func 73), args := #[Operand.tmp 22, Operand.tmp 27], argTypes := #[22, 3] }, type := 4, pos := "ref.go:52", after := #[{ on := 1, ground := Ground.data }, { on := 6, ground := Ground.data }], guard := none }) rfl (fun K hK => ?_) AllReadyH.nil
            refine wantCall2 ?_ 73 (.tmp 22) (.tmp 27) #[22, 3] ?_ (.slice p2 m c2) (.int .i64 y) ?_ ?_ ?_ ((enters_of Try.func73 (by kernel_rfl) rfl) _ _) ?_
            · rfl
            · rfl
            · rfl
            · rfl
            · rfl
            refine (HQ.out _ ((Old.refl wr).drew)).mono ?_
            rintro o x113 ⟨rfl, b113⟩
            refine ⟨_, rfl, ?_⟩
            have U113 := ((Old.refl wr).drew).trans b113
            refine hK.out _ _ (R3.old U113 HX.out) (fun _ => ?_)
            clear hK K
            (try simp only [Act.put]); (try simp only [List.setIfInBounds_toArray]); (try simp only [List.set_cons_succ]); (try simp only [List.set_cons_zero])
            refine wpAnyH_done (by kernel_rfl) ?_ _
            refine NoPanic.normal ?_
            have UZ := hid U113
            clear HX
            go_wp2
            go_roundw
            case rel => exact ⟨k + 1, hlt, by go_num, HS.out, hu.trans UZ.out⟩
            case measure => simp [intOf]; omega
        · obtain rfl : n = k := by omega
          have HR := hid (HNo.out H0.out)
          clear HC HNo HYe HH H0
          go_wp2
          go_ret
          exact ⟨by rw [HR.out]; rfl, U2.out.trans hu⟩
set_option maxHeartbeats 2000000 in
set_option maxRecDepth 20000 in
theorem rRight_any (v1 v2 : Value) (n m : Nat) (f g : Nat → Int) (w : World) (h1 : NRowL w v1 n f) (h2 : NRowL w v2 m g) :
    Calls Try.prog 60 #[.agg #[v1, v2]] w fun e w' => e = .returned (.bool (rightB n f m g)) ∧ Old w w' := by
  have H := hid (fun (W : World) (u : Old w W) => rRightConf_any v1 v2 n m f g W (h1.old u) (h2.old u))
  obtain ⟨_, p1, c1, rfl, _⟩ := h1
  obtain ⟨_, p2, c2, rfl, _⟩ := h2
  unfold rightB
  generalize (riK f n && (riK g m && !anyK (fun i => hasK g (f i) m) n)) = r at *
  go_enter Try.func60, Try.ntmps60
  by_cases hn : 0 < n
  · have hn2 : (n : Int) > 0 := by omega
    go_wp2_with (go_at_call 68; refine (H.out _ ((Old.refl w).alloc _)).mono ?_; rintro e w1 ⟨rfl, u1⟩; have U1 := hid (((Old.refl w).alloc _).trans u1); clear u1)
    go_ret
    exact ⟨by simp [hn], U1.out⟩
  · have hn2 : ¬ (n : Int) > 0 := by omega
    go_wp2
    go_ret
    exact ⟨by simp [hn], (Old.refl w).alloc _⟩

end Go.Proofs.Ytgpfmohaogppiaa
