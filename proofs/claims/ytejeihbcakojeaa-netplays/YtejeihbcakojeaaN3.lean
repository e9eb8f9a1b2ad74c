/- slices.Clone of bytes, a letter's clone; conditions: the bytes lie in memory. -/
import Derived.Test.YtejeihbcakojeaaN2
namespace Go.Proofs.Ytejeihbcakojeaa
open Go.RowKit Go.Lib
set_option linter.unusedVariables false
set_option linter.unusedSimpArgs false
set_option maxRecDepth 20000
theorem box3 {w : World} {b : Nat} {x y z : Value} {T : TypeId} (h : w.heap[b]? = some (.cells #[x, y, z] T (0, 0))) : w.cell? ⟨b, 0, none⟩ = some x ∧ w.cell? ⟨b, 1, none⟩ = some y ∧ w.cell? ⟨b, 2, none⟩ = some z ∧ w.frozen? ⟨b, 0, none⟩ = false ∧ w.frozen? ⟨b, 1, none⟩ = false ∧ w.frozen? ⟨b, 2, none⟩ = false :=
  ⟨by rw [Go.Joins.cell_of_block h]; rfl, by rw [Go.Joins.cell_of_block h]; rfl, by rw [Go.Joins.cell_of_block h]; rfl, Go.Joins.unfrozen_of_block h 0, Go.Joins.unfrozen_of_block h 1, Go.Joins.unfrozen_of_block h 2⟩
theorem box3_set {w : World} {b : Nat} {x y z p q r : Value} {T : TypeId} (h : w.heap[b]? = some (.cells #[x, y, z] T (0, 0))) : (((w.setCell ⟨b, 0, none⟩ p).setCell ⟨b, 1, none⟩ q).setCell ⟨b, 2, none⟩ r).heap[b]? = some (.cells #[p, q, r] T (0, 0)) := by
  have h1 := Go.Joins.block_setCell h p (i := 0)
  have h2 := Go.Joins.block_setCell h1 q (i := 1)
  exact Go.Joins.block_setCell h2 r (i := 2)
theorem set_other {w : World} {b k i : Nat} {v : Value} {o : Obj} (h : w.heap[k]? = some o) (hn : k ≠ b) : (w.setCell ⟨b, i, none⟩ v).heap[k]? = some o := by
  rw [Below.heap_setCell w ⟨b, i, none⟩ v k (fun e => hn e)]; exact h
theorem alloc_keep {w : World} {k : Nat} {o q : Obj} (h : w.heap[k]? = some o) : (w.alloc q).heap[k]? = some o := ((Old.refl w).alloc q).block h
theorem Old.set3 {a w : World} {b : Nat} {p q r : Value} (h : Old a w) (hb : a.heap.size ≤ b) : Old a (((w.setCell ⟨b, 0, none⟩ p).setCell ⟨b, 1, none⟩ q).setCell ⟨b, 2, none⟩ r) :=
  ((h.setCell (p := ⟨b, 0, none⟩) hb _).setCell (p := ⟨b, 1, none⟩) hb _).setCell (p := ⟨b, 2, none⟩) hb _
set_option maxHeartbeats 400000 in
set_option maxRecDepth 20000 in
theorem cloneS_ok (v : Value) (L : List Nat) (w : World) (hv : Rw w v L) (hb : L.length ≤ 140737488355328) :
    Calls Try.prog 28 #[v] w fun e w' => ∃ v', e = .returned v' ∧ Own w' v' L ∧ Old w w' ∧ ∀ g, v'.ownBlock = some g → w.heap.size ≤ g ∧ g < w'.heap.size := by
  have hval : ∃ a c, v = .slice a L.length c ∧ (a = none → L.length = 0) := by
    rcases hv with ⟨h0, a, c, rfl, _⟩ | ⟨_, _, b, off, cap, rfl, _⟩
    · exact ⟨a, c, by rw [h0], fun _ => h0⟩
    · exact ⟨_, _, rfl, fun h => by cases h⟩
  obtain ⟨a, c, rfl, hnone⟩ := hval
  have HV := hid (show Pk.ByRow w (.slice a L.length c) L.length (gd L) from hv)
  have HZ := hid (show L.length = 0 → L = [] from List.length_eq_zero_iff.1)
  have HOf := hid (fun (W : World) (v' : Value) (h : Pk.OwnB w.heap.size W v' L.length (gd L)) => show Own W v' L from Own.of h)
  clear hv
  generalize L.length = n at *
  have heq := fun w => Lib.run_eql_slice_nil (P := Try.prog) w 26 5 a n c 0 0 Try.underlying26
  cases a with
  | none =>
    obtain rfl := hnone rfl
    obtain rfl := HZ.out rfl
    go_enter Try.func28, Try.ntmps28
    go_wp2
    go_ret
    exact ⟨_, rfl, Own.nil _, Old.refl _, fun g e => by cases e⟩
  | some ad =>
    clear hnone
    go_enter Try.func28, Try.ntmps28
    go_wp2_with (at_builtin; refine Pk.wp_app rfl (.tmp 5) (.tmp 6) rfl w.heap.size _ _ 0 n (fun _ => 0) (gd L) rfl rfl (Pk.OwnB.empty (Nat.le_refl _) rfl) (HV.out.up ((Old.refl w).alloc _)) (by omega) (by simp) ?_; intro v' w1 hown hgr hbel)
    go_ret
    have ho : Pk.OwnB w.heap.size w1 v' n (gd L) := by rw [Nat.zero_add] at hown; exact hown.congr (fun i _ => by simp [Pk.cat])
    exact ⟨_, rfl, HOf.out _ _ ho, Below.trans ((Old.refl w).alloc _) hbel, fun g e => ho.own.lt g e⟩
/-- A new letter's place. -/
def LtNew (w w' : World) (x : Lt) : Prop := Own w' x.v x.L ∧ ∀ g, x.v.ownBlock = some g → w.heap.size ≤ g ∧ g < w'.heap.size
set_option maxHeartbeats 400000 in
set_option maxRecDepth 20000 in
theorem clone_any (f t : Int) (v : Value) (L : List Nat) (w : World) (hv : Rw w v L) (hb : L.length ≤ 140737488355328) :
    Calls Try.prog 21 #[.agg #[.int .i64 f, .int .i64 t, v]] w fun e w' => ∃ a c, e = .returned (.agg #[.int .i64 f, .int .i64 t, .slice a L.length c]) ∧ LtNew w w' ⟨f, t, a, c, L⟩ ∧ Old w w' := by
  have HV := hid hv
  have HB := hid hb
  obtain ⟨pa, pc, rfl⟩ := hv.len
  clear hv hb
  go_enter Try.func21, Try.ntmps21
  go_upto_region 1 with (fail)
  have HU := hid (show Old w ((w.alloc (.cells #[.int .i64 f, .int .i64 t, .slice pa L.length pc] 30)).alloc (.cells #[.int .i64 0, .int .i64 0, .slice none 0 0] 30)) from ((Old.refl w).alloc _).alloc _)
  have B1 := hid (show ((w.alloc (.cells #[.int .i64 f, .int .i64 t, .slice pa L.length pc] 30)).alloc (.cells #[.int .i64 0, .int .i64 0, .slice none 0 0] 30)).heap[w.heap.size]? = some (.cells #[.int .i64 f, .int .i64 t, .slice pa L.length pc] 30 (0, 0)) from alloc_keep (alloc_at w _))
  have B2 := hid (show ((w.alloc (.cells #[.int .i64 f, .int .i64 t, .slice pa L.length pc] 30)).alloc (.cells #[.int .i64 0, .int .i64 0, .slice none 0 0] 30)).heap[w.heap.size + 1]? = some (.cells #[.int .i64 0, .int .i64 0, .slice none 0 0] 30 (0, 0)) from by have := alloc_at (w.alloc (.cells #[.int .i64 f, .int .i64 t, .slice pa L.length pc] 30)) (.cells #[.int .i64 0, .int .i64 0, .slice none 0 0] 30); simpa using this)
  generalize (w.alloc (.cells #[.int .i64 f, .int .i64 t, .slice pa L.length pc] 30)).alloc (.cells #[.int .i64 0, .int .i64 0, .slice none 0 0] 30) = w0 at *
  obtain ⟨b1, hb1⟩ : ∃ b1, b1 = w.heap.size := ⟨_, rfl⟩
  obtain ⟨b2, hb2⟩ : ∃ b2, b2 = w.heap.size + 1 := ⟨_, rfl⟩
  have Q1 := hid (show w.heap.size ≤ b1 ∧ w.heap.size ≤ b2 ∧ b1 ≠ b2 ∧ b2 ≠ b1 from by omega)
  rw [← hb1] at B1 ⊢
  rw [← hb2] at B2
  try rw [show b1 + 1 = b2 from by omega]
  clear hb1 hb2
  obtain ⟨x0, x1, x2, -, -, xf⟩ := box3 B1.out
  go_upto_region 2 with (go_at_call 28; refine (cloneS_ok _ L _ (HV.out.old HU.out) HB.out).mono ?_; rintro e w1 ⟨v1, rfl, o1, u1, n1⟩; obtain ⟨a1, c1, e1⟩ := o1.len; subst e1; have O1 := hid o1; have U1 := hid (HU.out.trans u1); have N1 := hid (show ∀ g, (Value.slice a1 L.length c1).ownBlock = some g → w.heap.size ≤ g ∧ w0.heap.size ≤ g ∧ g < w1.heap.size from fun g e => by have := n1 g e; have := HU.out.size; omega); have B1b := hid (u1.block B1.out); have B2b := hid (u1.block B2.out); have y2 := u1.keep x2; have yf := u1.keepF x2 xf; clear o1 u1 n1)
  have HL1 := hid (show b1 < w0.heap.size ∧ b2 < w0.heap.size from ⟨heap_lt B1.out, heap_lt B2.out⟩)
  have C1 := hid (show (w1.setCell ⟨b1, 2, none⟩ (.slice a1 L.length c1)).heap[b1]? = some (.cells #[.int .i64 f, .int .i64 t, .slice a1 L.length c1] 30 (0, 0)) from Go.Joins.block_setCell B1b.out (.slice a1 L.length c1) (i := 2))
  have C2 := hid (show (w1.setCell ⟨b1, 2, none⟩ (.slice a1 L.length c1)).heap[b2]? = some (.cells #[.int .i64 0, .int .i64 0, .slice none 0 0] 30 (0, 0)) from set_other B2b.out Q1.out.2.2.2)
  have O2 := hid (show Own (w1.setCell ⟨b1, 2, none⟩ (.slice a1 L.length c1)) (.slice a1 L.length c1) L from O1.out.chg (Chg.set (S := [b1]) w1 ⟨b1, 2, none⟩ _ (by simp)) (fun g e q => by have := N1.out g e; have := HL1.out; simp at q; omega))
  have U2 := hid (show Old w (w1.setCell ⟨b1, 2, none⟩ (.slice a1 L.length c1)) from U1.out.setCell (p := ⟨b1, 2, none⟩) Q1.out.1 _)
  have N2 := hid (show ∀ g, (Value.slice a1 L.length c1).ownBlock = some g → w.heap.size ≤ g ∧ w0.heap.size ≤ g ∧ g < (w1.setCell ⟨b1, 2, none⟩ (.slice a1 L.length c1)).heap.size from fun g e => by have := N1.out g e; simpa using this)
  clear x0 x1 x2 xf y2 yf B1 B2 B1b B2b O1 U1 N1 HV HB HU
  generalize w1.setCell ⟨b1, 2, none⟩ (.slice a1 L.length c1) = w2 at *
  obtain ⟨x0, x1, x2, -, -, -⟩ := box3 C1.out
  obtain ⟨y0, y1, y2, f0, f1, f2⟩ := box3 C2.out
  go_wp2
  obtain ⟨z0, z1, z2, -, -, -⟩ := box3 (box3_set (p := .int .i64 f) (q := .int .i64 t) (r := .slice a1 L.length c1) C2.out)
  refine bodyPost_ret (v := .agg #[.int .i64 f, .int .i64 t, .slice a1 L.length c1]) (by simp [results, Try.results21, go_sem, z0, z1, z2]) rfl ⟨a1, c1, rfl, ⟨?_, ?_⟩, U2.out.set3 Q1.out.2.1⟩
  · have hc : Chg [b2] w2 (((w2.setCell ⟨b2, 0, none⟩ (.int .i64 f)).setCell ⟨b2, 1, none⟩ (.int .i64 t)).setCell ⟨b2, 2, none⟩ (.slice a1 L.length c1)) := ((Chg.set (S := [b2]) w2 ⟨b2, 0, none⟩ _ (by simp)).trans (Chg.set (S := [b2]) _ ⟨b2, 1, none⟩ _ (by simp))).trans (Chg.set (S := [b2]) _ ⟨b2, 2, none⟩ _ (by simp))
    exact O2.out.chg hc (fun g e q => by have := N2.out g e; have := HL1.out; simp at q; omega)
  · intro g e
    have := N2.out g e
    exact ⟨this.1, by simpa using this.2.2⟩
end Go.Proofs.Ytejeihbcakojeaa
