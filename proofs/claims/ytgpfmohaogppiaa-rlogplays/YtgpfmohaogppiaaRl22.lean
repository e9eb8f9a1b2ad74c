/- The document's part, From, CutFrom of layer 16 at every log; conditions: it lies in memory. -/
import Derived.Test.YtgpfmohaogppiaaRl21
namespace Go.Proofs.Ytgpfmohaogppiaa
open Go.RowKit Go.Lib
set_option linter.unusedVariables false
set_option linter.unusedSimpArgs false
set_option maxRecDepth 20000
/-- Which entries are from one index to another. -/
def ptB (f t : Int) (x : En) : Bool := decide (f ≤ x.i) && decide (x.i ≤ t)
def ptL (f t : Int) (A : List En) : List En := A.filter (ptB f t)
theorem ptL_pls (f t : Int) (A : List En) : pls (ptL f t A) = ptL f t (pls A) := by
  unfold ptL pls
  rw [List.filter_map]
  rfl
theorem ptL_mem {f t : Int} {A : List En} {x : En} (h : x ∈ ptL f t A) : x ∈ A := (List.mem_filter.1 h).1
theorem ptL_take (f t : Int) (A : List En) (k : Nat) (h : k < A.length) : ptL f t (A.take (k + 1)) = ptL f t (A.take k) ++ (if ptB f t (atE A k) = true then [atE A k] else []) := by
  rw [take_at h]
  unfold ptL
  rw [List.filter_append]
  congr 1
  by_cases e : ptB f t (atE A k) = true
  · rw [if_pos e]; simp [e]
  · rw [if_neg e]; simp [e]
theorem ptL_len (f t : Int) (A : List En) : (ptL f t A).length ≤ A.length := List.length_filter_le _ _
theorem ptL_none : ∀ (f t : Int) (A : List En), (∀ x ∈ A, x.i < f ∨ t < x.i) → ptL f t A = []
  | f, t, A, h => by
    unfold ptL
    rw [List.filter_eq_nil_iff]
    intro x hx e
    unfold ptB at e
    simp at e
    rcases h x hx with q | q <;> omega
theorem ptL_all : ∀ (f t : Int) (A : List En), (∀ x ∈ A, f ≤ x.i ∧ x.i ≤ t) → ptL f t A = A
  | f, t, A, h => by
    unfold ptL
    rw [List.filter_eq_self]
    intro x hx
    unfold ptB
    have := h x hx
    simp
    omega
/-- Of entries that follow, those up to an index are the first ones, those from one on the last ones. -/
theorem ptL_fol {P : PL} (k : PLok P) (f t : Int) (a b : Nat) (ha : a ≤ b) (hb : b ≤ P.es.length) (hf : ∀ x ∈ P.es.take a, x.i < f) (hm : ∀ x ∈ (P.es.drop a).take (b - a), f ≤ x.i ∧ x.i ≤ t) (ht : ∀ x ∈ P.es.drop b, t < x.i) : ptL f t P.es = (P.es.drop a).take (b - a) := by
  have e : P.es = P.es.take a ++ ((P.es.drop a).take (b - a) ++ P.es.drop b) := by
    conv => lhs; rw [← List.take_append_drop a P.es]
    congr 1
    conv => lhs; rw [← List.take_append_drop (b - a) (P.es.drop a)]
    rw [List.drop_drop, show a + (b - a) = b from by omega]
  conv => lhs; rw [e]
  unfold ptL
  rw [List.filter_append, List.filter_append]
  have e1 := ptL_none f t (P.es.take a) (fun x hx => .inl (hf x hx))
  have e2 := ptL_all f t ((P.es.drop a).take (b - a)) hm
  have e3 := ptL_none f t (P.es.drop b) (fun x hx => .inr (ht x hx))
  unfold ptL at e1 e2 e3
  rw [e1, e2, e3, List.nil_append, List.append_nil]
theorem fol_take {P : PL} (k : PLok P) (a : Nat) (ha : a ≤ P.es.length) : (∀ x ∈ P.es.take a, P.ix < x.i ∧ x.i ≤ P.ix + a) ∧ ∀ x ∈ P.es.drop a, P.ix + a < x.i ∧ x.i ≤ P.ix + P.es.length := by
  have hf := k.fol
  have hl0 := Fol.len _ _ _ k.fol
  rw [← List.take_append_drop a P.es, Fol.app] at hf
  have hl := Fol.len _ _ _ hf.1
  rw [List.length_take, Nat.min_eq_left ha] at hl
  constructor
  · intro x hx
    have := Fol.mem _ _ _ hf.1 x hx
    omega
  · intro x hx
    have := Fol.mem _ _ _ hf.2 x hx
    have h2 := Fol.mem _ _ _ k.fol x (List.mem_of_mem_drop hx)
    omega
/-- New entries: their row is new, their data lies where it lay. -/
structure EPart (w : World) (n0 : Nat) (v : Value) (X : List En) : Prop where
  e : ERow w v X
  n : ∀ g, v.ownBlock = some g → n0 ≤ g
set_option maxHeartbeats 4000000 in
set_option maxRecDepth 20000 in
theorem rPart_any (P : PL) (D : Dg) (f t : Int) (w : World) (h : DocP P D w) :
    Calls Try.prog 39 #[DV P D, .int .i64 f, .int .i64 t] w fun e w' => ∃ p c, e = .returned (.slice p (ptL f t D.X).length c) ∧ EPart w' w.heap.size (.slice p (ptL f t D.X).length c) (ptL f t D.X) ∧ Old w w' := by
  have hf := h.few
  have HA := hid (fun j hj => (h.at j hj))
  have HRw := hid h.e.2.2
  unfold DV Dg.v1 Dg.v2 Dg.ve
  obtain ⟨q1, c1, q2, c2, q, c, X⟩ := D
  dsimp only at hf HA HRw ⊢
  generalize P.a.length = n1 at *
  generalize P.b.length = n2 at *
  obtain ⟨n, hn⟩ : ∃ n, X.length = n := ⟨_, rfl⟩
  have HN := hid hn
  rw [hn] at hf HA
  obtain ⟨hf1, hf2, hf3⟩ := hf
  have hmm : (n : Int) ≤ 1099511627776 := by omega
  have hE : (w.alloc (.cells #[.int .i64 P.ix, .int .i64 P.tm, .slice q1 n1 c1, .slice q2 n2 c2, .slice q n c] 54)).alloc (.cells #[] 41) |>.ownsRow (w.heap.size + 1) 41 4 (.slice (some ⟨(w.alloc (.cells #[.int .i64 P.ix, .int .i64 P.tm, .slice q1 n1 c1, .slice q2 n2 c2, .slice q n c] 54)).heap.size, 0, none⟩) 0 0) 0 [] := World.ownsRow_made _ #[] 0 (by simp) (by unfold maxLen; omega) rfl
  have HO := hid (OwnOff.of hE)
  rw [hn]
  clear hn h hE
  generalize P.ix = pix at *
  generalize P.tm = ptm at *
  go_enter Try.func39, Try.ntmps39
  go_upto_region 2 with (fail)
  have U0 := hid ((Old.refl w).alloc (.cells #[.int .i64 pix, .int .i64 ptm, .slice q1 n1 c1, .slice q2 n2 c2, .slice q n c] 54))
  have B0 := hid (alloc_at w (.cells #[.int .i64 pix, .int .i64 ptm, .slice q1 n1 c1, .slice q2 n2 c2, .slice q n c] 54))
  have S0 := hid (show (w.alloc (.cells #[.int .i64 pix, .int .i64 ptm, .slice q1 n1 c1, .slice q2 n2 c2, .slice q n c] 54)).heap.size = w.heap.size + 1 from by simp)
  have HO2 := hid (show OwnOff (w.heap.size + 1) 41 4 ((w.alloc (.cells #[.int .i64 pix, .int .i64 ptm, .slice q1 n1 c1, .slice q2 n2 c2, .slice q n c] 54)).alloc (.cells #[] 41)) (.slice (some ⟨w.heap.size + 1, 0, none⟩) 0 0) 0 [] from by have := HO.out; simpa using this)
  generalize w.alloc (.cells #[.int .i64 pix, .int .i64 ptm, .slice q1 n1 c1, .slice q2 n2 c2, .slice q n c] 54) = w1 at *
  have U1 := hid ((Old.refl w1).alloc (.cells #[] 41))
  generalize w1.alloc (.cells #[] 41) = w0 at *
  obtain ⟨bx, hbx⟩ : ∃ bx, w.heap.size = bx := ⟨_, rfl⟩
  rw [hbx] at B0 HO2 S0 ⊢
  have HBX := hid hbx
  clear hbx HO
  go_wp2
  go_loopw [7, 8] (fun o i wx => ∃ (k : Nat) (p : Option Addr) (cc m : Nat), k ≤ n ∧ i = .int .i64 (k : Nat) ∧ o = .slice p m cc ∧ Hid (Old w1 wx ∧ m = (ptL f t (X.take k)).length ∧ OwnOff (bx + 1) 41 4 wx (.slice p m cc) m (ecs ((ptL f t (X.take k)).map En.e)))) (fun _ i _ => n - (intOf i).toNat)
  case atStart => exact ⟨0, _, _, 0, Nat.zero_le _, rfl, rfl, hid ⟨U1.out, rfl, HO2.out⟩⟩
  case round =>
    obtain ⟨k, p, cc, m, hk, rfl, rfl, HI⟩ := hrel
    have y4 : wr.cell? ⟨bx, 4, none⟩ = some (.slice q n c) := by rw [Go.Joins.cell_of_block (HI.out.1.block B0.out)]; rfl
    by_cases hlt : k < n
    · have hkX : k < X.length := by rw [HN.out]; exact hlt
      obtain ⟨g, off, rfl, x4⟩ := HA.out k hlt
      obtain ⟨x0, x1, x2, x3⟩ := x4.old (U0.out.trans HI.out.1)
      have HT := hid (ptL_take f t X k hkX)
      have HLe := hid (show (ptL f t (X.take k)).length ≤ k from Nat.le_trans (ptL_len _ _ _) (by rw [List.length_take]; omega))
      have l1 : (0 : Int) ≤ (k : Int) := by omega
      have l2 : (k : Int) < (n : Int) := by omega
      clear x4
      by_cases h1 : f ≤ (atE X k).i
      · by_cases h2 : (atE X k).i ≤ t
        · have HB := hid (show ptB f t (atE X k) = true from by unfold ptB; simp [h1, h2])
          rw [HB.out, if_pos rfl] at HT
          have d1 : decide (f ≤ (atE X k).i) = true := decide_eq_true h1
          have d2 : decide ((atE X k).i ≤ t) = true := decide_eq_true h2
          clear HB
          generalize hEE : atE X k = E at *
          obtain ⟨ei, et, ek, ep, ec, ed⟩ := E
          dsimp only [En.e] at x0 x1 x2 x3
          dsimp only at h1 h2 d1 d2
          obtain ⟨edl, hed⟩ : ∃ edl, ed.length = edl := ⟨_, rfl⟩
          have HED := hid (show (⟨ei, et, ek, ep, ec, ed⟩ : En).e = ⟨ei, et, ek, ep, edl, ec⟩ from by rw [← hed]; rfl)
          rw [hed] at x3
          have HSz := hid (show bx + 1 ≤ wr.heap.size from by have := HI.out.1.size; have := S0.out; omega)
          have HNm := hid (show m + 1 ≤ 2932031007402 from by have := HLe.out; have := HI.out.2.1; omega)
          clear hEE hed
          go_wp2_with (at_builtin; refine wp_appEO rfl (.tmp 35) (.tmp 41) rfl (bx + 1) _ _ m _ ⟨ei, et, ek, ep, edl, ec⟩ rfl rfl (HI.out.2.2.up ((Old.refl wr).alloc _)) (cell_oneE wr ⟨ei, et, ek, ep, edl, ec⟩ _ rfl) HNm.out (by have := HSz.out; simp; omega) ?_; intro v9 w9 o9 g9; obtain ⟨p9, c9, e9, -⟩ := o9.len; subst e9; have O9 := hid o9; have U9 := hid (Old.below (w' := w9) (HI.out.1.alloc _) (Below.grown (Below.refl _ _) g9 (by have := HI.out.1.size; simp; omega) (fun g e => by have := (HI.out.2.2.lt g e).1; have := S0.out; omega))); clear o9 g9)
          exact ⟨⟨k + 1, p9, c9, m + 1, hlt, by go_num, rfl, hid ⟨U9.out, by rw [HT.out, List.length_append, ← HI.out.2.1]; rfl, by rw [HT.out, List.map_append]; show OwnOff _ _ _ _ _ _ (ecs (_ ++ [(⟨ei, et, ek, ep, ec, ed⟩ : En).e])); rw [HED.out]; exact O9.out⟩⟩, by simp [intOf]; omega⟩
        · have HB := hid (show ptB f t (atE X k) = false from by unfold ptB; simp [h2])
          rw [HB.out, if_neg (by decide), List.append_nil] at HT
          have d1 : decide (f ≤ (atE X k).i) = true := decide_eq_true h1
          have d2 : decide ((atE X k).i ≤ t) = false := decide_eq_false h2
          clear HB
          generalize atE X k = E at *
          obtain ⟨ei, et, ek, ep, ec, ed⟩ := E
          dsimp only [En.e] at x0 x1 x2 x3
          dsimp only at h1 h2 d1 d2
          go_wp2
          exact ⟨⟨k + 1, p, cc, m, hlt, by go_num, rfl, hid ⟨HI.out.1, by rw [HT.out]; exact HI.out.2.1, by rw [HT.out]; exact HI.out.2.2⟩⟩, by simp [intOf]; omega⟩
      · have HB := hid (show ptB f t (atE X k) = false from by unfold ptB; simp [h1])
        rw [HB.out, if_neg (by decide), List.append_nil] at HT
        have d1 : decide (f ≤ (atE X k).i) = false := decide_eq_false h1
        clear HB
        generalize atE X k = E at *
        obtain ⟨ei, et, ek, ep, ec, ed⟩ := E
        dsimp only [En.e] at x0 x1 x2 x3
        dsimp only at h1 d1
        go_wp2
        exact ⟨⟨k + 1, p, cc, m, hlt, by go_num, rfl, hid ⟨HI.out.1, by rw [HT.out]; exact HI.out.2.1, by rw [HT.out]; exact HI.out.2.2⟩⟩, by simp [intOf]; omega⟩
    · obtain rfl : n = k := by omega
      have e9 : X.take n = X := List.take_of_length_le (by rw [HN.out]; exact Nat.le_refl _)
      have HI9 := hid (show Old w1 wr ∧ m = (ptL f t X).length ∧ OwnOff (bx + 1) 41 4 wr (.slice p m cc) m (ecs ((ptL f t X).map En.e)) from by have := HI.out; rw [e9] at this; exact this)
      clear HI e9
      go_wp2
      go_ret
      obtain ⟨z1, rfl, z3⟩ := HI9.out
      exact ⟨p, cc, rfl, ⟨OwnOff.erow z3 (Nat.le_trans (ptL_len _ _ _) (by rw [HN.out]; omega)) (fun y hy => (HRw.out y (ptL_mem hy)).old (U0.out.trans z1)), fun g e => by have := (z3.lt g e).1; have := HBX.out; omega⟩, U0.out.trans z1⟩
end Go.Proofs.Ytgpfmohaogppiaa
