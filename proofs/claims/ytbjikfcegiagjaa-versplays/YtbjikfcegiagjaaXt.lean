/- vers: the document's table: rows of items in any order; New, At, Drop; conditions: the lengths fit. -/
import Derived.Test.YtbjikfcegiagjaaXi
import Derived.Laws.AppendOwnNone
import Derived.OneCell
import Derived.ArgAppend
import Derived.OwnWalk
import Derived.Deep.QuietTactic
import Derived.BigQuiet
import Derived.Deep.Draws
namespace Go.Proofs.Ytbjikfcegiagjaa
open Go.RowKit Go.Lib
set_option linter.unusedVariables false
set_option linter.unusedSimpArgs false
set_option maxRecDepth 20000
/-- The slice value v owns the document's items among the blocks from base on. -/
def OwnM (base : Nat) (w : World) (v : Value) (M : List It) : Prop := w.ownsRow base 53 2 v M.length (itcs M)
theorem OwnM.old {base : Nat} {w w' : World} {v : Value} {M : List It} (h : OwnM base w v M) (u : Old w w') : OwnM base w' v M := by
  refine ⟨h.1, ?_⟩
  rcases h.2 with e | ⟨g, cap, cur, e, hb', hg, r⟩
  · exact .inl e
  · exact .inr ⟨g, cap, cur, e, hb', u.block hg, r⟩
theorem OwnM.chg {base : Nat} {S : List Nat} {w w' : World} {v : Value} {M : List It} (h : OwnM base w v M) (u : Chg S w w') (hn : ∀ g, v.ownBlock = some g → g ∉ S) : OwnM base w' v M := by
  refine ⟨h.1, ?_⟩
  rcases h.2 with e | ⟨g, cap, cur, rfl, hb', hg, r⟩
  · exact .inl e
  · exact .inr ⟨g, cap, cur, rfl, hb', u.heapAt hg (hn g rfl), r⟩
theorem OwnM.lt {base : Nat} {w : World} {v : Value} {M : List It} (h : OwnM base w v M) (g : Nat) (hg : v.ownBlock = some g) : base ≤ g ∧ g < w.heap.size := World.ownsRow.lt h g hg
theorem OwnM.nil (base : Nat) (w : World) : OwnM base w (.slice none 0 0) [] := World.ownsRow_nil w base _ 2
theorem OwnM.empty {base g : Nat} {w : World} (hb : base ≤ w.heap.size) (hg : w.heap.size = g) : OwnM base (w.alloc (.cells #[] 53)) (.slice (some ⟨g, 0, none⟩) 0 0) [] := by
  subst hg
  exact World.ownsRow_made w #[] 0 hb (by unfold maxLen; omega) rfl
theorem OwnM.len {base : Nat} {w : World} {v : Value} {M : List It} (h : OwnM base w v M) : ∃ a c, v = .slice a M.length c := by
  rcases h.2 with ⟨rfl, e⟩ | ⟨g, cap, cur, rfl, _⟩
  · exact ⟨none, 0, by rw [e]⟩
  · exact ⟨_, _, rfl⟩
theorem OwnM.mono {base b' : Nat} {w : World} {v : Value} {M : List It} (h : OwnM base w v M) (hb : b' ≤ base) : OwnM b' w v M := by
  refine ⟨h.1, ?_⟩
  rcases h.2 with e | ⟨g, cap, cur, e, hb', r⟩
  · exact .inl e
  · exact .inr ⟨g, cap, cur, e, by omega, r⟩
theorem OwnM.shape {base : Nat} {w : World} {v : Value} {M : List It} (h : OwnM base w v M) (hn : 0 < M.length) :
    ∃ g cap, v = .slice (some ⟨g, 0, none⟩) M.length cap ∧ base ≤ g ∧ g < w.heap.size ∧ ∀ i, i < M.length → ItIn w g (i * 2) (atI M i) := by
  have h2 := h
  unfold OwnM at h2
  rcases h2.2 with ⟨_, e⟩ | ⟨g, cap, cur, rfl, hb, hg, hnc, hcm, hcs, htk⟩
  · omega
  · refine ⟨g, cap, rfl, hb, heap_lt hg, fun i hi => ?_⟩
    have H : ∀ j, j < 2 → w.cell? ⟨g, i * 2 + j, none⟩ = (itc M[i])[j]? := fun j hj => by
      rw [h2.cellAt (i * 2 + j) (by omega)]; exact flat_get itc 2 (fun _ => rfl) M i j hi hj
    rw [atI_get M i hi]
    exact ⟨H 0 (by omega), H 1 (by omega)⟩
theorem infoM : (Try.prog.info? 53).map (fun i => (i.zero, i.size, i.bytes)) = some (some (.agg #[.float .f64 0, .int .i64 0]), 2, 16) := by kernel_rfl
theorem itemM_new (w : World) (x : It) (g : Nat) (hg : w.heap.size = g) : ItIn (w.alloc (.cells #[.float .f64 x.k, .int .i64 x.n] 53)) g 0 x := by
  have hh := alloc_heap w (.cells #[.float .f64 x.k, .int .i64 x.n] 53) g hg
  exact ⟨by rw [cell_of_heap hh]; rfl, by rw [cell_of_heap hh]; rfl⟩
/-- append of one item. -/
theorem wp_appM {ops : Array Oper} {rest : List Oper} {o : Oper} {a : Act} {Q : Exit → Act → World → Prop} {w : World} (hgd : o.guard = none) (s x : Operand)
    (ho : o.op = .call { callee := .builtin .append, args := #[s, x], argTypes := #[29, 29] }) (base : Nat) (v : Value) (M : List It) (r : It) (g c1 : Nat)
    (hs : a.eval s = v) (hx : a.eval x = .slice (some ⟨g, 0, none⟩) 1 c1) (hown : OwnM base w v M) (hc : ItIn w g 0 r) (hb : M.length + 1 ≤ 8796093022208) (hbase : base ≤ w.heap.size)
    (h : ∀ v' w', OwnM base w' v' (M ++ [r]) → Below base w w' → wpList Try.prog ops Q rest (a.put o.dst v') w') : wpList Try.prog ops Q (o :: rest) a w := by
  obtain ⟨i0, hi, hz0, hz1, hz2⟩ := info_parts infoM
  refine wpList_append_own w hgd s x 29 ho base 53 i0 _ 2 16 Try.underlying29 hi hz0 hz1 hz2 rfl (by decide) v M.length (itcs M) hs hown ⟨g, 0, none⟩ 1 c1 (itcs [r]) hx rfl ?_ (itcs_one [r]) (by unfold maxLen; omega) (by omega) hbase ?_
  · intro j u hj
    rw [Go.WideShapes.add_plain]
    match j with
    | 0 => simp [itcs, itc] at hj; subst hj; exact hc.1
    | 1 => simp [itcs, itc] at hj; subst hj; exact hc.2
    | j + 2 => simp [itcs, itc] at hj
  · intro v' w' h1 h2 h3
    exact h v' w' (by unfold OwnM; rw [itcs_app] at h1; simpa using h1) (Below.grown (Below.refl _ _) h2 hbase (fun k hk => (World.ownsRow.lt hown k hk).1))
theorem rsame_old (a b : Nat) (ha : Fl.W a) (hb : Fl.W b) (w : World) : Calls Try.prog 49 #[.float .f64 a, .float .f64 b] w fun e w' => e = .returned (.bool (decide (Fl.code a = Fl.code b))) ∧ Old w w' := by
  refine (same_any a b ha hb w).mono fun e w' h => ⟨?_, by rw [h.2]; exact Old.refl _⟩
  rw [h.1]
  congr 2
  by_cases e : Fl.code a = Fl.code b
  · have : Fl.canon a = Fl.canon b := by rw [← Fl.of_code a ha, ← Fl.of_code b hb, e]
    simp [e, this]
  · have : Fl.canon a ≠ Fl.canon b := fun q => e (by rw [← Fl.code_canon a, ← Fl.code_canon b, q])
    have h2 : ¬ ((Fl.canon a : Int) = (Fl.canon b : Int)) := by omega
    simp [e, h2]
theorem atL_step (c : Nat) : ∀ (M : List It) (j : Nat), (∀ i, i < j → kc (atI M i) ≠ c) → j < M.length → kc (atI M j) = c → atL c M = (atI M j).n
  | [], j, _, h, _ => by simp at h
  | x :: t, 0, _, _, h => by unfold atL; rw [if_pos (show kc x = c from h)]; rfl
  | x :: t, j + 1, h, hj, hk => by
    unfold atL
    rw [if_neg (show ¬ kc x = c from h 0 (by omega))]
    rw [atI_succ] at hk ⊢
    exact atL_step c t j (fun i hi => by have := h (i + 1) (by omega); rwa [atI_succ] at this) (by simpa using hj) hk
theorem atL_no (c : Nat) (M : List It) (h : ∀ i, i < M.length → kc (atI M i) ≠ c) : atL c M = 0 := atL_none c M fun x hx => by
  obtain ⟨i, hi, rfl⟩ := List.getElem_of_mem hx
  have := h i hi
  rwa [atI_get M i hi] at this
theorem OwnM.set {base : Nat} {w : World} {v : Value} {M : List It} (h : OwnM base w v M) (p : Addr) (u : Value) (hp : p.block < base) : OwnM base (w.setCell p u) v M :=
  h.chg (Chg.set w p u (S := [p.block]) (by simp)) (fun g hg e => by simp at e; have := (h.lt g hg).1; omega)
theorem keep_take (m : Int) (M : List It) : keepL m (M.take M.length) = keepL m M := by rw [List.take_length]
attribute [local go_sem] run_bits run_frombits run_store_float
set_option maxHeartbeats 1000000 in
set_option maxRecDepth 20000 in
theorem rAt_any (base : Nat) (most : Int) (v : Value) (M : List It) (key : Nat) (hk : Fl.W key) (hW : ∀ x ∈ M, Fl.W x.k) (w : World) (h : OwnM base w v M) (hl : M.length ≤ 1000000) :
    Calls Try.prog 15 #[.agg #[.int .i64 most, v], .float .f64 key] w fun e w' => e = .returned (.int .i64 (atL (Fl.code key) M)) ∧ Old w w' := by
  have hV := hid ((Old.refl w).alloc (.cells #[.int .i64 most, v] 31))
  have HM := hid (h.old hV.out)
  have hB : (w.alloc (.cells #[.int .i64 most, v] 31)).cell? ⟨w.heap.size, 1, none⟩ = some v := by rw [cell_of_heap (alloc_heap w _ _ rfl)]; rfl
  have HB := hid hB
  obtain ⟨sa, sc, hv⟩ := h.len
  subst hv
  clear h hB
  have HWi := hid (fun i (hi : i < M.length) => show Fl.W (atI M i).k from by rw [atI_get M i hi]; exact hW _ (List.getElem_mem hi))
  have HSt := hid (atL_step (Fl.code key) M)
  have HNo := hid (atL_no (Fl.code key) M)
  have HSh := hid (fun (e : 0 < M.length) => HM.out.shape e)
  generalize hR : atL (Fl.code key) M = R at *
  generalize hN : M.length = N at *
  have hN1 := hid hN
  clear hN hW hR
  go_enter Try.func15, Try.ntmps15
  go_upto_region 1 with fail
  generalize w.alloc (.cells #[.int .i64 most, .slice sa N sc] 31) = w1 at *
  generalize w.heap.size = tb at *
  go_wp2
  go_loopw [5] (fun i wr => ∃ k : Nat, k ≤ N ∧ i = .int .i64 (k : Nat) ∧ (∀ i, i < k → kc (atI M i) ≠ Fl.code key) ∧ Old w1 wr) (fun i _ => N - (intOf i).toNat)
  case atStart => exact ⟨0, Nat.zero_le _, rfl, fun i hi => by omega, Old.refl _⟩
  case round =>
    obtain ⟨k, hkN, rfl, hno, hu⟩ := hrel
    have HU := hid hu
    have HN := hid hno
    clear hu hno
    have b1 := HU.out.keep HB.out
    by_cases hlt : k < N
    · obtain ⟨g, cap, he, hgb, hgl, hi⟩ := HSh.out (by omega)
      simp only [Value.slice.injEq] at he
      obtain ⟨rfl, _, rfl⟩ := he
      obtain ⟨c0, c1⟩ := (hi k hlt).old HU.out
      have l1 : (0 : Int) ≤ (k : Int) := by omega
      have l2 : (k : Int) < (N : Int) := by omega
      clear hi
      have HS := hid (fun W => rsame_old (atI M k).k key (HWi.out k hlt) hk W)
      by_cases e : Fl.code (atI M k).k = Fl.code key
      · rw [decide_eq_true e] at HS
        have HE := hid (HSt.out k HN.out hlt e)
        clear e
        go_upto_region 5 with (go_at_call 49; refine (HS.out _).mono ?_; rintro e w2 ⟨rfl, u2⟩; have U2 := hid u2; clear u2)
        have b2 := U2.out.keep b1
        have c2 := U2.out.keep c1
        go_wp2
        go_ret
        exact ⟨ret_i HE.out.symm, (hV.out.trans HU.out).trans U2.out⟩
      · rw [decide_eq_false e] at HS
        have HE := hid e
        clear e
        go_wp2_with (go_at_call 49; refine (HS.out _).mono ?_; rintro e w2 ⟨rfl, u2⟩; have U2 := hid u2; clear u2)
        go_roundw
        case rel =>
          refine ⟨k + 1, hlt, by go_num, fun i hi => ?_, HU.out.trans U2.out⟩
          by_cases q : i = k
          · subst q; exact HE.out
          · exact HN.out i (by omega)
        case measure => simp [intOf]; omega
    · obtain rfl : k = N := by omega
      have HE := hid (HNo.out HN.out)
      go_wp2
      go_ret
      exact ⟨ret_i HE.out.symm, hV.out.trans HU.out⟩
/-- A table of the document in a box of its own, and the box for the answer. -/
theorem boxes2 (w : World) (most : Int) (v : Value) (w1 : World) (e : (w.alloc (.cells #[.int .i64 most, v] 31)).alloc (.cells #[.int .i64 0, .slice none 0 0] 31) = w1) (tb : Nat) (hb : w.heap.size = tb) : Old w w1 ∧ w1.heap.size = tb + 2 ∧ (w1.cell? ⟨tb, 0, none⟩ = some (.int .i64 most) ∧ w1.cell? ⟨tb, 1, none⟩ = some v ∧ w1.cell? ⟨tb + 1, 0, none⟩ = some (.int .i64 0) ∧ w1.cell? ⟨tb + 1, 1, none⟩ = some (.slice none 0 0)) ∧ w1.frozen? ⟨tb, 0, none⟩ = false ∧ w1.frozen? ⟨tb, 1, none⟩ = false ∧ w1.frozen? ⟨tb + 1, 0, none⟩ = false ∧ w1.frozen? ⟨tb + 1, 1, none⟩ = false := by
  subst e hb
  have h1 := alloc_heap w (.cells #[.int .i64 most, v] 31) _ rfl
  have h2 := alloc_heap (w.alloc (.cells #[.int .i64 most, v] 31)) (.cells #[.int .i64 0, .slice none 0 0] 31) (w.heap.size + 1) (by simp)
  have u := (Old.refl (w.alloc (.cells #[.int .i64 most, v] 31))).alloc (.cells #[.int .i64 0, .slice none 0 0] 31)
  have h3 := u.block h1
  exact ⟨((Old.refl w).alloc _).trans u, by simp, ⟨by rw [cell_of_heap h3]; rfl, by rw [cell_of_heap h3]; rfl, by rw [cell_of_heap h2]; rfl, by rw [cell_of_heap h2]; rfl⟩, frozen_of_heap h3 _, frozen_of_heap h3 _, frozen_of_heap h2 _, frozen_of_heap h2 _⟩
set_option maxHeartbeats 1000000 in
set_option maxRecDepth 20000 in
theorem rDrop_any (base : Nat) (most m : Int) (v : Value) (M : List It) (w : World) (h : OwnM base w v M) (hl : M.length ≤ 1000000) :
    Calls Try.prog 16 #[.agg #[.int .i64 most, v], .int .i64 m] w fun e w' => ∃ v', e = .returned (.agg #[.int .i64 most, v']) ∧ OwnM w.heap.size w' v' (keepL m M) ∧ Old w w' := by
  obtain ⟨sa, sc, hv⟩ := h.len
  have HSh := hid (fun (e : 0 < M.length) => h.shape e)
  have HSt := hid (keep_step m M)
  have HTk := hid (keep_take m M)
  subst hv
  have HL := hid (fun k => show (keepL m (M.take k)).length ≤ M.length from Nat.le_trans (List.length_filter_le _ _) (List.length_take_le' _ _))
  clear h
  generalize hN : M.length = N at *
  have hN1 := hid hN
  clear hN
  go_enter Try.func16, Try.ntmps16
  go_upto_region 1 with fail
  generalize hw1 : (w.alloc (.cells #[.int .i64 most, .slice sa N sc] 31)).alloc (.cells #[.int .i64 0, .slice none 0 0] 31) = w1 at *
  generalize htb : w.heap.size = tb at *
  have HX := hid (boxes2 w most (.slice sa N sc) w1 hw1 tb htb)
  clear hw1
  have HE := hid (show OwnM (tb + 2) (w1.alloc (.cells #[] 53)) (.slice (some ⟨w1.heap.size, 0, none⟩) 0 0) (keepL m (M.take 0)) from OwnM.empty (by rw [HX.out.2.1]; exact Nat.le_refl _) rfl)
  go_upto_region 2 with fail
  have HV2 := hid ((Old.refl w1).alloc (.cells #[] 53))
  generalize w1.alloc (.cells #[] 53) = w2 at *
  go_wp2
  go_loopw [5, 6] (fun o i wr => ∃ k : Nat, k ≤ N ∧ i = .int .i64 (k : Nat) ∧ OwnM (tb + 2) wr o (keepL m (M.take k)) ∧ Old w1 wr) (fun _ i _ => N - (intOf i).toNat)
  case atStart => exact ⟨0, Nat.zero_le _, rfl, HE.out, HV2.out⟩
  case round =>
    obtain ⟨k, hkN, rfl, ho, hu⟩ := hrel
    have HU := hid hu
    have HO := hid ho
    clear hu ho HE
    obtain ⟨x0, x1, ⟨y0, y1, y2, y3⟩, z0, z1, z2, z3⟩ := HX.out
    have X1 := hid x1
    clear x1
    have b0 := HU.out.keep y0
    have b1 := HU.out.keep y1
    by_cases hlt : k < N
    · obtain ⟨g, cap, he, hgb, hgl, hi⟩ := HSh.out (by omega)
      simp only [Value.slice.injEq] at he
      obtain ⟨rfl, _, rfl⟩ := he
      obtain ⟨c0, c1⟩ := (hi k hlt).old (x0.trans HU.out)
      have l1 : (0 : Int) ≤ (k : Int) := by omega
      have l2 : (k : Int) < (N : Int) := by omega
      clear hi x0 y0 y1 y2 y3 z0 z1 z2 z3
      have HSk := hid (HSt.out k hlt)
      by_cases e : m < (atI M k).n
      · rw [if_pos e] at HSk
        go_upto_region 6 with fail
        have hlen := HL.out k
        have HU2 := hid (HU.out.alloc (.cells #[.float .f64 (atI M k).k, .int .i64 (atI M k).n] 53))
        go_wp2_with (first | (at_builtin; refine wp_appM rfl (.tmp 23) (.tmp 29) rfl (tb + 2) _ (keepL m (M.take k)) (atI M k) _ 1 rfl rfl (OwnM.old HO.out ((Old.refl _).alloc _)) (itemM_new _ (atI M k) _ (by simp)) (by omega) (by have := HU2.out.size; have := X1.out; omega) ?_; intro v8 w8 o8 g8; have O8 := hid o8; have G8 := hid g8; clear o8 g8))
        go_roundw
        case rel => exact ⟨k + 1, hlt, by go_num, by rw [HSk.out]; exact O8.out, HU2.out.below (by rw [X1.out]; exact G8.out)⟩
        case measure => simp [intOf]; omega
      · rw [if_neg e, List.append_nil] at HSk
        go_wp2
        go_roundw
        case rel => exact ⟨k + 1, hlt, by go_num, by rw [HSk.out]; exact HO.out, HU.out⟩
        case measure => simp [intOf]; omega
    · obtain rfl : k = N := by omega
      have b2 := HU.out.keep y2
      have b3 := HU.out.keep y3
      have f0 := HU.out.keepF y0 z0
      have f1 := HU.out.keepF y1 z1
      have f2 := HU.out.keepF y2 z2
      have f3 := HU.out.keepF y3 z3
      have HUw := hid (x0.trans HU.out)
      rw [HTk.out] at HO
      clear x0 y0 y1 y2 y3 z0 z1 z2 z3 HTk HSt HSh HL hN1
      obtain ⟨a5, c5, hv5⟩ := HO.out.len
      subst hv5
      generalize hK : keepL m M = K at *
      go_wp2
      refine bodyPost_ret (v := .agg #[.int .i64 most, .slice a5 K.length c5]) (by simp [results, Try.results16, go_sem, *]) rfl ⟨_, rfl, ?_, ?_⟩
      · have q := ((HO.out.set ⟨tb, 1, none⟩ (.slice a5 K.length c5) (show tb < tb + 2 by omega)).set ⟨tb + 1, 0, none⟩ (.int .i64 most) (show tb + 1 < tb + 2 by omega)).set ⟨tb + 1, 1, none⟩ (.slice a5 K.length c5) (show tb + 1 < tb + 2 by omega)
        subst hK
        exact OwnM.mono q (show w.heap.size ≤ tb + 2 by omega)
      · exact ((HUw.out.setCell (by simp [htb]) _).setCell (by simp [htb]) _).setCell (by simp [htb]) _
end Go.Proofs.Ytbjikfcegiagjaa
