/- A net's All; conditions: it lies in memory. -/
import Derived.Test.YtejeihbcakojeaaN7
import Derived.Laws.MakeOwn
namespace Go.Proofs.Ytejeihbcakojeaa
open Go.RowKit Go.Lib
set_option linter.unusedVariables false
set_option linter.unusedSimpArgs false
set_option maxRecDepth 20000
def zC (k : Nat) : Array Value := madeCells (Value.agg #[.int .i64 0, .int .i64 0, .slice none 0 0]).cells (k * 3)
theorem zC_list (k : Nat) : (zC k).toList = ltcs (List.replicate k zLt) := by
  apply List.ext_getElem?
  intro p
  by_cases h : p < k * 3
  · have e1 : (ltcs (List.replicate k zLt))[p]? = (ltc zLt)[p % 3]? := by
      have := flat_get ltc 3 ltc_len (List.replicate k zLt) (p / 3) (p % 3) (by simp; omega) (by omega)
      rw [show p / 3 * 3 + p % 3 = p from by omega] at this
      unfold ltcs
      rw [this]
      simp
    rw [e1]
    unfold zC madeCells
    rw [show (Value.agg #[.int .i64 0, .int .i64 0, .slice none 0 0]).cells = #[.int .i64 0, .int .i64 0, .slice none 0 0] from rfl]
    simp [h]
    have : p % 3 < 3 := by omega
    generalize p % 3 = q at *
    match q, this with
    | 0, _ => rfl
    | 1, _ => rfl
    | 2, _ => rfl
  · rw [List.getElem?_eq_none (by unfold zC; simp [madeCells]; omega), List.getElem?_eq_none (by rw [ltcs_len, List.length_replicate]; omega)]
theorem madeL (w : World) (k : Nat) (hk : k ≤ 1000) : (Instr.makeSlice 38 (.int .i64 (k : Nat)) (.int .i64 (k : Nat))).run Try.prog w = .ok (.slice (some ⟨w.heap.size, 0, none⟩) k k) (w.alloc (.cells (zC k) 30)) := by
  obtain ⟨i0, hi, hz0, hz1, hz2⟩ := info_parts infoLt
  have q := run_make (P := Try.prog) w 38 30 i0 _ Try.underlying38 hi hz0 .i64 .i64 k k (by omega) (Int.le_refl _) (by rw [hz2]; omega) (by omega)
  rw [hz1] at q
  simpa [zC] using q
theorem madeLRow (w : World) (k : Nat) (hk : k ≤ 1000) : OwnT w.heap.size (w.alloc (.cells (zC k) 30)) (.slice (some ⟨w.heap.size, 0, none⟩) k k) (List.replicate k zLt) := by
  have e : (zC k).size = k * 3 := by rw [← Array.length_toList, zC_list, ltcs_len, List.length_replicate]
  have q := ownT_of (base := w.heap.size) (X := List.replicate k zLt) (cap := k) (Nat.le_refl _) (alloc_at w (.cells (zC k) 30)) (by simp) (by unfold maxLen; omega) e (by rw [zC_list, List.take_of_length_le (by rw [ltcs_len]; exact Nat.le_refl _)])
  simpa using q
/-- Letters that are new: each has bytes of its own. -/
structure AllIs (base : Nat) (w : World) (Y X : List Lt) : Prop where
  len : Y.length = X.length
  p : Y.map Lt.p = X.map Lt.p
  own : ∀ y ∈ Y, Own w y.v y.L ∧ ∀ g, y.v.ownBlock = some g → base ≤ g
  far : Y.Pairwise fun x y => ∀ g, x.v.ownBlock = some g → y.v.ownBlock ≠ some g
theorem AllIs.nil (base : Nat) (w : World) : AllIs base w [] [] := ⟨rfl, rfl, (fun y h => by cases h), List.Pairwise.nil⟩
theorem AllIs.old {base : Nat} {w w' : World} {Y X : List Lt} (h : AllIs base w Y X) (u : Old w w') : AllIs base w' Y X := ⟨h.len, h.p, fun y hy => ⟨(h.own y hy).1.old u, (h.own y hy).2⟩, h.far⟩
theorem AllIs.chg {base : Nat} {S : List Nat} {w w' : World} {Y X : List Lt} (h : AllIs base w Y X) (u : Chg S w w') (hn : ∀ y ∈ Y, ∀ g, y.v.ownBlock = some g → g ∉ S) : AllIs base w' Y X := ⟨h.len, h.p, fun y hy => ⟨(h.own y hy).1.chg u (hn y hy), (h.own y hy).2⟩, h.far⟩
theorem AllIs.snoc {base : Nat} {w w' : World} {Y X : List Lt} {y x : Lt} (h : AllIs base w Y X) (u : Old w w') (n : LtNew w w' y) (e : y.p = x.p) (hb : base ≤ w.heap.size) : AllIs base w' (Y ++ [y]) (X ++ [x]) := by
  refine ⟨by simp [h.len], by simp [h.p, e], fun z hz => ?_, ?_⟩
  · rcases List.mem_append.1 hz with q | q
    · exact ⟨((h.own z q).1).old u, (h.own z q).2⟩
    · rw [List.mem_singleton.1 q]; exact ⟨n.1, fun g e => by have := (n.2 g e).1; omega⟩
  · rw [List.pairwise_append]
    refine ⟨h.far, List.pairwise_singleton _ _, fun a ha b hb2 g e => ?_⟩
    rw [List.mem_singleton.1 hb2]
    intro k
    have := (n.2 g k).1
    have := (h.own a ha).1.lt g e
    omega
theorem OwnT.blk {base : Nat} {w : World} {g n c : Nat} {X : List Lt} (h : OwnT base w (.slice (some ⟨g, 0, none⟩) n c) X) : ∃ cur, w.heap[g]? = some (.cells cur 30 (0, 0)) := by
  rcases h.cases with ⟨q, _⟩ | ⟨g', cap, cur, q, _, hg, _⟩
  · cases q
  · obtain ⟨e, -, -⟩ := Value.slice.inj q
    cases e
    exact ⟨cur, hg⟩
def AllPost (w : World) (X : List Lt) (n : Nat) (e : Ending) (w' : World) : Prop := ∃ go Z, e = .returned (.slice (some ⟨go, 0, none⟩) n n) ∧ OwnT w.heap.size w' (.slice (some ⟨go, 0, none⟩) n n) Z ∧ AllIs w.heap.size w' Z X ∧ Old w w'
set_option maxHeartbeats 2000000 in
set_option maxRecDepth 20000 in
theorem all_any (d : Nt) (w : World) (h : NtAt w d) : Calls Try.prog 14 #[.pointer (some ⟨d.nb, 0, none⟩)] w (AllPost w d.X d.X.length) := by
  have hn : d.X.length ≤ 1000 := Nat.le_trans h.le h.few
  have hmk := madeL w d.X.length hn
  have HO := hid (madeLRow w d.X.length hn)
  have HU := hid (show Old w (w.alloc (.cells (zC d.X.length) 30)) from (Old.refl w).alloc _)
  have HD := hid h
  obtain ⟨c0, c1, -, -⟩ := h.cells
  have c1b := HU.out.keep c1
  have HN := hid hn
  clear h hn c0
  obtain ⟨nb, mo, da, dc, X⟩ := d
  dsimp only at hmk HO HU c1 c1b HN ⊢
  obtain ⟨n, hn⟩ : ∃ n, n = X.length := ⟨_, rfl⟩
  have HNl := hid hn
  rw [← hn] at hmk HO HU c1 c1b HN ⊢
  clear hn
  go_enter Try.func14, Try.ntmps14
  go_upto_region 2 with (fail)
  clear hmk c1
  have Qg := hid (Nat.le_refl w.heap.size)
  have HOg := hid (heap_lt (alloc_at w (.cells (zC n) 30)))
  generalize w.alloc (.cells (zC n) 30) = w1 at *
  obtain ⟨go, hgo⟩ : ∃ go, go = w.heap.size := ⟨_, rfl⟩
  have HG := hid hgo
  rw [show (Value.slice (some ⟨w.heap.size, 0, none⟩) n n) = .slice (some ⟨go, 0, none⟩) n n from by rw [hgo]] at HO
  rw [← hgo]
  clear hgo
  go_wp2
  go_loopw [17] (fun c wr => ∃ (i : Nat) (Y : List Lt), i ≤ n ∧ c = .int .i64 (i : Nat) ∧ OwnT w.heap.size wr (.slice (some ⟨go, 0, none⟩) n n) (Y ++ List.replicate (n - i) zLt) ∧ AllIs w.heap.size wr Y (X.take i) ∧ Old w wr) (fun c _ => n - (intOf c).toNat)
  case atStart => exact ⟨0, [], Nat.zero_le _, rfl, by simpa using HO.out, by simpa using AllIs.nil _ _, HU.out⟩
  case round =>
    obtain ⟨i, Y, hi, rfl, hO, hA, hU⟩ := hrel
    have HO1 := hid hO
    have HA1 := hid hA
    have HU1 := hid hU
    clear hO hA hU HO HU
    by_cases hlt : i < n
    · have hil : i < X.length := by rw [← HNl.out]; exact hlt
      have hD1 := HD.out.old HU1.out
      obtain ⟨g, c, q, hnc, hcm, ⟨y0, y1, y2⟩, -⟩ := hD1.row.at i hil
      have ha : da = some ⟨g, 0, none⟩ := (Value.slice.inj q).1
      subst ha
      dsimp only at y0 y1 y2 hnc
      have HC := hid (fun (W : World) (u : Old wr W) => clone_any X[i].f X[i].t X[i].v X[i].L W ((hD1.byt _ (List.getElem_mem hil)).1.old u).row (hD1.byt _ (List.getElem_mem hil)).2)
      have HT := hid (show X.take (i + 1) = X.take i ++ [X[i]] from (List.take_append_getElem hil).symm)
      have HP := hid (show ∀ a c, Lt.p ⟨X[i].f, X[i].t, a, c, X[i].L⟩ = X[i].p from fun _ _ => rfl)
      have HYl := hid (show Y.length = i from by rw [HA1.out.len, List.length_take]; omega)
      have l1 : (0 : Int) ≤ (i : Int) := by omega
      have l2 : (i : Int) < (n : Int) := by omega
      have l3 : (n : Int) ≤ 1000 := by have := HN.out; omega
      clear hD1 q hnc hcm
      unfold Lt.v at y2 HC
      generalize X[i] = xi at *
      clear hil
      go_upto_region 5 with (fail)
      have U2 := hid (show Old wr (wr.alloc (.cells #[.int .i64 xi.f, .int .i64 xi.t, .slice xi.a xi.L.length xi.c] 30)) from (Old.refl wr).alloc _)
      obtain ⟨z0, z1, z2, -, -, -⟩ := box3 (alloc_at wr (.cells #[.int .i64 xi.f, .int .i64 xi.t, .slice xi.a xi.L.length xi.c] 30))
      generalize wr.alloc (.cells #[.int .i64 xi.f, .int .i64 xi.t, .slice xi.a xi.L.length xi.c] 30) = w2 at *
      generalize wr.heap.size = bx at *
      clear y0 y1 y2
      go_wp2_with (go_at_call 21; refine (HC.out _ U2.out).mono ?_; rintro e w3 ⟨a3, c3, rfl, n3, u3⟩; have N3 := hid n3; have U3 := hid u3; have O3 := hid ((HO1.out.old U2.out).old u3); have t3 := (HO1.out.old (U2.out.trans u3)).there i (by rw [List.length_append, HYl.out, List.length_replicate]; omega); obtain ⟨p0, f0⟩ := t3 0 (by omega); obtain ⟨p1, f1⟩ := t3 1 (by omega); obtain ⟨p2, f2⟩ := t3 2 (by omega); obtain ⟨s0, g0⟩ := Option.isSome_iff_exists.1 p0; obtain ⟨s1, g1⟩ := Option.isSome_iff_exists.1 p1; obtain ⟨s2, g2⟩ := Option.isSome_iff_exists.1 p2; rw [Nat.add_zero] at g0 f0; clear n3 u3 t3 p0 p1 p2)
      go_roundw
      case rel =>
        obtain ⟨o4, ch4⟩ := O3.out.set i ⟨xi.f, xi.t, a3, c3, xi.L⟩ (by rw [List.length_append, HYl.out, List.length_replicate]; omega)
        have hA2 : AllIs w.heap.size w3 (Y ++ [⟨xi.f, xi.t, a3, c3, xi.L⟩]) (X.take i ++ [xi]) := (HA1.out.old U2.out).snoc U3.out N3.out (HP.out a3 c3) (HU1.out.trans U2.out).size
        refine ⟨i + 1, Y ++ [⟨xi.f, xi.t, a3, c3, xi.L⟩], hlt, by go_num, ?_, ?_, ?_⟩
        · have e : (Y ++ List.replicate (n - i) zLt).set i ⟨xi.f, xi.t, a3, c3, xi.L⟩ = Y ++ [⟨xi.f, xi.t, a3, c3, xi.L⟩] ++ List.replicate (n - (i + 1)) zLt := by
            rw [List.set_append_right _ _ (by rw [HYl.out]; exact Nat.le_refl _), HYl.out, Nat.sub_self, show n - i = (n - (i + 1)) + 1 from by omega, List.replicate_succ, List.set_cons_zero, List.append_assoc]
            rfl
          rw [← e]
          exact o4
        · rw [HT.out]
          obtain ⟨cur, hcur⟩ := O3.out.blk
          exact hA2.chg ch4 (fun y hy g e => (hA2.own y hy).1.offT hcur (by decide) g e)
        · exact ((HU1.out.trans U2.out).trans U3.out).below (ch4.below _ (fun k hk => by simp at hk; have := HG.out; omega) (by have := (HU1.out.trans (U2.out.trans U3.out)).size; exact this))
      case measure => simp [intOf]; omega
    · obtain rfl : i = n := by omega
      have l2 : ¬ (i : Int) < (i : Int) := by omega
      go_wp2
      refine bodyPost_ret (v := .slice (some ⟨go, 0, none⟩) i i) (by simp [results, Try.results14, go_sem]) rfl ?_
      refine ⟨go, Y, rfl, by simpa using HO1.out, ?_, HU1.out⟩
      have := HA1.out
      rw [HNl.out, List.take_length] at this
      exact this
end Go.Proofs.Ytejeihbcakojeaa
