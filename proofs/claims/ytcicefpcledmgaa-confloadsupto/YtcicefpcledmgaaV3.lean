/- conf.without at every row; conditions: the row lies in memory. -/
import Derived.Test.YtcicefpcledmgaaV2
import Derived.Shelf.SlicesE.DeleteFunc
import Derived.Ground.SlgfProg
import Derived.Lib.SliceRun
namespace Go.Proofs
open Go.RowKit Go.Maps Go.Sort Go.Shelf Go.Lib
shelf_lay_g SlLaysH.n10 Slgf 10 at Try 51 as Ytcicefpcledmgaa.delA
end Go.Proofs
namespace Go.Proofs.Ytcicefpcledmgaa
open Go.RowKit Go.Lib Go.Sort Go.Shelf
set_option linter.unusedVariables false
set_option linter.unusedSimpArgs false
set_option maxRecDepth 20000
/-- A row that is nil, or lies somewhere. -/
def Sh (v : Value) : Prop := v = .slice none 0 0 ∨ ∃ a n c, v = .slice (some a) n c
theorem OwnI.sh {base : Nat} {w : World} {v : Value} {L : List Int} (h : OwnI base w v L) : Sh v := by
  rcases h.2 with ⟨rfl, _⟩ | ⟨g, cap, cur, rfl, _⟩
  · exact .inl rfl
  · exact .inr ⟨_, _, _, rfl⟩
def Blk (w : World) (g : Nat) (t : TypeId) (s : Nat) : Prop := ∃ cur, w.heap[g]? = some (.cells cur t (0, 0)) ∧ cur.size = s
theorem OwnI.blk {base : Nat} {w : World} {g n cap : Nat} {L : List Int} (h : OwnI base w (.slice (some ⟨g, 0, none⟩) n cap) L) : Blk w g 3 cap ∧ base ≤ g ∧ n = L.length ∧ n ≤ cap ∧ cap ≤ maxLen ∧ ∀ j, j < L.length → w.cell? ⟨g, j, none⟩ = some (.int .i64 (L.getD j 0)) := by
  have h2 := h
  unfold OwnI at h2
  rcases h2.2 with ⟨e, _⟩ | ⟨g', cap', cur, e, hb, hg, hnc, hcm, hcs, htk⟩
  · cases e
  · cases e
    refine ⟨⟨cur, hg, by omega⟩, hb, rfl, hnc, hcm, fun j hj => ?_⟩
    rw [h2.cellAt j (by omega)]
    simp [ils, List.getD_eq_getElem?_getD, hj]
theorem OwnI.of_cells {base : Nat} {w : World} {g cap : Nat} {L : List Int} (hB : Blk w g 3 cap) (hb : base ≤ g) (hl : L.length ≤ cap) (hm : cap ≤ maxLen) (hc : ∀ j, j < L.length → w.cell? ⟨g, j, none⟩ = some (.int .i64 (L.getD j 0))) : OwnI base w (.slice (some ⟨g, 0, none⟩) L.length cap) L := by
  obtain ⟨cur, hg, hs⟩ := hB
  refine ⟨by simp [ils], .inr ⟨g, cap, cur, rfl, hb, hg, hl, hm, by omega, ?_⟩⟩
  apply List.ext_getElem?
  intro j
  rw [Nat.mul_one, List.getElem?_take]
  by_cases hj : j < L.length
  · rw [if_pos hj]
    have q := hc j hj
    simp [World.cell?, hg] at q
    rw [Array.getElem?_toList, q]
    simp [ils, List.getD_eq_getElem?_getD, hj]
  · rw [if_neg hj]
    exact (List.getElem?_eq_none (by simp [ils]; omega)).symm
theorem OwnI.holds {base : Nat} {w : World} {g cap : Nat} {L : List Int} (h : OwnI base w (.slice (some ⟨g, 0, none⟩) L.length cap) L) : Holds (Value.int .i64) w g 0 L.toArray ∧ g < w.heap.size := by
  obtain ⟨⟨cur, hg, hs⟩, _, _, _, _, hc⟩ := h.blk
  refine ⟨fun j hj => ?_, heap_lt hg⟩
  have hj' : j < L.length := by simpa using hj
  refine ⟨?_, by simp [World.frozen?, hg]⟩
  rw [Nat.zero_add, hc j hj', getElem!_pos L.toArray j (by simpa using hj')]
  simp [List.getD_eq_getElem?_getD, hj']
/-- All but one number. -/
def keepX (x : Int) (L : List Int) : List Int := L.filter fun y => !(y == x)
set_option maxHeartbeats 2000000 in
set_option maxRecDepth 20000 in
theorem cloneI_own (v : Value) (n : Nat) (f : Nat → Int) (w : World) (h : NRowL w v n f) (hs : Sh v) :
    Calls Try.prog 57 #[v] w fun e w' => ∃ v', e = .returned v' ∧ OwnI w.heap.size w' v' (lsI f n) ∧ Old w w' := by
  rcases hs with rfl | ⟨ad, n', c', e⟩
  · obtain ⟨_, p, c, e, _⟩ := h
    cases e
    have hq := fun w => Go.Lib.run_eql_slice_nil (P := Try.prog) w 22 3 none 0 0 0 0 Try.underlying22
    go_enter Try.func57, Try.ntmps57
    go_wp2
    go_ret
    exact ⟨_, rfl, ⟨rfl, .inl ⟨rfl, rfl⟩⟩, Old.refl _⟩
  · obtain ⟨hn, p, c, rfl, hnc, hcm, hc⟩ := h
    cases e
    have hq := fun w => Go.Lib.run_eql_slice_nil (P := Try.prog) w 22 3 (some ad) n c' 0 0 Try.underlying22
    obtain ⟨i0, hi, hz0, hz1, hz2⟩ := info_parts infoI
    have HI := hid (And.intro hi (And.intro hz0 (And.intro hz1 hz2)))
    have HC : Hid (∀ j u, (ils (lsI f n))[j]? = some u → w.cell? (ad.add j) = some u) := hid (fun j u hj => by
      have hlt : j < n := by
        obtain ⟨q, _⟩ := List.getElem?_eq_some_iff.1 hj
        simp [ils, lsI_len] at q; exact q
      obtain ⟨g', off', e, q⟩ := hc j hlt
      cases e
      rw [Go.WideShapes.add_plain, q, ← hj]
      have q2 := lsI_get f n j hlt
      simp [ils]
      rw [List.getElem?_eq_getElem (by rw [lsI_len]; exact hlt)]
      rw [List.getD_eq_getElem?_getD, List.getElem?_eq_getElem (by rw [lsI_len]; exact hlt)] at q2
      simp at q2 ⊢; exact q2.symm)
    have hE : w.alloc (.cells #[] 3) |>.ownsRow w.heap.size 3 1 (.slice (some ⟨w.heap.size, 0, none⟩) 0 0) 0 [] := World.ownsRow_made w #[] 0 (Nat.le_refl _) (by unfold maxLen; omega) rfl
    have HEE := hid hE
    have HN := hid hn
    clear hi hz0 hz1 hz2 hE hc
    go_enter Try.func57, Try.ntmps57
    go_wp2_with (at_builtin; refine wpList_append_own_at _ rfl (.tmp 5) (.tmp 6) 22 rfl w.heap.size 3 i0 _ 1 8 Try.underlying22 HI.out.1 HI.out.2.1 HI.out.2.2.1 HI.out.2.2.2 rfl (by decide) _ 0 [] rfl HEE.out ad n c' (ils (lsI f n)) rfl (by simp [ils, lsI_len]) (fun j u hj => ((Old.refl w).alloc _).keep (HC.out j u hj)) (fun u hu => by simp [ils] at hu; obtain ⟨a, _, rfl⟩ := hu; rfl) (by unfold maxLen; have := HN.out; omega) (by have := HN.out; omega) (by simp) ?_; intro v' w' h1 h2 h3 h4; have H1 := hid h1; have H2 := hid (Old.below ((Old.refl w).alloc (.cells #[] 3)) (Below.grown (Below.refl _ _) h2 (by simp) (fun k hk => by cases hk; exact Nat.le_refl _))); clear h1 h2 h3 h4)
    go_ret
    have q := H1.out
    rw [Nat.zero_add, List.nil_append] at q
    refine ⟨_, rfl, ?_, H2.out⟩
    unfold OwnI
    rw [lsI_len]
    exact q
theorem wout1 (x y : Int) (B : Nat) (W : World) (hc : W.cell? ⟨B, 0, none⟩ = some (.int .i64 x)) :
    FnGives Try.prog 58 #[.pointer (some ⟨B, 0, none⟩)] #[.int .i64 y] (.bool (y == x)) W := by
  show Calls Try.prog 58 #[.int .i64 y, .pointer (some ⟨B, 0, none⟩)] W _
  go_enter Try.func58, Try.ntmps58
  go_wp2
  go_ret
  exact ⟨rfl, 0, rfl⟩
theorem wout_at (x : Int) (B : Nat) (w : World) (hB : B < w.heap.size) (hcell : w.cell? ⟨B, 0, none⟩ = some (.int .i64 x)) :
    PredAt Try.prog 58 #[.pointer (some ⟨B, 0, none⟩)] (Value.int .i64) (fun y => y == x) w :=
  fun W y hb => wout1 x y B W ((hb.cell (p := ⟨B, 0, none⟩) hB).trans hcell)
theorem wout_over (x : Int) (B blk off size : Nat) (w : World) (hB : B < w.heap.size) (hne : B ≠ blk) (hcell : w.cell? ⟨B, 0, none⟩ = some (.int .i64 x)) :
    PredOver Try.prog 58 #[.pointer (some ⟨B, 0, none⟩)] (Value.int .i64) (fun y => y == x) blk off size w :=
  fun n os dk y _ => wout1 x y B _ (by
    unfold sortWorld
    rw [cell?_grow _ _ _ (by show B < (putRow _ _ _ _ _).heap.size; rw [size_putRow]; exact hB), cell?_putRow_other _ _ blk off _ _ (Or.inl hne)]
    exact hcell)
set_option maxHeartbeats 2000000 in
set_option maxRecDepth 20000 in
theorem deleteI_any (base : Nat) (v : Value) (L : List Int) (x : Int) (mb : Nat) (w : World) (hl : L.length ≤ 17592186044000) (h : OwnI base w v L) (hm : w.cell? ⟨mb, 0, none⟩ = some (.int .i64 x)) (hmb : v.ownBlock ≠ some mb) :
    Calls Try.prog 51 #[v, .func (.func 58) #[] #[.pointer (some ⟨mb, 0, none⟩)]] w fun e w' => ∃ v', e = .returned v' ∧ OwnI base w' v' (keepX x L) ∧ Chg v.ownBlock.toList w w' := by
  have eg := enters_of Try.func58 (by kernel_rfl) rfl
  by_cases hz : L = []
  · subst hz
    have HO := hid h
    have HI := hid (indexFn_any 58 #[.pointer (some ⟨mb, 0, none⟩)] (fun _ => false) eg v 0 (fun _ => 0) w (h.rowL (by simp) rfl (fun i hi => by omega)) (fun W u i hi => by omega))
    obtain ⟨p, c, rfl⟩ := h.len
    clear h hm hmb
    go_enter Try.func51, Try.ntmps51
    go_wp2_with (go_at_call 56; refine HI.out.mono ?_; rintro e w1 ⟨r, rfl, hr, o1⟩; have hr1 : r = -1 := by { rcases hr with q | ⟨k, _, q, _⟩; exact q.1; omega }; subst hr1; have O1 := hid o1; clear o1 hr)
    go_ret
    exact ⟨_, rfl, HO.out.up O1.out, Chg.ofOld O1.out⟩
  · obtain ⟨g, cap, rfl⟩ : ∃ g cap, v = .slice (some ⟨g, 0, none⟩) L.length cap := by
      rcases h.2 with ⟨_, e⟩ | ⟨g, cap, cur, rfl, _⟩
      · exact absurd (List.length_eq_zero_iff.1 e) hz
      · exact ⟨g, cap, rfl⟩
    obtain ⟨hH, hlt⟩ := h.holds
    obtain ⟨⟨cur, hg, hcs⟩, hb, _, hnc, hcm, hc⟩ := h.blk
    have hne : mb ≠ g := fun e => hmb (by rw [e]; rfl)
    have q := AnyE.slices_DeleteFunc delA (Value.int .i64) (fun _ => rfl) (fun y => y == x) 58 #[.pointer (some ⟨mb, 0, none⟩)] eg 0 Try.zeroValue3 g 0 cap L.toArray w (wout_at x mb w (World.block_lt_of_cell? w _ hm) hm) (wout_over x mb g 0 _ w (World.block_lt_of_cell? w _ hm) hne hm) hH (by simp; omega) (by simpa using hnc)
    rw [List.size_toArray] at q
    refine Calls.mono q ?_
    rintro e w' ⟨rfl, k, rfl⟩
    refine ⟨_, rfl, ?_, ⟨rfl, rfl, rfl, by simp, fun j hj hn => ?_⟩⟩
    · have hk : keepX x L = (L.toArray.toList.filter fun y => !(y == x)) := by simp [keepX]
      rw [hk]
      have hle : (L.toArray.toList.filter fun y => !(y == x)).length ≤ L.length := by simpa using List.length_filter_le _ L
      generalize (L.toArray.toList.filter fun y => !(y == x)) = K at *
      refine OwnI.of_cells ⟨putCells (Value.int .i64) 0 (K ++ List.replicate (L.length - K.length) 0).toArray cur, ?_, ?_⟩ hb (by omega) hcm (fun j hj => ?_)
      · simp [putRow, mapBlock, Array.getElem?_modify, Sort.ahead, hg, onCells]
      · simp [putCells, hcs]
      · have r := cell?_putRow (Value.int .i64) (Sort.ahead w k) g 0 L.toArray (K ++ List.replicate (L.length - K.length) 0).toArray hH (by simp; omega) j (by simp; omega)
        rw [Nat.zero_add] at r
        rw [r, getElem!_pos _ j (by simp; omega)]
        simp [List.getD_eq_getElem?_getD, hj, List.getElem_append_left hj]
    · unfold putRow mapBlock
      simp [Array.getElem?_modify]
      intro e; simp [Value.ownBlock] at hn; exact absurd e.symm hn
set_option maxHeartbeats 2000000 in
set_option maxRecDepth 20000 in
theorem without_any (v : Value) (n : Nat) (f : Nat → Int) (x : Int) (w : World) (h : NRowL w v n f) (hs : Sh v) :
    Calls Try.prog 34 #[v, .int .i64 x] w fun e w' => ∃ v', e = .returned v' ∧ OwnI w.heap.size w' v' (keepX x (lsI f n)) ∧ Old w w' := by
  have HC := hid (fun (W : World) (u : Old w W) => cloneI_own v n f W (h.old u) hs)
  have HN := hid h.1
  obtain ⟨_, p, c, rfl, _⟩ := h
  have hmf : ∀ (fn : Fn) (first cap : Array Value) (w : World), (Instr.makeFunc fn first cap).run Try.prog w = .ok (.func fn first cap) w := fun _ _ _ _ => rfl
  go_enter Try.func34, Try.ntmps34
  go_wp2_with (first | (go_at_call 57; refine (HC.out _ ((Old.refl _).alloc _)).mono ?_; rintro e w1 ⟨v1, rfl, o1, u1⟩; have O1 := hid o1; have U1 := hid u1; have hx1 : w1.cell? ⟨w.heap.size, 0, none⟩ = some (.int .i64 x) := u1.keep (by simp); have hS := o1.sh; clear o1 u1) | (go_at_call 51; refine (deleteI_any _ _ _ x w.heap.size w1 (by rw [lsI_len]; exact HN.out) O1.out hx1 (fun e => absurd (World.ownsRow.lt O1.out w.heap.size e).1 (by simp))).mono ?_; rintro e w2 ⟨v2, rfl, o2, c2⟩; have O2 := hid o2; have C2 := hid c2; clear o2 c2))
  go_ret
  refine ⟨_, rfl, O2.out.mono (by simp), ?_⟩
  exact (((Old.refl w).alloc _).trans U1.out).below (C2.out.below _ (fun k hk => by rw [Option.mem_toList] at hk; have := (World.ownsRow.lt O1.out k hk).1; simp at this; omega) (by have := U1.out.size; simp at this; omega))
end Go.Proofs.Ytcicefpcledmgaa
