/- conf.Others at every configuration that is not long; conditions: the rows lie in memory. -/
import Derived.Test.YtcicefpcledmgaaV12
import Derived.Test.YtcicefpcledmgaaV15
import Derived.Shelf.Slices.CompactI
import Derived.Ground.Names2Prog
namespace Go.Proofs
open Go.RowKit Go.Maps Go.Sort Go.Shelf
shelf_lay Lays2.n20 Nm2 20 at Try as Ytcicefpcledmgaa.cmpLay
end Go.Proofs
namespace Go.Proofs.Ytcicefpcledmgaa
open Go.RowKit Go.Lib Go.Sort Go.Shelf
set_option linter.unusedVariables false
set_option linter.unusedSimpArgs false
set_option maxRecDepth 20000
theorem cell_new2 (w : World) (a b : Value) (t : TypeId) (g : Nat) (hg : w.heap.size = g) : (w.alloc (.cells #[a, b] t)).cell? ⟨g, 0, none⟩ = some a ∧ (w.alloc (.cells #[a, b] t)).cell? ⟨g, 1, none⟩ = some b := by subst hg; simp
theorem oout1 (x y : Int) (B : Nat) (W : World) (hc : W.cell? ⟨B, 0, none⟩ = some (.int .i64 x)) :
    FnGives Try.prog 53 #[.pointer (some ⟨B, 0, none⟩)] #[.int .i64 y] (.bool (y == x)) W := by
  show Calls Try.prog 53 #[.int .i64 y, .pointer (some ⟨B, 0, none⟩)] W _
  go_enter Try.func53, Try.ntmps53
  go_wp2
  go_ret
  exact ⟨rfl, 0, rfl⟩
theorem oout_at (x : Int) (B : Nat) (w : World) (hB : B < w.heap.size) (hcell : w.cell? ⟨B, 0, none⟩ = some (.int .i64 x)) :
    PredAt Try.prog 53 #[.pointer (some ⟨B, 0, none⟩)] (Value.int .i64) (fun y => y == x) w :=
  fun W y hb => oout1 x y B W ((hb.cell (p := ⟨B, 0, none⟩) hB).trans hcell)
theorem oout_over (x : Int) (B blk off size : Nat) (w : World) (hB : B < w.heap.size) (hne : B ≠ blk) (hcell : w.cell? ⟨B, 0, none⟩ = some (.int .i64 x)) :
    PredOver Try.prog 53 #[.pointer (some ⟨B, 0, none⟩)] (Value.int .i64) (fun y => y == x) blk off size w :=
  fun n os dk y _ => oout1 x y B _ (by
    unfold sortWorld
    rw [cell?_grow _ _ _ (by show B < (putRow _ _ _ _ _).heap.size; rw [size_putRow]; exact hB), cell?_putRow_other _ _ blk off _ _ (Or.inl hne)]
    exact hcell)
set_option maxHeartbeats 2000000 in
set_option maxRecDepth 20000 in
theorem deleteO_any (base : Nat) (v : Value) (L : List Int) (x : Int) (mb : Nat) (w : World) (hl : L.length ≤ 17592186044000) (h : OwnI base w v L) (hm : w.cell? ⟨mb, 0, none⟩ = some (.int .i64 x)) (hmb : v.ownBlock ≠ some mb) :
    Calls Try.prog 51 #[v, .func (.func 53) #[] #[.pointer (some ⟨mb, 0, none⟩)]] w fun e w' => ∃ v', e = .returned v' ∧ OwnI base w' v' (keepX x L) ∧ Chg v.ownBlock.toList w w' := by
  have eg := enters_of Try.func53 (by kernel_rfl) rfl
  by_cases hz : L = []
  · subst hz
    have HO := hid h
    have HI := hid (indexFn_any 53 #[.pointer (some ⟨mb, 0, none⟩)] (fun _ => false) eg v 0 (fun _ => 0) w (h.rowL (by simp) rfl (fun i hi => by omega)) (fun W u i hi => by omega))
    obtain ⟨p, c, rfl⟩ := h.len
    clear h hm hmb
    go_enter Try.func51, Try.ntmps51
    go_wp2_with (go_at_call 56; refine HI.out.mono ?_; rintro e w1 ⟨r, rfl, hr, o1⟩; have hr1 : r = -1 := by { rcases hr with q | ⟨k, _, q, _⟩; exact q.1; omega }; subst hr1; have O1 := hid o1; clear o1 hr)
    go_ret
    exact ⟨_, rfl, HO.out.up O1.out, Chg.ofOld O1.out⟩
  · obtain ⟨g, cap, rfl⟩ : ∃ g cap, v = .slice (some ⟨g, 0, none⟩) L.length cap := by
      rcases h.2 with ⟨_, e⟩ | ⟨g, cap, cur, rfl, _⟩
      · exact absurd (List.length_eq_zero_iff.1 e) hz
      · exact ⟨g, cap, rfl⟩
    obtain ⟨hH, hlt⟩ := h.holds
    obtain ⟨⟨cur, hg, hcs⟩, hb, _, hnc, hcm, hc⟩ := h.blk
    have hne : mb ≠ g := fun e => hmb (by rw [e]; rfl)
    have q := AnyE.slices_DeleteFunc delA (Value.int .i64) (fun _ => rfl) (fun y => y == x) 53 #[.pointer (some ⟨mb, 0, none⟩)] eg 0 Try.zeroValue3 g 0 cap L.toArray w (oout_at x mb w (World.block_lt_of_cell? w _ hm) hm) (oout_over x mb g 0 _ w (World.block_lt_of_cell? w _ hm) hne hm) hH (by simp; omega) (by simpa using hnc)
    rw [List.size_toArray] at q
    refine Calls.mono q ?_
    rintro e w' ⟨rfl, k, rfl⟩
    refine ⟨_, rfl, ?_, ⟨rfl, rfl, rfl, by simp, fun j hj hn => ?_⟩⟩
    · have hk : keepX x L = (L.toArray.toList.filter fun y => !(y == x)) := by simp [keepX]
      rw [hk]
      have hle : (L.toArray.toList.filter fun y => !(y == x)).length ≤ L.length := by simpa using List.length_filter_le _ L
      generalize (L.toArray.toList.filter fun y => !(y == x)) = K at *
      refine OwnI.of_cells ⟨putCells (Value.int .i64) 0 (K ++ List.replicate (L.length - K.length) 0).toArray cur, ?_, ?_⟩ hb (by omega) hcm (fun j hj => ?_)
      · simp [putRow, mapBlock, Array.getElem?_modify, Sort.ahead, hg, onCells]
      · simp [putCells, hcs]
      · have r := cell?_putRow (Value.int .i64) (Sort.ahead w k) g 0 L.toArray (K ++ List.replicate (L.length - K.length) 0).toArray hH (by simp; omega) j (by simp; omega)
        rw [Nat.zero_add] at r
        rw [r, getElem!_pos _ j (by simp; omega)]
        simp [List.getD_eq_getElem?_getD, hj, List.getElem_append_left hj]
    · unfold putRow mapBlock
      simp [Array.getElem?_modify]
      intro e; simp [Value.ownBlock] at hn; exact absurd e.symm hn
theorem compact_le (L : List Int) : (Lib.compact L).length ≤ L.length := by
  unfold Lib.compact Lib.compactUpTo
  rw [List.length_map]
  exact Nat.le_trans (List.length_filter_le _ _) (by simp)
theorem compactI_any (base : Nat) (v : Value) (L : List Int) (w : World) (hl : L.length ≤ 17592186044000) (h : OwnI base w v L) :
    Calls Try.prog 52 #[v] w fun e w' => ∃ v', e = .returned v' ∧ OwnI base w' v' (Lib.compact L) ∧ v'.ownBlock = v.ownBlock ∧ Chg v.ownBlock.toList w w' := by
  by_cases hz : L = []
  · subst hz
    obtain ⟨p, c, rfl⟩ := h.len
    refine (Any.slices_Compact_int_empty cmpLay p c w).mono ?_
    rintro e w' ⟨rfl, rfl⟩
    exact ⟨_, rfl, h, rfl, Chg.refl _ _⟩
  · obtain ⟨g, cap, rfl⟩ : ∃ g cap, v = .slice (some ⟨g, 0, none⟩) L.length cap := by
      rcases h.2 with ⟨_, e⟩ | ⟨g, cap, cur, rfl, _⟩
      · exact absurd (List.length_eq_zero_iff.1 e) hz
      · exact ⟨g, cap, rfl⟩
    obtain ⟨hH, hlt, _⟩ := holdsI h
    obtain ⟨⟨cur, hg, hcs⟩, hb, _, hnc, hcm, hc⟩ := OwnI.blk h
    refine (Any.slices_Compact_int cmpLay g 0 cap L w hH (by omega) hnc).mono ?_
    rintro e w' ⟨rfl, k, rfl⟩
    have hle := compact_le L
    generalize Lib.compact L = K at *
    refine ⟨_, rfl, ?_, rfl, ⟨rfl, rfl, rfl, by simp, fun j hj hn => ?_⟩⟩
    · refine OwnI.of_cells ⟨putCells (Value.int .i64) 0 (K ++ List.replicate (L.length - K.length) 0).toArray cur, ?_, ?_⟩ hb (by omega) hcm (fun j hj => ?_)
      · simp [putRow, mapBlock, Array.getElem?_modify, Sort.ahead, hg, onCells]
      · simp [putCells, hcs]
      · have r := cell?_putRow (Value.int .i64) (Sort.ahead w k) g 0 L.toArray (K ++ List.replicate (L.length - K.length) 0).toArray hH (by simp; omega) j (by simp; omega)
        rw [Nat.zero_add] at r
        rw [r, getElem!_pos _ j (by simp; omega)]
        simp [List.getD_eq_getElem?_getD, hj, List.getElem_append_left hj]
    · unfold putRow mapBlock
      simp [Array.getElem?_modify]
      intro e; simp [Value.ownBlock] at hn; exact absurd e.symm hn
/-- slices.Sort of a row of the call's own. -/
theorem sortO_any {base : Nat} {w : World} {v : Value} {L : List Int} (hl : L.length ≤ 17592186044000) (h : OwnI base w v L) :
    Calls Try.prog 50 #[v] w fun e w' => e = .returned (.tuple #[]) ∧ Chg v.ownBlock.toList w w' ∧ OwnI base w' v (srt L) := by
  rcases h.2 with ⟨rfl, e⟩ | ⟨g, cap, cur, rfl, hb, _⟩
  · obtain rfl : L = [] := List.length_eq_zero_iff.1 e
    refine (sortI_none none 0 w).mono ?_
    rintro e w' ⟨rfl, rfl⟩
    exact ⟨rfl, Chg.refl _ _, by rw [show srt [] = [] by simp [srt]]; exact h⟩
  · refine (sortI_any (by omega) h).mono ?_
    rintro e w' ⟨rfl, c, o⟩
    exact ⟨rfl, c, o⟩
/-- All but one. -/
def othL (L M : List Int) (x : Int) : List Int := keepX x (Lib.compact (srt (L ++ M)))
set_option maxHeartbeats 4000000 in
set_option maxRecDepth 20000 in
theorem others_any (v1 v2 : Value) (n m : Nat) (f g : Nat → Int) (x : Int) (w : World) (h1 : NRowL w v1 n f) (s1 : Sh v1) (h2 : NRowL w v2 m g) (s2 : Sh v2) (hn : n ≤ 1000) (hm : m ≤ 1000) :
    Calls Try.prog 25 #[.agg #[v1, v2], .int .i64 x] w fun e w' => ∃ v, e = .returned v ∧ OwnI w.heap.size w' v (othL (lsI f n) (lsI g m) x) ∧ Old w w' := by
  have HCo := hid (fun (W : World) (B : Nat) (u : Old w W) (c0 : W.cell? ⟨B, 0, none⟩ = some v1) (c1 : W.cell? ⟨B, 1, none⟩ = some v2) => concat_any B v1 v2 n m f g W (h1.old u) s1 (h2.old u) s2 hn hm c0 c1)
  have HCl := hid (show (lsI f n ++ lsI g m).length ≤ 2000 by simp [lsI_len]; omega)
  obtain ⟨_, p1, c1, rfl, _⟩ := h1
  obtain ⟨_, p2, c2, rfl, _⟩ := h2
  unfold othL
  generalize lsI f n ++ lsI g m = CC at *
  have hmf : ∀ (fn : Fn) (first cap : Array Value) (w : World), (Instr.makeFunc fn first cap).run Try.prog w = .ok (.func fn first cap) w := fun _ _ _ _ => rfl
  clear s1 s2
  go_enter Try.func25, Try.ntmps25
  go_upto_region 2 with (go_at_call 49; refine (HCo.out _ _ ((((Old.refl _).alloc _).alloc _).alloc _) (cell_new2 _ _ _ _ _ (by simp)).1 (cell_new2 _ _ _ _ _ (by simp)).2).mono ?_; rintro e w1 ⟨va, rfl, o1, u1⟩; have O1 := hid o1; have U1 := hid (((((Old.refl w).alloc _).alloc _).alloc _).trans u1); have x0 : w1.cell? ⟨w.heap.size + 1, 0, none⟩ = some (.int .i64 x) := u1.keep (((Old.refl _).alloc _).keep (cell_oneI _ x _ (by simp))); clear o1 u1)
  have HSo := hid (sortO_any (by have := HCl.out; omega) O1.out)
  have HBk := hid (show ∀ k, va.ownBlock = some k → w.heap.size + 1 < k from fun k hk => by
    have := (World.ownsRow.lt O1.out k hk).1
    simp at this
    omega)
  have HV := hid (O1.out.sh)
  have HSl := hid (srt_len CC)
  have HCk := hid (show (srt CC).length ≤ 17592186044000 by rw [HSl.out]; have := HCl.out; omega)
  have HCm := hid (fun W (o : OwnI w.heap.size W va (srt CC)) => compactI_any w.heap.size va (srt CC) W HCk.out o)
  have HCe := hid (show (Lib.compact (srt CC)).length ≤ 17592186044000 from Nat.le_trans (compact_le _) HCk.out)
  generalize hCK : Lib.compact (srt CC) = CK at *
  have HCK := hid hCK
  clear hCK
  have HD := hid (fun W v (o : OwnI w.heap.size W v CK) hx hb => deleteO_any w.heap.size v CK x (w.heap.size + 1) W HCe.out o hx hb)
  have hbz : w.heap.size ≤ (((w.alloc (.cells #[.slice p1 n c1, .slice p2 m c2] 24)).alloc (.cells #[.int .i64 x] 3)).alloc (.cells #[.slice p1 n c1, .slice p2 m c2] 22)).heap.size := by simp; omega
  have HZ := hid hbz
  clear hbz
  obtain ⟨pa, ca, eva⟩ := O1.out.len
  subst eva
  generalize CC.length = cl at *
  have HNo := hid (show ∀ k, k ≤ w.heap.size + 1 → k ∉ (Value.slice pa cl ca).ownBlock.toList from fun k hk hm => by
    have := HBk.out k (by simpa using hm)
    omega)
  go_upto_region 3 with (go_at_call 50; refine HSo.out.mono ?_; rintro e w2 ⟨rfl, k2, o2⟩; have K2 := hid k2; have O2 := hid (o2.mono HZ.out); have x2 := k2.cell x0 (HNo.out _ (Nat.le_refl _)); clear k2 o2)
  clear HSo O1
  go_wp2_with (first | (go_at_call 52; refine (HCm.out _ O2.out).mono ?_; rintro e w3 ⟨v3, rfl, o3, e3, k3⟩; have O3 := hid o3; have E3 := hid e3; have K3 := hid k3; have x3 := k3.cell x2 (HNo.out _ (Nat.le_refl _)); clear o3 e3 k3) | (go_at_call 51; refine (HD.out _ _ O3.out x3 (fun e => HNo.out _ (Nat.le_refl _) (by rw [← E3.out, e]; simp))).mono ?_; rintro e w4 ⟨v4, rfl, o4, k4⟩; have O4 := hid o4; have K4 := hid k4; clear o4 k4))
  go_ret
  have kk := (K2.out.trans K3.out).trans (by rw [← E3.out]; exact K4.out)
  refine ⟨_, rfl, by rw [HCK.out]; exact O4.out, U1.out.below (kk.below _ (fun k hk => ?_) U1.out.size)⟩
  have := HBk.out k (by simpa using hk)
  omega
end Go.Proofs.Ytcicefpcledmgaa
