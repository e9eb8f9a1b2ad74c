/- disk.Read, Fail, Down, New, Names at every disk; conditions: the disk lies in memory. -/
import Derived.Test.YtfphopleniidfaaGreatDoorDi
import Derived.Shelf.SlIter.Nil
import Derived.Shelf.SortM.Plain
import Derived.Shelf.SortM.SortNone
import Derived.Ground.GgzProg
import Derived.Ground.SlgmProg
namespace Go.Proofs
open Go.RowKit Go.Maps Go.Sort Go.Shelf
shelf_lay_g SlLaysZ.n7 Ggz 7 at Tryz 36 as YtfphopleniidfaaGreatDoor.keysA
shelf_lay_g SlLaysZ.n6 Ggz 6 at Tryz 35 as YtfphopleniidfaaGreatDoor.sortedA
shelf_lay_g SlLaysM.n6 Slgm 6 at Tryz 71 as YtfphopleniidfaaGreatDoor.sortA
/-- slices.Sort's two contracts at this dump. -/
theorem YtfphopleniidfaaGreatDoor.sortsA (m : Nat) : AnyZ.SortsIn Tryz.prog YtfphopleniidfaaGreatDoor.sortedA_ren Fence.wide m :=
  ⟨fun blk off cap ss W hH hblk hsz => callsIn_wide.2 (AnyM.slices_Sort_string YtfphopleniidfaaGreatDoor.sortA blk off cap ss W hH hblk hsz),
   fun p cap W => callsIn_wide.2 (AnyM.slices_Sort_string_none YtfphopleniidfaaGreatDoor.sortA p cap W)⟩
end Go.Proofs
namespace Go.Proofs.YtfphopleniidfaaGreatDoor
open Go.RowKit Go.Lib Go.Maps Go.MapKept Go.Sort Go.Shelf
open Go.WideElems (Fit rd rg pl rd_key rd_val rg_of rd_mk)
set_option linter.unusedVariables false
set_option linter.unusedSimpArgs false
set_option maxRecDepth 20000
def Rn : Value → Option (DataW Unit × List MemPlace) := fun _ => some (.lit (.bool true), [])
/-- A map's block as the library reads it: its keys are ours. -/
theorem MapIs.owns {w : World} {b : Nat} {M : List (ByteArray × Value)} (h : MapIs w b M) (hm : M.length ≤ 1000) : ∃ D : DataW Unit, w.ownsMap Tryz.prog 9 Rn b 1000 D ∧ (strKeys D).Perm (M.map (·.1.data.toList)) ∧ Maps.size D = M.length := by
  obtain ⟨es, clock, h1, h2, h3, h4⟩ := h
  have hsz : es.size = M.length := by have := congrArg List.length h3; simpa using this
  have hrd : ∀ x ∈ es.toList, ∃ p ∈ M, x.key = .string p.1 ∧ rd Tryz.prog 9 Rn x = some (.string p.1.data.toList, .lit (.bool true)) := fun x hx => by
    obtain ⟨p, hp, e1, e2⟩ := ent_mem h3 hx
    refine ⟨p, hp, e1, ?_⟩
    unfold Go.WideElems.rd
    rw [e1, keyN (h4 p hp)]
    rfl
  refine ⟨.map ((es.toList.map (rg Tryz.prog 9 Rn)).foldr DataW.insert []), ⟨es, clock, h1, ⟨by unfold maxLen; omega, h2, fun x hx => by obtain ⟨p, _, _, e⟩ := hrd x hx; exact ⟨_, e⟩⟩, by omega, rfl⟩, ?_, ?_⟩
  · have e : (es.toList.map (rg Tryz.prog 9 Rn)).map (fun p => strOf p.1) = M.map (·.1.data.toList) := by
      have e2 : M.map (·.1.data.toList) = (M.map enM).map (fun q => match q.1 with | .string x => x.data.toList | _ => []) := by simp [List.map_map, Function.comp_def, enM]
      rw [e2, ← h3, List.map_map, List.map_map]
      refine List.map_congr_left fun x hx => ?_
      obtain ⟨p, hp, e1, e4⟩ := hrd x hx
      simp only [Function.comp_def]
      rw [rg_of e4, e1]
      rfl
    rw [← e]
    have q := (Go.WideShapes.sorted_perm (es.toList.map (rg Tryz.prog 9 Rn))).map (fun p => strOf p.1)
    have z : strKeys (.map ((es.toList.map (rg Tryz.prog 9 Rn)).foldr DataW.insert [])) = ((es.toList.map (rg Tryz.prog 9 Rn)).foldr DataW.insert []).map (fun p => strOf p.1) := rfl
    rw [z]
    exact q
  · have := (Go.WideShapes.sorted_perm (es.toList.map (rg Tryz.prog 9 Rn))).length_eq
    simp [Maps.size_eq, this, hsz]
def sv (L : List ByteArray) : List Value := L.map Value.string
/-- A row of names of the call's own. -/
def OwnS (base : Nat) (w : World) (v : Value) (L : List ByteArray) : Prop := w.ownsRow base 9 1 v L.length (sv L)
theorem OwnS.old {base : Nat} {w w' : World} {v : Value} {L : List ByteArray} (h : OwnS base w v L) (u : Old w w') : OwnS base w' v L := by
  refine ⟨h.1, ?_⟩
  rcases h.2 with e | ⟨g, cap, cur, e, hb', hg, r⟩
  · exact .inl e
  · exact .inr ⟨g, cap, cur, e, hb', u.block hg, r⟩
theorem OwnS.len {base : Nat} {w : World} {v : Value} {L : List ByteArray} (h : OwnS base w v L) : ∃ a c, v = .slice a L.length c := by
  rcases h.2 with ⟨rfl, e⟩ | ⟨g, cap, cur, rfl, _⟩
  · exact ⟨none, 0, by rw [e]⟩
  · exact ⟨_, _, rfl⟩
theorem OwnS.cell {base : Nat} {w : World} {v : Value} {L : List ByteArray} (h : OwnS base w v L) (h0 : 0 < L.length) : ∃ g c, v = .slice (some ⟨g, 0, none⟩) L.length c ∧ base ≤ g ∧ g < w.heap.size ∧ ∀ i, i < L.length → w.cell? ⟨g, i, none⟩ = some (.string (L.getD i ByteArray.empty)) := by
  have h2 := h
  unfold OwnS at h2
  rcases h2.2 with ⟨_, e⟩ | ⟨g, cap, cur, rfl, hb, hg, hnc, hcm, hcs, htk⟩
  · omega
  · refine ⟨g, cap, rfl, hb, heap_lt hg, fun i hi => ?_⟩
    rw [h2.cellAt i (by omega)]
    simp [sv, List.getD_eq_getElem?_getD, hi]
/-- Names in their order, byte by byte. -/
def leN (a b : ByteArray) : Prop := a.data.toList ≤ b.data.toList
set_option maxHeartbeats 2000000 in
set_option maxRecDepth 20000 in
theorem names_any (d : Dk) (w : World) (h : DkAt w d) :
    Calls Tryz.prog 13 #[.pointer (some ⟨d.db, 0, none⟩)] w fun e w' => ∃ v S, e = .returned v ∧ S.Perm (d.M.map (·.1)) ∧ S.Pairwise leN ∧ OwnS w.heap.size w' v S ∧ Old w w' := by
  have hfew := h.few
  obtain ⟨D, hown, hperm, hsize⟩ := h.map.owns (by rw [List.length_map]; omega)
  rw [List.length_map] at hsize
  rw [List.map_map] at hperm
  have HP := hid (show (strKeys D).Perm (d.M.map (·.1.data.toList)) from hperm)
  have hmb := h.map.lt
  obtain ⟨⟨c0, c1, c2⟩, _⟩ := h.cells
  generalize d.mb = mb at *
  refine (callsIn_wide (n := 6)).1 ?_
  have hbl := hown.lt
  have hseq : SeqGives Fence.wide 2 Tryz.prog 72 #[.pointer (some ⟨w.heap.size, 0, none⟩)] Go.Proofs.encStr (fun ss => ss.Perm (strKeys D)) (Maps.size D) (w.alloc (.cells #[.map (some mb)] 56)) :=
    AnyZ.keys_gives (ρ := keysA_ren) { keysA with } Fence.wide _ trivial rfl (by omega) w.heap.size mb 1000 D _ (by simp) (by simp) (by
      obtain ⟨es, clock, hb, Ft, hs, hD⟩ := hown
      exact ⟨es, clock, (Below.heap_alloc _ _ mb hbl).trans hb, Ft, hs, hD⟩)
  have cK : ∀ mb W, CallsIn Fence.wide 5 Tryz.prog 36 #[.map mb] W fun e w' => e = .returned (.func (.func 72) #[] #[.pointer (some ⟨W.heap.size, 0, none⟩)]) ∧ w' = W.alloc (.cells #[.map mb] 56) := fun mb W => AnyZ.keys_in keysA Fence.wide 5 trivial rfl mb W
  have cS := AnyZ.sorted_in sortedA Fence.wide 5 trivial trivial trivial trivial rfl (by omega) (sortsA _) (enters_of Tryz.func71 (by kernel_rfl) rfl) 72 #[.pointer (some ⟨w.heap.size, 0, none⟩)] trivial (enters_of Tryz.func72 (by kernel_rfl) rfl) _ _ (by rw [hsize]; unfold maxLen; omega) (by rw [hsize]; omega) _ hseq
  change CallsIn _ _ Tryz.prog 35 _ _ _ at cS
  have hfK : Fence.wide.fn 36 := trivial
  have hfS : Fence.wide.fn 35 := trivial
  clear hperm hsize hown hfew h hseq
  refine callsIn_of_wp Tryz.func13 rfl trivial ?_ rfl
  simp only [Tryz.ntmps13, List.size_toArray, List.length_cons, List.length_nil, Nat.reduceAdd, Nat.reduceSub, Array.replicate_succ, Array.replicate_zero, List.push_toArray, List.append_toArray, List.nil_append, List.cons_append]
  gi_wp2_with (first
    | (gi_at_call 36; refine (cK _ _).mono ?_; rintro e w' ⟨rfl, rfl⟩)
    | (gi_at_call 35; refine cS.mono ?_; rintro e w' ⟨v, ss, rfl, hS, hrow, hnil, hb⟩))
  go_ret
  refine ⟨v, (ss.mergeSort (fun x y => decide (x ≤ y))).map (fun l => (⟨l.toArray⟩ : ByteArray)), rfl, ?_, ?_, ?_, ((Below.refl _ w).alloc (Nat.le_refl _) _).trans (hb.mono (by simp))⟩
  · have q := (((List.mergeSort_perm ss (fun x y => decide (x ≤ y))).trans hS).trans HP.out).map (fun l => (⟨l.toArray⟩ : ByteArray))
    rw [List.map_map] at q
    have e : d.M.map ((fun l => (⟨l.toArray⟩ : ByteArray)) ∘ (fun p : ByteArray × Fl => p.1.data.toList)) = d.M.map (·.1) := List.map_congr_left fun p _ => by simp
    rw [e] at q
    exact q
  · have q := List.pairwise_mergeSort (le := fun x y : List UInt8 => decide (x ≤ y)) (fun a b c h1 h2 => by simp only [decide_eq_true_eq] at h1 h2 ⊢; exact List.le_trans h1 h2) (fun a b => by simp only [Bool.or_eq_true, decide_eq_true_eq]; exact List.le_total a b) ss
    rw [List.pairwise_map]
    exact q.imp (fun h => by unfold leN; simpa using h)
  · have q := ownsRow_base_a hrow (show w.heap.size ≤ (w.alloc (.cells #[.map (some mb)] 56)).heap.size by simp)
    unfold OwnS
    rw [List.length_map, List.length_mergeSort]
    have e : sv ((ss.mergeSort (fun x y => decide (x ≤ y))).map (fun l => (⟨l.toArray⟩ : ByteArray))) = (ss.mergeSort (fun x y => decide (x ≤ y))).map Go.Proofs.encStr := by
      unfold sv
      rw [List.map_map]
      rfl
    rw [e]
    exact q
def readC (p : PD) (s : ByteArray) : Int := if faultC p.down [s] = 0 then (match getP p.fs s with | some _ => 0 | none => 4) else faultC p.down [s]
def pd0 : PD := ⟨[], false, 0⟩
def readL (p : PD) (s : ByteArray) : List Nat := if readC p s = 0 then (fileAt p s).now else []
set_option maxHeartbeats 2000000 in
set_option maxRecDepth 20000 in
theorem dread_any (d : Dk) (s : ByteArray) (w : World) (h : DkAt w d) :
    Calls Tryz.prog 16 #[.pointer (some ⟨d.db, 0, none⟩), .string s] w fun e w' => ∃ v', e = .returned (.tuple #[v', .int .i64 (readC d.p s)]) ∧ Own w' v' (readL d.p s) ∧ Old w w' ∧ ∀ g, v'.ownBlock = some g → w.heap.size ≤ g := by
  have h1 := h.old ((Old.refl w).alloc (.cells #[.string s] 9))
  have HFa := hid (fault_any d (.slice (some ⟨w.heap.size, 0, none⟩) 1 1) [s] (w.alloc (.cells #[.string s] 9)) h1 (SRow.one w s _ rfl))
  have HU0 := hid (show Old w (w.alloc (.cells #[.string s] 9)) from (Old.refl w).alloc _)
  have HD := hid h1
  have hd : d.p.down = d.down := rfl
  clear h h1
  by_cases hz : faultC d.down [s] = 0
  · have hsz : SZ s := by
      have := (fault_zero hz).2 s (by simp)
      unfold SZ maxLen; omega
    have HFi := hid (fun (W : World) (k : DkAt W d) => find_any d s W k hsz)
    rw [hz] at HFa
    cases hg : getF d.M s with
    | none =>
      have e1 : readC d.p s = 4 := by unfold readC; rw [hd, if_pos hz, show d.p.fs = d.M.map pf from rfl, getP_of, hg]; rfl
      have e2 : readL d.p s = [] := by unfold readL; rw [e1]; rfl
      rw [e1, e2]
      rw [hg] at HFi
      simp only [fPtr, fC] at HFi
      clear e1 e2 hz hg hd
      go_enter Tryz.func16, Tryz.ntmps16
      go_wp2_with (first | (go_at_call 37; refine HFa.out.mono ?_; rintro e w1 ⟨rfl, u1⟩; have U1 := hid u1; clear u1) | (go_at_call 38; refine (HFi.out _ (HD.out.old U1.out)).mono ?_; rintro e w2 ⟨rfl, hw⟩; have hw2 := hw.symm; subst hw2))
      go_ret2
      exact ⟨_, rfl, Own.nil _, HU0.out.trans U1.out, fun g e => by cases e⟩
    | some f =>
      have e1 : readC d.p s = 0 := by unfold readC; rw [hd, if_pos hz, show d.p.fs = d.M.map pf from rfl, getP_of, hg]; rfl
      have e2 : readL d.p s = f.now := by unfold readL; rw [e1, if_pos rfl, file_at hg]; rfl
      rw [e1, e2]
      rw [hg] at HFi
      simp only [fPtr, fC] at HFi
      have HFl := hid (fun (W : World) (k : DkAt W d) => (k.files _ (getF_mem hg)).cells.1)
      have HCl := hid (fun (W : World) (k : DkAt W d) => cloneS_ok f.vn f.now W (k.files _ (getF_mem hg)).now.row (by have := (k.files _ (getF_mem hg)).ln; show f.now.length ≤ _; simp only at this; omega))
      obtain ⟨va, vc, ev⟩ := (HD.out.files _ (getF_mem hg)).now.len
      simp only at ev
      simp only at HFl
      rw [ev] at HFl HCl
      clear e1 e2 hz hg hd ev
      generalize f.fb = fb at *
      generalize hnw : f.now.length = nn at *
      clear hnw
      generalize f.now = fn at *
      go_enter Tryz.func16, Tryz.ntmps16
      go_wp2_with (first | (go_at_call 37; refine HFa.out.mono ?_; rintro e w1 ⟨rfl, u1⟩; have U1 := hid u1; have cf := HFl.out w1 (HD.out.old u1); clear u1) | (go_at_call 38; refine (HFi.out _ (HD.out.old U1.out)).mono ?_; rintro e w2 ⟨rfl, hw⟩; have hw2 := hw.symm; subst hw2) | (go_at_call 39; refine (HCl.out _ (HD.out.old U1.out)).mono ?_; rintro e w3 ⟨v', rfl, o3, u3, g3⟩; have O3 := hid o3; have U3 := hid u3; have G3 := hid g3; clear o3 u3 g3))
      go_ret2
      exact ⟨_, rfl, O3.out, (HU0.out.trans U1.out).trans U3.out, fun g e => Nat.le_trans (HU0.out.trans U1.out).size (G3.out g e).1⟩
  · have e1 : readC d.p s = faultC d.down [s] := by unfold readC; rw [hd, if_neg hz]
    have e2 : readL d.p s = [] := by unfold readL; rw [e1, if_neg hz]
    rw [e1, e2]
    have k1 : (faultC d.down [s] != 0) = true := by rw [bne_iff_ne]; exact hz
    have k2 : (faultC d.down [s] == 0) = false := by rw [beq_eq_false_iff_ne]; exact hz
    clear e1 e2 hd
    generalize faultC d.down [s] = fc at *
    go_enter Tryz.func16, Tryz.ntmps16
    go_wp2_with (go_at_call 37; refine HFa.out.mono ?_; rintro e w1 ⟨rfl, u1⟩; have U1 := hid u1; clear u1)
    go_ret2
    exact ⟨_, rfl, Own.nil _, HU0.out.trans U1.out, fun g e => by cases e⟩
set_option maxHeartbeats 400000 in
set_option maxRecDepth 20000 in
theorem dfail_any (d : Dk) (n : Int) (w : World) (h : DkAt w d) (hn : n ≤ 9223372036854775807) :
    Calls Tryz.prog 10 #[.pointer (some ⟨d.db, 0, none⟩), .int .i64 n] w fun e w' => e = .returned (.tuple #[]) ∧ Res w d { d.p with fail := max 0 n } w' := by
  obtain ⟨⟨c0, c1, c2⟩, hfz⟩ := h.cells
  have f2 := hfz 2
  obtain ⟨m, hm⟩ : ∃ m, m = max 0 n := ⟨_, rfl⟩
  obtain ⟨r1, r2⟩ := h.cell d.down m ⟨by omega, by omega⟩ (Chg.set w ⟨d.db, 2, none⟩ (.int .i64 m) (by simp)) (by rw [Go.Joins.block_setCell h.disk]; rfl)
  have HR := hid (show Res w d { d.p with fail := m } (w.setCell ⟨d.db, 2, none⟩ (.int .i64 m)) from ⟨_, r1, rfl, r2⟩)
  have hmx : max (0 : Int) n = m := hm.symm
  rw [hmx]
  clear r1 r2 h hfz hm
  generalize d.db = db at *
  go_enter Tryz.func10, Tryz.ntmps10
  go_wp2
  exact bodyPost_end (v := .tuple #[]) (by simp [results, Tryz.results10, go_sem]) rfl ⟨rfl, HR.out⟩
set_option maxHeartbeats 1000000 in
set_option maxRecDepth 20000 in
theorem dnew_any (w : World) : Calls Tryz.prog 4 #[] w fun e w' => ∃ d, e = .returned (.pointer (some ⟨d.db, 0, none⟩)) ∧ DkAt w' d ∧ d.p = pd0 ∧ Old w w' ∧ ∀ b, d.inB b → w.heap.size ≤ b := by
  have hmm := @run_makeMap Tryz.prog
  go_enter Tryz.func4, Tryz.ntmps4
  go_wp2
  go_ret
  refine ⟨⟨w.heap.size + 1, w.heap.size, [], false, 0⟩, rfl, ⟨?_, ⟨#[], 0, ((Old.refl _).alloc _).block (alloc_at w _), ⟨by simp, by simp, by simp⟩, rfl, (fun p hp => by cases hp)⟩, (fun p hp => by cases hp), by simp, (fun p hp => by cases hp), (fun p hp => by cases hp), ⟨by simp, by simp⟩, by simp⟩, rfl, ((Old.refl w).alloc _).alloc _, fun b hb => ?_⟩
  · have := alloc_at (w.alloc (.map #[] 0)) (.cells #[.map (some w.heap.size), .bool false, .int .i64 0] 58)
    simpa using this
  · rcases hb with e | e | ⟨p, hp, _⟩
    · simp at e; omega
    · simp at e; omega
    · cases hp
end Go.Proofs.YtfphopleniidfaaGreatDoor
