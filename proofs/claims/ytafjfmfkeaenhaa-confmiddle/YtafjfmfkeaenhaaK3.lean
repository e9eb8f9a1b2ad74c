/- conf.Middle at every configuration and every function that returns; conditions: the rows lie in memory. -/
import Derived.Test.YtafjfmfkeaenhaaK2
import Derived.Shelf.SortM.Plain
import Derived.Shelf.SortM.SortNone
import Derived.Ground.SlgmProg
namespace Go.Proofs
open Go.RowKit Go.Maps Go.Sort Go.Shelf
shelf_lay_g SlLaysM.n5 Slgm 5 at Try 10 as Ytafjfmfkeaenhaa.sortA
end Go.Proofs
namespace Go.Proofs.Ytafjfmfkeaenhaa
open Go.RowKit Go.Lib Go.Sort Go.Shelf
set_option linter.unusedVariables false
set_option linter.unusedSimpArgs false
set_option maxRecDepth 20000
def srt (L : List Int) : List Int := L.mergeSort fun x y => decide (x ≤ y)
theorem srt_len (L : List Int) : (srt L).length = L.length := List.length_mergeSort L
theorem srt_perm (L : List Int) : (srt L).Perm L := List.mergeSort_perm L _
theorem srt_pw (L : List Int) : (srt L).Pairwise (· ≤ ·) := by
  have q := List.pairwise_mergeSort (le := fun x y : Int => decide (x ≤ y)) (fun a b c h1 h2 => by simp at h1 h2 ⊢; omega) (fun a b => by simp; omega) L
  exact q.imp (fun h => by simpa using h)
theorem getD_bang (L : List Int) (j : Nat) (h : j < L.length) : L.toArray[j]! = L.getD j 0 := by
  rw [getElem!_pos L.toArray j (by simpa using h)]
  simp [List.getD_eq_getElem?_getD, h]
theorem OwnN.holds {base : Nat} {w : World} {g cap : Nat} {L : List Int} (h : OwnN base w (.slice (some ⟨g, 0, none⟩) L.length cap) L) : Holds (Value.int .i64) w g 0 L.toArray ∧ g < w.heap.size ∧ base ≤ g := by
  have h2 := h
  unfold OwnN at h2
  rcases h2.2 with ⟨e, _⟩ | ⟨g', cap', cur, e, hb, hg, hnc, hcm, hcs, htk⟩
  · cases e
  · cases e
    refine ⟨fun j hj => ?_, heap_lt hg, hb⟩
    have hj' : j < L.length := by simpa using hj
    refine ⟨?_, by simp [World.frozen?, hg]⟩
    rw [Nat.zero_add, h2.cellAt j (by omega), getD_bang L j hj']
    simp [ils, List.getD_eq_getElem?_getD, hj']
theorem sortN_any {base : Nat} {w : World} {g cap : Nat} {L : List Int} (hl : L.length ≤ 17592186044416) (h : OwnN base w (.slice (some ⟨g, 0, none⟩) L.length cap) L) :
    Calls Try.prog 10 #[.slice (some ⟨g, 0, none⟩) L.length cap] w fun e w' => e = .returned (.tuple #[]) ∧ Chg [g] w w' ∧ ∀ j, j < L.length → w'.cell? ⟨g, j, none⟩ = some (.int .i64 ((srt L).getD j 0)) := by
  obtain ⟨hH, hlt, _⟩ := h.holds
  refine (AnyM.slices_Sort_int sortA g 0 cap L w hH hlt (by omega)).mono ?_
  rintro e w' ⟨rfl, n, os, rfl⟩
  refine ⟨rfl, ⟨rfl, rfl, rfl, by simp, fun k hk hn => ?_⟩, fun j hj => ?_⟩
  · rw [heap_grow_old _ _ (by simpa using hk)]
    unfold putRow mapBlock
    simp [Array.getElem?_modify]
    intro e; simp at hn; exact absurd e.symm hn
  · rw [cell?_grow _ _ _ (by simpa using hlt)]
    have q := cell?_putRow (Value.int .i64) (Sort.ahead w n) g 0 L.toArray (srt L).toArray hH (by simp [srt_len]) j (by simp [srt_len]; exact hj)
    rw [Nat.zero_add, getD_bang _ _ (by rw [srt_len]; exact hj)] at q
    exact q
/-- The greatest number that more than half have reached. -/
def midL (L : List Int) : Int := (srt L).getD ((L.length - 1) / 2) 0
set_option maxHeartbeats 2000000 in
set_option maxRecDepth 20000 in
theorem middle_any (F : FuncId) (caps : Array Value) (g : Int → Int) (henter : ∀ args w, (callFunc F args).run Try.prog w = .ok (.enter F args) w) (v1 v2 : Value) (n : Nat) (f : Nat → Int) (w : World) (h : NRowL w v1 n f) (p2 : Option Addr) (n2 c2 : Nat) (e2 : v2 = .slice p2 n2 c2)
    (hat : ∀ (W : World), Old w W → ∀ i, i < n → Calls Try.prog F (#[.int .i64 (f i)] ++ caps) W fun e w' => e = .returned (.int .i64 (g (f i))) ∧ Old W w') :
    Calls Try.prog 5 #[.agg #[v1, v2], .func (.func F) #[] caps] w fun e w' => e = .returned (.int .i64 (midL (lsI (fun i => g (f i)) n))) ∧ Old w w' := by
  subst e2
  have HA := hid (fun (W : World) (u : Old w W) => ask_any F caps g henter v1 n f W (h.old u) (fun W' u' => hat W' (u.trans u')))
  have hn := h.1
  have hmm : (n : Int) ≤ 17592186044000 := by omega
  obtain ⟨_, p, c, rfl, _⟩ := h
  clear hat henter
  generalize hL : lsI (fun i => g (f i)) n = L at *
  have hLn : L.length = n := by rw [← hL, lsI_len]
  clear hL
  go_enter Try.func5, Try.ntmps5
  go_upto_region 2 with (go_at_call 9; refine (HA.out _ ((Old.refl _).alloc _)).mono ?_; rintro e w1 ⟨va, rfl, o1, u1⟩; have O1 := hid o1; have U1 := hid (((Old.refl w).alloc _).trans u1); clear o1 u1)
  obtain ⟨pa, ca, eva⟩ := O1.out.len
  subst eva
  rw [hLn] at O1 ⊢
  by_cases hz : n = 0
  · subst hz
    go_wp2
    go_ret
    refine ⟨?_, U1.out⟩
    cases L with
    | nil => simp [midL, srt]
    | cons a r => simp at hLn
  · have z1 : ((n : Int) == 0) = false := by simp; omega
    have hown := O1.out
    obtain ⟨ga, epa⟩ : ∃ ga, pa = some ⟨ga, 0, none⟩ := by
      unfold OwnN at hown
      rcases hown.2 with ⟨e, e3⟩ | ⟨g', cap', cur, e, _⟩
      · omega
      · cases e; exact ⟨g', rfl⟩
    subst epa
    rw [← hLn] at hown
    have HS := hid (sortN_any (by omega) hown)
    have hgb := hown.holds.2.2
    rw [hLn] at HS
    clear hown
    go_upto_region 5 with (go_at_call 10; refine HS.out.mono ?_; rintro e w2 ⟨rfl, c2', k2⟩; have C2 := hid c2'; have K2 := hid k2; clear c2' k2)
    have q0 : ((n : Int) - 1) / 2 = (((n - 1) / 2 : Nat) : Int) := by omega
    have hk := K2.out ((n - 1) / 2) (by omega)
    have l1 : (0 : Int) ≤ (((n - 1) / 2 : Nat) : Int) := by omega
    have l2 : (((n - 1) / 2 : Nat) : Int) < (n : Int) := by omega
    have hm : (srt L).getD ((n - 1) / 2) 0 = midL L := by unfold midL; rw [hLn]
    rw [hm] at hk
    clear hm
    go_wp2
    go_ret
    exact ⟨rfl, U1.out.below (C2.out.below _ (fun k hk => by simp at hk hgb; omega) U1.out.size)⟩
end Go.Proofs.Ytafjfmfkeaenhaa
