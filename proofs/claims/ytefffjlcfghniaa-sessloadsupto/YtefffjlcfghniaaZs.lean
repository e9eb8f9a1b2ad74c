/- sess.Sessions at every table, by the library's contracts of maps.Keys and slices.Sorted; conditions: the table lies in memory as it is made. -/
import Derived.Test.YtefffjlcfghniaaZq
import Derived.Shelf.SlIterI.Nil
import Derived.Shelf.SortM.Plain
import Derived.Shelf.SortM.SortNone
import Derived.Ground.GgzProg
import Derived.Ground.SlgmProg
namespace Go.Proofs
open Go.RowKit Go.Maps Go.Sort Go.Shelf
shelf_lay_g SlLaysZI.n7 Ggz 7 at Try 44 as Ytefffjlcfghniaa.keysA
shelf_lay_g SlLaysZI.n6 Ggz 6 at Try 43 as Ytefffjlcfghniaa.sortedA
shelf_lay_g SlLaysM.n5 Slgm 5 at Try 59 as Ytefffjlcfghniaa.sortA
/-- slices.Sort's two contracts at this dump. -/
theorem Ytefffjlcfghniaa.sortsA (m : Nat) : AnyZI.SortsIn Try.prog Ytefffjlcfghniaa.sortedA_ren Fence.wide m :=
  ⟨fun blk off cap ss W hH hblk hsz => callsIn_wide.2 (AnyM.slices_Sort_int Ytefffjlcfghniaa.sortA blk off cap ss W hH hblk hsz),
   fun p cap W => callsIn_wide.2 (AnyM.slices_Sort_int_none Ytefffjlcfghniaa.sortA p cap W)⟩
end Go.Proofs
namespace Go.Proofs.Ytefffjlcfghniaa
open Go.RowKit Go.Lib Go.Maps Go.MapKept Go.Sort Go.Shelf
open Go.WideElems (Fit rd rg pl rd_key rd_val rg_of rd_mk)
set_option linter.unusedVariables false
set_option linter.unusedSimpArgs false
set_option maxRecDepth 20000
def Rn : Value → Option (DataW Unit × List MemPlace) := fun _ => some (.lit (.bool true), [])
/-- A map's block as the library reads it: its keys are ours. -/
theorem MapIs.owns {w : World} {b : Nat} {M : List (Int × Value)} (h : MapIs w b M) (hm : M.length ≤ 1000) : ∃ D : DataW Unit, w.ownsMap Try.prog 2 Rn b 1000 D ∧ (intKeys D).Perm (M.map (·.1)) ∧ Maps.size D = M.length := by
  obtain ⟨es, clock, h1, h2, h3, h4⟩ := h
  have hsz : es.size = M.length := by have := congrArg List.length h3; simpa using this
  have hrd : ∀ x ∈ es.toList, ∃ p ∈ M, rd Try.prog 2 Rn x = some (.int .i64 p.1, .lit (.bool true)) := fun x hx => by
    obtain ⟨p, hp, e1, e2⟩ := ent_mem h3 hx
    refine ⟨p, hp, ?_⟩
    unfold Go.WideElems.rd
    rw [e1, keyN (h4 p hp)]
    rfl
  refine ⟨.map ((es.toList.map (rg Try.prog 2 Rn)).foldr DataW.insert []), ⟨es, clock, h1, ⟨by unfold maxLen; omega, h2, fun x hx => by obtain ⟨p, _, e⟩ := hrd x hx; exact ⟨_, e⟩⟩, by omega, rfl⟩, ?_, ?_⟩
  · have e : (es.toList.map (rg Try.prog 2 Rn)).map (fun p => _root_.Go.intOf p.1) = M.map (·.1) := by
      have e2 : M.map (·.1) = (M.map enM).map (fun q => match q.1 with | .int _ x => x | _ => 0) := by simp [List.map_map, Function.comp_def, enM]
      rw [e2, ← h3, List.map_map, List.map_map]
      refine List.map_congr_left fun x hx => ?_
      obtain ⟨p, hp, e1, e3⟩ := ent_mem h3 hx
      have e4 : rd Try.prog 2 Rn x = some (.int .i64 p.1, .lit (.bool true)) := by
        unfold Go.WideElems.rd
        rw [e1, keyN (h4 p hp)]
        rfl
      simp only [Function.comp_def]
      rw [rg_of e4, e1]
      rfl
    rw [← e]
    exact (Go.WideShapes.sorted_perm _).map _
  · have := (Go.WideShapes.sorted_perm (es.toList.map (rg Try.prog 2 Rn))).length_eq
    simp [Maps.size_eq, this, hsz]
def ils (L : List Int) : List Value := L.map fun b => .int .i64 b
def OwnN (base : Nat) (w : World) (v : Value) (L : List Int) : Prop := w.ownsRow base 2 1 v L.length (ils L)
theorem OwnN.up {base : Nat} {w w' : World} {v : Value} {L : List Int} (h : OwnN base w v L) (u : Old w w') : OwnN base w' v L := by
  refine ⟨h.1, ?_⟩
  rcases h.2 with e | ⟨g, cap, cur, e, hb', hg, r⟩
  · exact .inl e
  · exact .inr ⟨g, cap, cur, e, hb', u.block hg, r⟩
theorem OwnN.len {base : Nat} {w : World} {v : Value} {L : List Int} (h : OwnN base w v L) : ∃ a c, v = .slice a L.length c := by
  rcases h.2 with ⟨rfl, e⟩ | ⟨g, cap, cur, rfl, _⟩
  · exact ⟨none, 0, by rw [e]⟩
  · exact ⟨_, _, rfl⟩
theorem OwnN.mono {base b' : Nat} {w : World} {v : Value} {L : List Int} (h : OwnN base w v L) (hb : b' ≤ base) : OwnN b' w v L := by
  refine ⟨h.1, ?_⟩
  rcases h.2 with e | ⟨g, cap, cur, e, hb', r⟩
  · exact .inl e
  · exact .inr ⟨g, cap, cur, e, by omega, r⟩
set_option maxHeartbeats 2000000 in
set_option maxRecDepth 20000 in
theorem sessions_any (tb : Nat) (Bs : List Nat) (ks : List Int) (L : Int → List It) (w : World) (h : TabIs w tb Bs ks L) (hok : TOk ks L) :
    Calls Try.prog 23 #[.pointer (some ⟨tb, 0, none⟩)] w fun e w' => ∃ v S, e = .returned v ∧ S.Perm ks ∧ S.Pairwise (· ≤ ·) ∧ OwnN w.heap.size w' v S ∧ Old w w' := by
  obtain ⟨mb, M, h1, h2, h3, h4, h5, h6, h7, h8, h9⟩ := h
  have hml : M.length = ks.length := by rw [← h6]; simp
  have hm16 := hok.many
  obtain ⟨D, hown, hperm, hsize⟩ := h5.owns (by omega)
  rw [h6] at hperm
  refine (callsIn_wide (n := 6)).1 ?_
  have hbl := hown.lt
  have hseq : SeqGives Fence.wide 2 Try.prog 60 #[.pointer (some ⟨w.heap.size, 0, none⟩)] encZ (fun ss => ss.Perm (intKeys D)) (Maps.size D) (w.alloc (.cells #[.map (some mb)] 58)) :=
    AnyZI.keys_gives (ρ := keysA_ren) { keysA with } Fence.wide _ trivial rfl (by omega) w.heap.size mb 1000 D _ (by simp) (by simp) (by
      obtain ⟨es, clock, hb, Ft, hs, hD⟩ := hown
      exact ⟨es, clock, (Below.heap_alloc _ _ mb hbl).trans hb, Ft, hs, hD⟩)
  have cK : ∀ mb W, CallsIn Fence.wide 5 Try.prog 44 #[.map mb] W fun e w' => e = .returned (.func (.func 60) #[] #[.pointer (some ⟨W.heap.size, 0, none⟩)]) ∧ w' = W.alloc (.cells #[.map mb] 58) := fun mb W => AnyZI.keys_in keysA Fence.wide 5 trivial rfl mb W
  have cS := AnyZI.sorted_in sortedA Fence.wide 5 trivial trivial trivial trivial rfl (by omega) (sortsA _) (enters_of Try.func59 (by kernel_rfl) rfl) 60 #[.pointer (some ⟨w.heap.size, 0, none⟩)] trivial (enters_of Try.func60 (by kernel_rfl) rfl) _ _ (by rw [hsize]; unfold maxLen; omega) (by rw [hsize]; omega) _ hseq
  change CallsIn _ _ Try.prog 43 _ _ _ at cS
  have hfK : Fence.wide.fn 44 := trivial
  have hfS : Fence.wide.fn 43 := trivial
  have HP := hid hperm
  have t0 := h4
  clear hperm hsize hown hml hm16 hok h5 h6 h7 h8 h9 hseq
  refine callsIn_of_wp Try.func23 rfl trivial ?_ rfl
  simp only [Try.ntmps23, List.size_toArray, List.length_cons, List.length_nil, Nat.reduceAdd, Nat.reduceSub, Array.replicate_succ, Array.replicate_zero, List.push_toArray, List.append_toArray, List.nil_append, List.cons_append]
  gi_wp2_with (first
    | (gi_at_call 44; refine (cK _ _).mono ?_; rintro e w' ⟨rfl, rfl⟩)
    | (gi_at_call 43; refine cS.mono ?_; rintro e w' ⟨v, ss, rfl, hS, hrow, hnil, hb⟩))
  go_ret
  refine ⟨v, ss.mergeSort (fun x y => decide (x ≤ y)), rfl, ((List.mergeSort_perm ss _).trans hS).trans HP.out, ?_, ?_, ((Below.refl _ w).alloc (Nat.le_refl _) _).trans (hb.mono (by simp))⟩
  · have q := List.pairwise_mergeSort (le := fun x y : Int => decide (x ≤ y)) (fun a b c h1 h2 => by simp at h1 h2 ⊢; omega) (fun a b => by simp; omega) ss
    exact q.imp (fun h => by simpa using h)
  · have q := ownsRow_base_a hrow (show w.heap.size ≤ (w.alloc (.cells #[.map (some mb)] 58)).heap.size by simp)
    unfold OwnN
    rw [List.length_mergeSort]
    exact q
end Go.Proofs.Ytefffjlcfghniaa
