/- The keys of a map of submissions, in their order, by the library's contracts of maps.Keys and slices.Sorted; conditions: the map lies in memory as it is made. -/
import Derived.Test.YthjfkmjeppdcnaaGreatClQ
import Derived.Shelf.SlIterI.Nil
import Derived.Shelf.SortM.Plain
import Derived.Shelf.SortM.SortNone
import Derived.Ground.GgzProg
import Derived.Ground.SlgmProg
namespace Go.Proofs
open Go.RowKit Go.Maps Go.Sort Go.Shelf
shelf_lay_g SlLaysZI.n7 Ggz 7 at Tryz 27 as YthjfkmjeppdcnaaGreat.keysA
shelf_lay_g SlLaysZI.n6 Ggz 6 at Tryz 26 as YthjfkmjeppdcnaaGreat.sortedA
shelf_lay_g SlLaysM.n5 Slgm 5 at Tryz 44 as YthjfkmjeppdcnaaGreat.sortA
theorem YthjfkmjeppdcnaaGreat.sortsA (m : Nat) : AnyZI.SortsIn Tryz.prog YthjfkmjeppdcnaaGreat.sortedA_ren Fence.wide m :=
 ⟨fun blk off cap ss W hH hblk hsz => callsIn_wide.2 (AnyM.slices_Sort_int YthjfkmjeppdcnaaGreat.sortA blk off cap ss W hH hblk hsz),
  fun p cap W => callsIn_wide.2 (AnyM.slices_Sort_int_none YthjfkmjeppdcnaaGreat.sortA p cap W)⟩
end Go.Proofs
namespace Go.Proofs.YthjfkmjeppdcnaaGreat
open Go.RowKit Go.Lib Go.Maps Go.MapKept Go.Sort Go.Shelf
open Go.WideElems (Fit rd rg pl rd_key rd_val rg_of rd_mk)
set_option linter.unusedVariables false
set_option linter.unusedSimpArgs false
set_option maxRecDepth 20000
def Rn : Value → Option (DataW Unit × List MemPlace) := fun _ => some (.lit (.bool true), [])
theorem MapIs.owns {w : World} {b : Nat} {M : List (Int × Value)} (h : MapIs w b M) (hm : M.length ≤ 1000) : ∃ D : DataW Unit, w.ownsMap Tryz.prog 2 Rn b 1000 D ∧ (intKeys D).Perm (M.map (·.1)) ∧ Maps.size D = M.length := by
 obtain ⟨es, clock, h1, h2, h3, h4⟩ := h
 have hsz : es.size = M.length := by have := congrArg List.length h3; simpa using this
 have hrd : ∀ x ∈ es.toList, ∃ p ∈ M, rd Tryz.prog 2 Rn x = some (.int .i64 p.1, .lit (.bool true)) := fun x hx => by
  obtain ⟨p, hp, e1, e2⟩ := ent_mem h3 hx
  refine ⟨p, hp, ?_⟩
  unfold Go.WideElems.rd
  rw [e1, keyN (h4 p hp)]
  rfl
 refine ⟨.map ((es.toList.map (rg Tryz.prog 2 Rn)).foldr DataW.insert []), ⟨es, clock, h1, ⟨by unfold maxLen; omega, h2, fun x hx => by obtain ⟨p, _, e⟩ := hrd x hx; exact ⟨_, e⟩⟩, by omega, rfl⟩, ?_, ?_⟩
 ·have e : (es.toList.map (rg Tryz.prog 2 Rn)).map (fun p => _root_.Go.intOf p.1) = M.map (·.1) := by
    have e2 : M.map (·.1) = (M.map enM).map (fun q => match q.1 with | .int _ x => x | _ => 0) := by simp [List.map_map, Function.comp_def, enM]
    rw [e2, ← h3, List.map_map, List.map_map]
    refine List.map_congr_left fun x hx => ?_
    obtain ⟨p, hp, e1, e3⟩ := ent_mem h3 hx
    have e4 : rd Tryz.prog 2 Rn x = some (.int .i64 p.1, .lit (.bool true)) := by
     unfold Go.WideElems.rd
     rw [e1, keyN (h4 p hp)]
     rfl
    simp only [Function.comp_def]
    rw [rg_of e4, e1]
    rfl
  rw [← e]
  exact (Go.WideShapes.sorted_perm _).map _
 ·have := (Go.WideShapes.sorted_perm (es.toList.map (rg Tryz.prog 2 Rn))).length_eq
  simp [Maps.size_eq, this, hsz]
def ils (L : List Int) : List Value := L.map fun b => .int .i64 b
def OwnN (base : Nat) (w : World) (v : Value) (L : List Int) : Prop := w.ownsRow base 2 1 v L.length (ils L)
theorem OwnN.up {base : Nat} {w w' : World} {v : Value} {L : List Int} (h : OwnN base w v L) (u : Old w w') : OwnN base w' v L := by
 refine ⟨h.1, ?_⟩
 rcases h.2 with e | ⟨g, cap, cur, e, hb', hg, r⟩
 ·exact .inl e
 ·exact .inr ⟨g, cap, cur, e, hb', u.block hg, r⟩
theorem OwnN.len {base : Nat} {w : World} {v : Value} {L : List Int} (h : OwnN base w v L) : ∃ a c, v = .slice a L.length c := by
 rcases h.2 with ⟨rfl, e⟩ | ⟨g, cap, cur, rfl, _⟩
 ·exact ⟨none, 0, by rw [e]⟩
 ·exact ⟨_, _, rfl⟩
theorem OwnN.mono {base b' : Nat} {w : World} {v : Value} {L : List Int} (h : OwnN base w v L) (hb : b' ≤ base) : OwnN b' w v L := by
 refine ⟨h.1, ?_⟩
 rcases h.2 with e | ⟨g, cap, cur, e, hb', r⟩
 ·exact .inl e
 ·exact .inr ⟨g, cap, cur, e, by omega, r⟩
end Go.Proofs.YthjfkmjeppdcnaaGreat
