/- The library's sort of spans with span.Cmp, by its contract, laid at this dump; no condition. -/
import Derived.Test.YtbkbnfgjkefcmaaGreatNq
import Derived.Test.YtbkbnfgjkefcmaaGreatCmv
import Derived.Shelf.SlSortCmp.NoneTotal
import Derived.Shelf.Lay
import Derived.Ground.SlsfProg
import Derived.Lib.RowBridge
import Derived.Lib.SortBridge
import Derived.Sort.Grow
namespace Go.Proofs
open Go.Shelf
shelf_lay_g SlLaysF0.n6 Slsf 6 at Tryz 116 as YtbkbnfgjkefcmaaGreat.sortLaid
end Go.Proofs
namespace Go.Proofs.YtbkbnfgjkefcmaaGreat
open Go.Shelf Go.RowKit Go.Lib Go.Sort
set_option linter.unusedVariables false
theorem Up.grows {w w' : World} (u : Up w w') : ∃ q os, w' = grow (w.drewN q) os := by
  refine ⟨w'.drawn - w.drawn, w'.heap.extract w.heap.size w'.heap.size, ?_⟩
  have hs := u.size
  have hd := u.drawn
  have hh : w'.heap = w.heap ++ w'.heap.extract w.heap.size w'.heap.size := by
    apply Array.ext_getElem?
    intro i
    by_cases hi : i < w.heap.size
    · rw [Array.getElem?_append_left hi]; exact u.block i hi
    · rw [Array.getElem?_append_right (by omega), Array.getElem?_extract]
      by_cases hj : i < w'.heap.size
      · rw [if_pos (by omega)]; congr 1; omega
      · rw [if_neg (by omega)]; exact Array.getElem?_eq_none (by omega)
  have h1 := u.os; have h2 := u.tape; have h3 := u.output
  cases w; cases w'
  simp only [grow, World.drewN] at *
  subst h1 h2 h3
  rw [← hh]
  congr 1
  omega
/-- A range of keys' codes. -/
def RF : Type := { r : Nat × Nat // Fl.RV r }
instance : Inhabited RF := ⟨⟨(9223372036854775808, 9223372036854775808), by unfold Fl.RV Fl.V; omega⟩⟩
def encR (x : RF) : List Value := spc (Fl.spo x.1)
def cfR (x y : RF) : Int := Fl.fc (Fl.of x.1.1) (Fl.of x.1.2) false (Fl.of y.1.1) (Fl.of y.1.2) false
theorem ltR (x y : RF) : ltOf cfR x y = decide (x.1.1 < y.1.1 ∨ x.1.1 = y.1.1 ∧ x.1.2 < y.1.2) := by
  have a := (Fl.of_V x.2.1).2.1
  have b := (Fl.of_V x.2.2.1).2.1
  have c := (Fl.of_V y.2.1).2.1
  have d := (Fl.of_V y.2.2.1).2.1
  unfold ltOf cfR
  have e0 : Fl.fc (Fl.of x.1.1) (Fl.of x.1.2) false (Fl.of y.1.1) (Fl.of y.1.2) false = if x.1.1 < y.1.1 then -1 else if y.1.1 < x.1.1 then 1 else if x.1.2 < y.1.2 then -1 else if y.1.2 < x.1.2 then 1 else 0 := by
    unfold Fl.fc; rw [a, b, c, d]; rfl
  rw [e0, decide_eq_decide]
  (repeat' split) <;> omega
theorem swoR : SWO (ltOf cfR) where
  irrefl x := by rw [ltR]; simp
  trans x y z h1 h2 := by rw [ltR] at *; simp at *; omega
  ntrans x y z h1 h2 := by rw [ltR] at *; simp at *; omega
theorem totR (x y : RF) (h1 : ltOf cfR x y = false) (h2 : ltOf cfR y x = false) : x = y := by
  rw [ltR] at *; simp at *
  exact Subtype.ext (Prod.ext (by omega) (by omega))
theorem enter_scmp : ∀ args w, (callFunc 117 args).run Tryz.prog w = .ok (.enter 117 args) w := enters_of Tryz.func117 (by kernel_rfl) rfl
theorem cmpLaysR (blk off size : Nat) (w : World) : CmpLays Tryz.prog 117 #[] encR 4 cfR blk off size w := fun _ _ _ _ x y =>
  (cmp_at (Fl.spo_form x.2) (Fl.spo_form y.2) _ _ _ _ _ _ _ _ (fun w => canon_form _ _ _ (Fl.spo_form x.2) w) (fun w => canon_form _ _ _ (Fl.spo_form y.2) w) _).mono fun e w' h => ⟨h.1, h.2.grows⟩
theorem isAggS (w : World) : (isAgg 67).run Tryz.prog w = .ok true w := by kernel_rfl
theorem sizeS (w : World) : (Go.sizeOf 67).run Tryz.prog w = .ok 4 w := by kernel_rfl
/-- slices.SortFunc with span.Cmp: a row of forms, in order. -/
theorem sort_spans (blk off cap : Nat) (d : Array RF) (w : World) (hH : HoldsK encR 4 w blk off d) (hblk : blk < w.heap.size) (hsz : d.size < 4611686018427387904) :
    Calls Tryz.prog 116 #[.slice (some ⟨blk, off, none⟩) d.size cap, .func (.func 117) #[] #[]] w fun e w' => e = .returned (.tuple #[]) ∧ ∃ n os, w' = sortWorldK encR 4 w blk off n (d.toList.mergeSort fun x y => !(ltOf cfR) y x).toArray os := by
  have hS := AnyQ.slices_SortFunc_total sortLaid 4 isAggS sizeS encR (fun _ => rfl) (fun x v hv => by simp [encR, spc] at hv; rcases hv with rfl | rfl | rfl | rfl <;> rfl) cfR swoR 117 #[] blk off cap d w enter_scmp (cmpLaysR blk off d.size w) hH hblk hsz totR
  exact hS
theorem sort_none (p : Option Addr) (c : Nat) (fv : Value) (w : World) : Calls Tryz.prog 116 #[.slice p 0 c, fv] w fun e w' => e = .returned (.tuple #[]) ∧ w' = w :=
  AnyF.slices_SortFunc_none (P := Tryz.prog) (ρ := sortLaid_ren) sortLaid p c fv w
theorem sortWorldK_old {w : World} {g m : Nat} {d : Array RF} {os : Array Obj} : (sortWorldK encR 4 w g 0 m d os).os = w.os ∧ (sortWorldK encR 4 w g 0 m d os).tape = w.tape ∧ (sortWorldK encR 4 w g 0 m d os).output = w.output ∧ w.heap.size ≤ (sortWorldK encR 4 w g 0 m d os).heap.size ∧ ∀ k, k < w.heap.size → k ≠ g → (sortWorldK encR 4 w g 0 m d os).heap[k]? = w.heap[k]? := by
  refine ⟨rfl, rfl, rfl, ?_, fun k hk hne => ?_⟩
  · unfold sortWorldK putRowK; simp
  · unfold sortWorldK putRowK
    rw [heap_grow_old _ _ (by simpa using hk)]
    unfold putRow mapBlock
    simp [Array.getElem?_modify]
    intro e; exact absurd e.symm hne
/-- The ranges of a row, as the sort has them. -/
def rfs (L : List (Nat × Nat)) (h : ∀ r ∈ L, Fl.RV r) : List RF := L.attachWith Fl.RV h
theorem rfs_len (L : List (Nat × Nat)) (h : ∀ r ∈ L, Fl.RV r) : (rfs L h).length = L.length := by unfold rfs; exact List.length_attachWith ..
theorem rfs_val (L : List (Nat × Nat)) (h : ∀ r ∈ L, Fl.RV r) : (rfs L h).map (·.1) = L := by
  have e := List.attachWith_map_val (f := fun x : Nat × Nat => x) h
  unfold rfs
  exact e.trans (List.map_id' L)
/-- .. sorted. -/
def srt (L : List (Nat × Nat)) (h : ∀ r ∈ L, Fl.RV r) : List (Nat × Nat) := ((rfs L h).mergeSort fun x y => !(ltOf cfR) y x).map (·.1)
theorem srt_mem (L : List (Nat × Nat)) (h : ∀ r ∈ L, Fl.RV r) (r : Nat × Nat) : r ∈ srt L h ↔ r ∈ L := by
  unfold srt
  rw [List.mem_map]
  constructor
  · rintro ⟨x, hx, rfl⟩
    have := List.mem_mergeSort.1 hx
    rw [← rfs_val L h]; exact List.mem_map.2 ⟨x, this, rfl⟩
  · intro hr
    rw [← rfs_val L h] at hr
    obtain ⟨x, hx, e⟩ := List.mem_map.1 hr
    exact ⟨x, List.mem_mergeSort.2 hx, e⟩
theorem srt_len (L : List (Nat × Nat)) (h : ∀ r ∈ L, Fl.RV r) : (srt L h).length = L.length := by
  unfold srt; rw [List.length_map, List.length_mergeSort, rfs_len]
theorem srt_sorted (L : List (Nat × Nat)) (h : ∀ r ∈ L, Fl.RV r) : (srt L h).Pairwise (fun a b => a.1 ≤ b.1) := by
  unfold srt
  rw [List.pairwise_map]
  have := List.pairwise_mergeSort (le := fun x y => !(ltOf cfR) y x) (fun x y z h1 h2 => by
    simp only [Bool.not_eq_true'] at *
    exact swoR.ntrans _ _ _ h2 h1) (fun x y => by
    rw [ltR, ltR]; simp; omega) (rfs L h)
  refine this.imp fun {a b} k => ?_
  rw [ltR] at k; simp at k; omega
end Go.Proofs.YtbkbnfgjkefcmaaGreat
