/- The library's sort with a function, by its contract, laid at this dump; no condition. -/
import Derived.Test.YthjfkmjeppdcnaaGreatClF
import Derived.Shelf.SlSortCmp.NoneTotal
import Derived.Shelf.Lay
import Derived.Ground.SlsfProg
import Derived.Lib.RowBridge
import Derived.Lib.SortBridge
import Derived.Laws.MakeOwn
import Derived.Deep.QuietTactic
import Derived.BigQuiet
import Derived.Test.YthjfkmjeppdcnaaGreatClD
import Derived.Test.YthjfkmjeppdcnaaGreatSqa
import Derived.Test.YthjfkmjeppdcnaaGreatClG
namespace Go.Proofs
set_option linter.unusedSimpArgs false
open Go.Shelf
shelf_lay_g SlLaysF.n6 Slsf 6 at Tryz 82 as YthjfkmjeppdcnaaGreat.sortLaidF
end Go.Proofs
namespace Go.Proofs.YthjfkmjeppdcnaaGreat
open Go.Shelf Go.RowKit Go.Lib Go.Sort
set_option linter.unusedVariables false
def Form : Type := { b : Nat // Fl.W b ∧ Fl.canon b = b }
instance : Inhabited Form := ⟨⟨0, by unfold Fl.W; omega, Fl.canon_zero 0 (.inl rfl)⟩⟩
def encF (x : Form) : Value := .float .f64 x.1
def cfF (x y : Form) : Int := Fl.cmpc x.1 y.1
theorem ltF (x y : Form) : ltOf cfF x y = decide (Fl.code x.1 < Fl.code y.1) := by
 unfold ltOf cfF
 rcases Fl.cmpc_cases x.1 y.1 with ⟨h1, h2⟩ | ⟨h1, h2⟩ | ⟨h1, h2⟩
 ·rw [h1]; simp [h2]
 ·rw [h1]; simp; omega
 ·rw [h1]; simp; omega
theorem swoF : SWO (ltOf cfF) where
 irrefl x := by rw [ltF]; simp
 trans x y z h1 h2 := by rw [ltF] at *; simp at *; omega
 ntrans x y z h1 h2 := by rw [ltF] at *; simp at *; omega
theorem form_eq (x y : Form) (h : Fl.code x.1 = Fl.code y.1) : x = y := by
 apply Subtype.ext
 have e : Fl.canon x.1 = Fl.canon y.1 := by rw [← Fl.of_code x.1 x.2.1, ← Fl.of_code y.1 y.2.1, h]
 rw [x.2.2, y.2.2] at e
 exact e
theorem totF (x y : Form) (h1 : ltOf cfF x y = false) (h2 : ltOf cfF y x = false) : x = y := by
 rw [ltF] at *; simp at *; exact form_eq x y (by omega)
theorem enter_cmp : ∀ args w, (callFunc 83 args).run Tryz.prog w = .ok (.enter 83 args) w := enters_of Tryz.func83 (by kernel_rfl) rfl
theorem cmpReadsF (blk off size : Nat) (w : World) : CmpReads Tryz.prog 83 #[] encF cfF blk off size w := fun _ _ _ _ x y => (cmp_any x.1 y.1 x.2.1 y.2.1 _).mono (fun e w' h => ⟨h.1, 0, h.2⟩)
theorem sort_forms (blk off cap : Nat) (d : Array Form) (w : World) (hH : Holds encF w blk off d) (hblk : blk < w.heap.size) (hsz : d.size < 4611686018427387904) :
    Calls Tryz.prog 82 #[.slice (some ⟨blk, off, none⟩) d.size cap, .func (.func 83) #[] #[]] w fun e w' => e = .returned (.tuple #[]) ∧ ∃ n os, w' = sortWorld encF w blk off n (d.toList.mergeSort fun x y => !(ltOf cfF) y x).toArray os := by
 have hS := Any.slices_SortFunc_total sortLaidF encF (fun _ => rfl) cfF swoF 83 #[] blk off cap d w enter_cmp (cmpReadsF blk off d.size w).lays hH hblk hsz totF
 exact hS
theorem sort_noneF (p : Option Addr) (c : Nat) (fv : Value) (w : World) : Calls Tryz.prog 82 #[.slice p 0 c, fv] w fun e w' => e = .returned (.tuple #[]) ∧ w' = w :=
 AnyF.slices_SortFunc_none (P := Tryz.prog) (ρ := sortLaidF_ren) { sortLaidF with } p c fv w
end Go.Proofs.YthjfkmjeppdcnaaGreat
namespace Go.Proofs.YthjfkmjeppdcnaaGreat
set_option linter.unusedSimpArgs false
open Go.Shelf Go.RowKit Go.Lib Go.Sort
set_option linter.unusedVariables false
attribute [local go_sem] run_bits run_frombits run_store_float eqF
def FL (x : Nat → Nat) (k : Nat) : List Nat := (List.range k).map fun i => Fl.canon (x i)
theorem FL_len (x : Nat → Nat) (k : Nat) : (FL x k).length = k := by simp [FL]
theorem FL_succ (x : Nat → Nat) (k : Nat) : FL x (k + 1) = FL x k ++ [Fl.canon (x k)] := by simp [FL, List.range_succ]
def forms (x : Nat → Nat) (n : Nat) (hx : ∀ i, i < n → Fl.W (x i)) : List Form := List.ofFn (fun i : Fin n => (⟨Fl.canon (x i.1), Fl.canon_lt _ (hx i.1 i.2), Fl.canon_canon _⟩ : Form))
theorem forms_len0 (x : Nat → Nat) (n : Nat) (hx : ∀ i, i < n → Fl.W (x i)) : (forms x n hx).length = n := by unfold forms; exact List.length_ofFn
theorem forms_len (x : Nat → Nat) (n : Nat) (hx : ∀ i, i < n → Fl.W (x i)) : (forms x n hx).length = n := by unfold forms; exact List.length_ofFn
theorem forms_at (x : Nat → Nat) (n : Nat) (hx : ∀ i, i < n → Fl.W (x i)) (i : Nat) (h : i < (forms x n hx).length) : ((forms x n hx)[i]).1 = Fl.canon (x i) := by
 have e : (forms x n hx)[i] = (⟨Fl.canon (x i), Fl.canon_lt _ (hx i (by rw [← forms_len0 x n hx]; exact h)), Fl.canon_canon _⟩ : Form) := List.getElem_ofFn h
 rw [e]
def zz (L : List Form) : Nat → Nat := fun i => (L.toArray[i]!).1
theorem zz_get (L : List Form) (i : Nat) (h : i < L.length) : zz L i = (L[i]).1 := by
 unfold zz
 rw [getElem!_pos L.toArray i (by simpa using h)]
 simp
theorem forms_get (x : Nat → Nat) (n : Nat) (hx : ∀ i, i < n → Fl.W (x i)) (i : Nat) (h : i < n) : zz (forms x n hx) i = Fl.canon (x i) := by
 rw [zz_get _ _ (by rw [forms_len]; exact h)]
 exact forms_at x n hx i _
theorem zz_form (L : List Form) (i : Nat) : Fl.W (zz L i) ∧ Fl.canon (zz L i) = zz L i := (L.toArray[i]!).2
theorem sorted_is (x : Nat → Nat) (n : Nat) (hx : ∀ i, i < n → Fl.W (x i)) : Fl.dt (zz ((forms x n hx).mergeSort fun a b => !(ltOf cfF) b a)) n = Fl.sortL x n := by
 obtain ⟨a1, a2, a3⟩ := Fl.sortL_all x n hx n (Nat.le_refl _)
 have hlen : ((forms x n hx).mergeSort fun a b => !(ltOf cfF) b a).length = n := by rw [List.length_mergeSort, forms_len]
 have hsort : ((forms x n hx).mergeSort fun a b => !(ltOf cfF) b a).Pairwise (fun a b => (!(ltOf cfF) b a) = true) := by
  apply List.pairwise_mergeSort
  ·intro a b c h1 h2; rw [ltF] at *; simp at *; omega
  ·intro a b; rw [ltF, ltF]; simp; omega
 have hmem : ∀ f, f ∈ ((forms x n hx).mergeSort fun a b => !(ltOf cfF) b a) ↔ f ∈ forms x n hx := fun f => List.mem_mergeSort
 generalize (forms x n hx).mergeSort (fun a b => !(ltOf cfF) b a) = M at *
 apply Fl.asc_eq
 ·refine Fl.dt_asc _ n (fun i hi => ?_) (fun i j hi hj h => ?_) n (Nat.le_refl _)
  ·have h := List.pairwise_iff_getElem.1 hsort i (i + 1) (by omega) (by omega) (by omega)
   rw [ltF] at h
   rw [zz_get _ _ (by omega), zz_get _ _ (by omega)]
   simp at h; exact h
  ·rw [zz_get _ _ (by omega), zz_get _ _ (by omega)] at h ⊢
   exact congrArg Subtype.val (form_eq _ _ h)
 ·exact a1
 ·intro z
  rw [Fl.dt_mem, a3 z]
  constructor
  ·rintro ⟨i, hi, rfl⟩
   rw [zz_get _ _ (by omega)]
   have hm := (hmem M[i]).1 (List.getElem_mem _)
   obtain ⟨j, hj, e⟩ := List.mem_iff_getElem.1 hm
   refine ⟨j, by rw [forms_len] at hj; exact hj, ?_⟩
   rw [← e]; exact forms_at x n hx j _
  ·rintro ⟨j, hj, rfl⟩
   have hm := (hmem ((forms x n hx)[j]'(by rw [forms_len]; exact hj))).2 (List.getElem_mem _)
   obtain ⟨i, hi, e⟩ := List.mem_iff_getElem.1 hm
   refine ⟨i, by omega, ?_⟩
   rw [zz_get _ _ hi, e]; exact (forms_at x n hx j _).symm
theorem compact_all (g n cap : Nat) (x : Nat → Nat) (hn : 1 ≤ n) (hnc : n ≤ cap) (hm : cap ≤ maxLen) (w : World) (h : RowW w g n x) (hW : ∀ i, i < n → Fl.W (x i) ∧ Fl.canon (x i) = x i) :
    Calls Tryz.prog 84 #[.slice (some ⟨g, 0, none⟩) n cap, .func (.func 85) #[] #[]] w fun e w' => e = .returned (.slice (some ⟨g, 0, none⟩) (Fl.dt x n).length cap) ∧ (∀ i, i < (Fl.dt x n).length → w'.cell? ⟨g, i, none⟩ = (Fl.dt x n)[i]?.map (Value.float .f64)) ∧ (∀ i, i < n → w'.frozen? ⟨g, i, none⟩ = false) ∧ Only g w w' := by
 by_cases h2 : 2 ≤ n
 ·exact compact_any g n cap x h2 hnc hm w h hW
 ·obtain rfl : n = 1 := by omega
  refine (compact_short (some ⟨g, 0, none⟩) 1 cap _ (by omega) w).mono ?_
  rintro e w' ⟨rfl, rfl⟩
  have e1 : Fl.dt x 1 = [x 0] := by simp [Fl.dt]
  rw [e1]
  refine ⟨rfl, fun i hi => ?_, fun i hi => (h i hi).2, Only.refl _ _⟩
  obtain rfl : i = 0 := by simpa using hi
  exact (h 0 (by omega)).1
theorem sortWorld_old {w : World} {g m : Nat} {d : Array Form} {os : Array Obj} : (sortWorld encF w g 0 m d os).os = w.os ∧ (sortWorld encF w g 0 m d os).tape = w.tape ∧ (sortWorld encF w g 0 m d os).output = w.output ∧ w.heap.size ≤ (sortWorld encF w g 0 m d os).heap.size ∧ ∀ k, k < w.heap.size → k ≠ g → (sortWorld encF w g 0 m d os).heap[k]? = w.heap[k]? := by
 refine ⟨rfl, rfl, rfl, ?_, fun k hk hne => ?_⟩
 ·unfold sortWorld; simp
 ·unfold sortWorld
  rw [heap_grow_old _ _ (by simpa using hk)]
  unfold putRow mapBlock
  simp [Array.getElem?_modify]
  intro e; exact absurd e.symm hne
set_option maxHeartbeats 2000000 in
set_option maxRecDepth 20000 in
theorem floSort_some (b off n cap : Nat) (x : Nat → Nat) (hm : n ≤ 17592186044000) (hn : 0 < n) (w : World) (hc : ∀ i, i < n → Fl.W (x i) ∧ w.cell? ⟨b, off + i, none⟩ = some (.float .f64 (x i))) :
    Calls Tryz.prog 55 #[.slice (some ⟨b, off, none⟩) n cap] w fun e w' => ∃ g c2, e = .returned (.slice (some ⟨g, 0, none⟩) (Fl.sortL x n).length c2) ∧ w.heap.size ≤ g ∧ (∀ i, i < (Fl.sortL x n).length → w'.cell? ⟨g, i, none⟩ = (Fl.sortL x n)[i]?.map (Value.float .f64) ∧ w'.frozen? ⟨g, i, none⟩ = false) ∧ Old w w' := by
 obtain ⟨i0, hi, hz0, hz1, hz2⟩ := info_parts infoFloat
 have HX := hid hc
 clear hc
 go_enter Tryz.func55, Tryz.ntmps55
 go_wp2_with (refine wpList_make_own w rfl (.const (.int .i64 0)) (.tmp 7) 30 rfl w.heap.size 29 i0 (.float .f64 0) 1 Tryz.underlying30 hi hz0 hz1 .i64 .i64 _ n rfl rfl (by omega) (by rw [hz2]; omega) (by unfold maxLen; omega) (Nat.le_refl _) ?_; intro w1 ho1 hg1; have u1 : Old w w1 := Below.grown (Below.refl _ _) hg1 (Nat.le_refl _) (fun k hk => by cases hk); have O1 : Hid (OwnF w.heap.size w1 _ (FL x 0)) := ho1; have U1 := hid u1; clear ho1 hg1 u1)
 go_loopw [3, 11] (fun o i wr => ∃ k : Nat, k ≤ n ∧ i = .int .i64 (k : Nat) ∧ OwnF w.heap.size wr o (FL x k) ∧ Old w wr) (fun _ i _ => n - (intOf i).toNat)
 case atStart => exact ⟨0, Nat.zero_le _, rfl, O1.out, U1.out⟩
 case round =>
  obtain ⟨k, hk, rfl, ho, hu⟩ := hrel
  have HO := hid ho
  have HU := hid hu
  clear ho hu
  by_cases hlt : k < n
  ·obtain ⟨hw, hcell⟩ := HX.out k hlt
   have hcr := HU.out.keep hcell
   have HCn := hid (fun W => canon_any (x k) hw W)
   have hlen := FL_len x k
   have HFs := hid (FL_succ x k)
   clear hcell HX O1 U1
   generalize x k = X at *
   go_wp2_with (first | (go_at_call 81; refine (HCn.out _).mono ?_; rintro e w' ⟨rfl, hw⟩; have hw2 := hw.symm; subst hw2) | (at_builtin; refine wp_appF rfl (.tmp 15) (.tmp 18) rfl w.heap.size _ (FL x k) _ 1 (Fl.canon X) rfl rfl (OwnF.up HO.out ((Old.refl _).alloc _)) (cell_one _ _ _ (by simp)) (by omega) (by have := HU.out.size; simp; omega) ?_; intro v8 w8 o8 u8; have O8 := hid o8; have V8 := hid (below_up' HU.out ((Old.refl _).alloc _) u8); clear o8 u8))
   go_roundw
   case rel => exact ⟨k + 1, hlt, by go_num, by rw [HFs.out]; exact O8.out, V8.out⟩
   case measure => simp [intOf]; omega
  ·obtain rfl : n = k := by omega
   have h2 := HO.out
   unfold OwnF at h2
   rcases h2.2 with ⟨_, e⟩ | ⟨g, c2, cur, hv, hbg, hg, hnc, hcm, hcs, htk⟩
   ·rw [FL_len] at e; omega
   subst hv
   rw [FL_len] at hnc
   have hgl := lt_of_block hg
   have hx : ∀ i, i < n → Fl.W (x i) := fun i hi => (HX.out i hi).1
   have hcell : ∀ i, i < n → wr.cell? ⟨g, i, none⟩ = some (.float .f64 (Fl.canon (x i))) := fun i hi => by
    rw [h2.cellAt i (by rw [FL_len]; omega)]
    simp [fls, FL, hi]
   have hfz : ∀ i, wr.frozen? ⟨g, i, none⟩ = false := h2.frozenAt
   have hsz : (forms x n hx).toArray.size = n := by rw [List.size_toArray, forms_len]
   have hH : Holds encF wr g 0 (forms x n hx).toArray := fun j hj => by
    rw [hsz] at hj
    rw [Nat.zero_add]
    refine ⟨?_, hfz j⟩
    rw [hcell j hj]
    show some (Value.float .f64 (Fl.canon (x j))) = some (Value.float .f64 (zz (forms x n hx) j))
    rw [forms_get x n hx j hj]
   have HS := hid (sort_forms g 0 c2 (forms x n hx).toArray wr hH hgl (by rw [hsz]; omega))
   rw [hsz] at HS
   have hM : ((forms x n hx).mergeSort fun a b => !(ltOf cfF) b a).length = n := by rw [List.length_mergeSort, forms_len]
   have HSo := hid (sorted_is x n hx)
   have HC := hid (fun (m : Nat) (os : Array Obj) => compact_all g n c2 (zz ((forms x n hx).mergeSort fun a b => !(ltOf cfF) b a)) (by omega) hnc hcm (sortWorld encF wr g 0 m ((forms x n hx).mergeSort fun a b => !(ltOf cfF) b a).toArray os) (fun i hi => by
    have h := holds_sortWorld encF wr g 0 m (forms x n hx).toArray ((forms x n hx).mergeSort fun a b => !(ltOf cfF) b a).toArray os hgl hH (by rw [hsz, List.size_toArray, hM]) i (by rw [List.size_toArray, hM]; exact hi)
    rw [Nat.zero_add] at h
    exact h) (fun i hi => zz_form _ i))
   rw [HSo.out] at HC
   rw [FL_len]
   have hslen := hid (Fl.sortL_len x n)
   clear HX h2 hg hcs htk hcell hfz hH hM hsz HO O1 U1
   generalize ((forms x n hx).mergeSort fun a b => !(ltOf cfF) b a) = M at *
   go_wp2_with (first | (go_at_call 82; refine HS.out.mono ?_; rintro e w2 ⟨rfl, m, os, rfl⟩) | (go_at_call 84; refine (HC.out m os).mono ?_; rintro e w3 ⟨rfl, hc3, hf3, ho3⟩; have HC3 := hid hc3; have HF3 := hid hf3; have HO3 := hid ho3; clear hc3 hf3 ho3))
   go_ret
   refine ⟨g, c2, rfl, hbg, fun i hi => ⟨HC3.out i hi, HF3.out i (by have := hslen.out; omega)⟩, ?_⟩
   obtain ⟨s1, s2, s3, s4, s5⟩ := sortWorld_old (w := wr) (g := g) (m := m) (d := M.toArray) (os := os)
   have hus := HU.out.size
   exact ⟨HO3.out.os.trans (s1.trans HU.out.os), HO3.out.tape.trans (s2.trans HU.out.tape), HO3.out.output.trans (s3.trans HU.out.output), by rw [HO3.out.size]; omega, fun i hi => (HO3.out.block i (by omega)).trans ((s5 i (by omega) (by omega)).trans (HU.out.block i hi))⟩
end Go.Proofs.YthjfkmjeppdcnaaGreat
namespace Go.Proofs.YthjfkmjeppdcnaaGreat
set_option linter.unusedSimpArgs false
open Go.Shelf Go.RowKit Go.Lib Go.Sort
set_option linter.unusedVariables false
attribute [local go_sem] run_bits run_frombits run_store_float eqF
set_option maxHeartbeats 1000000 in
set_option maxRecDepth 20000 in
theorem sameKeys_eq (b1 o1 c1 b2 o2 c2 n : Nat) (x : Nat → Nat) (hm : n ≤ maxLen) (w : World) (hx : ∀ i, i < n → w.cell? ⟨b1, o1 + i, none⟩ = some (.float .f64 (x i))) (hy : ∀ i, i < n → w.cell? ⟨b2, o2 + i, none⟩ = some (.float .f64 (x i))) :
    Calls Tryz.prog 78 #[.slice (some ⟨b1, o1, none⟩) n c1, .slice (some ⟨b2, o2, none⟩) n c2] w fun e w' => e = .returned (.bool true) ∧ Old w w' := by
 unfold maxLen at hm
 have HX := hid hx
 have HY := hid hy
 clear hx hy
 go_enter Tryz.func78, Tryz.ntmps78
 go_wp2
 go_loopw [5] (fun i wx => ∃ k : Nat, k ≤ n ∧ i = .int .i64 k ∧ Old w wx) (fun i _ => n - (intOf i).toNat)
 case atStart => exact ⟨0, Nat.zero_le _, rfl, Old.refl _⟩
 case round =>
  obtain ⟨k, hk, rfl, hup⟩ := hrel
  by_cases hlt : k < n
  ·have cx := hup.keep (HX.out k hlt)
   have cy := hup.keep (HY.out k hlt)
   have l1 : (0 : Int) ≤ (k : Int) := by omega
   have l2 : (k : Int) < (n : Int) := by omega
   have t : ((x k : Int) != (x k : Int)) = false := by simp
   clear HX HY
   go_wp2
   go_quiet (fail)
   go_wp2
   exact ⟨⟨k + 1, hlt, by go_num, hup.drewN _⟩, by simp [intOf]; omega⟩
  ·obtain rfl : n = k := by omega
   go_wp2
   go_ret
   exact ⟨rfl, hup⟩
set_option maxHeartbeats 400000 in
set_option maxRecDepth 20000 in
theorem sameKeys_none (a b : Option Addr) (c d : Nat) (w : World) :
    Calls Tryz.prog 78 #[.slice a 0 c, .slice b 0 d] w fun e w' => e = .returned (.bool true) ∧ w' = w := by
 go_enter Tryz.func78, Tryz.ntmps78
 go_wp2
 refine wp_loop_rounds 1 ?_
 rw [rounds_succ]
 go_wp2
 go_ret
 exact ⟨rfl, rfl⟩
set_option maxHeartbeats 400000 in
set_option maxRecDepth 20000 in
theorem floSort_none (a : Option Addr) (c : Nat) (w : World) :
    Calls Tryz.prog 55 #[.slice a 0 c] w fun e w' => (∃ g c2, e = .returned (.slice g 0 c2)) ∧ Old w w' := by
 obtain ⟨i0, hi, hz0, hz1, hz2⟩ := info_parts infoFloat
 have HS := hid (fun (W : World) (p : Option Addr) (cc : Nat) (fv : Value) => sort_noneF p cc fv W)
 have HC := hid (fun (W : World) (p : Option Addr) (cc : Nat) (fv : Value) => compact_short p 0 cc fv (by omega) W)
 go_enter Tryz.func55, Tryz.ntmps55
 go_wp2_with (refine wpList_make_own w rfl (.const (.int .i64 0)) (.tmp 7) 30 rfl w.heap.size 29 i0 (.float .f64 0) 1 Tryz.underlying30 hi hz0 hz1 .i64 .i64 _ 0 rfl rfl (by omega) (by omega) (by unfold maxLen; omega) (Nat.le_refl _) ?_; intro w1 ho1 hg1; have u1 : Old w w1 := Below.grown (Below.refl _ _) hg1 (Nat.le_refl _) (fun k hk => by cases hk); have U1 := hid u1; clear ho1 hg1 u1)
 refine wp_loop_rounds 1 ?_
 rw [rounds_succ]
 go_wp2_with (first | (go_at_call 82; refine (HS.out _ _ _ _).mono ?_; rintro e w2 ⟨rfl, hw⟩; have hw2 := hw.symm; subst hw2) | (go_at_call 84; refine (HC.out _ _ _ _).mono ?_; rintro e w3 ⟨rfl, hw⟩; have hw2 := hw.symm; subst hw2))
 go_ret
 exact ⟨⟨_, _, rfl⟩, U1.out⟩
set_option maxHeartbeats 400000 in
set_option maxRecDepth 20000 in
theorem refSort_none (a : Option Addr) (c : Nat) (w : World) :
    Calls Tryz.prog 46 #[.slice a 0 c] w fun e w' => (∃ g c2, e = .returned (.slice g 0 c2)) ∧ Old w w' := by
 go_enter Tryz.func46, Tryz.ntmps46
 go_wp2
 refine wp_loop_rounds 1 ?_
 rw [rounds_succ]
 go_wp2
 go_ret
 exact ⟨⟨_, _, rfl⟩, (Old.refl w).alloc _⟩
theorem wp_appFs {ops : Array Oper} {rest : List Oper} {o : Oper} {a : Act} {Q : Exit → Act → World → Prop} {w : World} (hgd : o.guard = none) (s x : Operand)
    (ho : o.op = .call { callee := .builtin .append, args := #[s, x], argTypes := #[30, 30] }) (base : Nat) (v : Value) (b off n c : Nat) (y : Nat → Nat)
    (hs : a.eval s = v) (hx : a.eval x = .slice (some ⟨b, off, none⟩) n c) (hown : OwnF base w v []) (hc : ∀ i, i < n → w.cell? ⟨b, off + i, none⟩ = some (.float .f64 (y i))) (hb : n ≤ 17592186044000) (hbase : base ≤ w.heap.size)
    (h : ∀ v' w', OwnF base w' v' ((List.range n).map y) → Below base w w' → wpList Tryz.prog ops Q rest (a.put o.dst v') w') : wpList Tryz.prog ops Q (o :: rest) a w := by
 obtain ⟨i0, hi, hz0, hz1, hz2⟩ := info_parts infoFloat
 refine wpList_append_own w hgd s x 30 ho base 29 i0 _ 1 8 Tryz.underlying30 hi hz0 hz1 hz2 rfl (by decide) v 0 [] hs hown ⟨b, off, none⟩ n c (fls ((List.range n).map y)) hx (by simp [fls]) ?_ ?_ (by unfold maxLen; omega) (by omega) hbase ?_
 ·intro j u hj
  by_cases hjn : j < n
  ·simp [fls, hjn] at hj
   subst hj
   rw [Go.WideShapes.add_plain]; exact hc j hjn
  ·simp [fls, hjn] at hj
 ·intro u hu; simp [fls] at hu; obtain ⟨i, _, rfl⟩ := hu; rfl
 ·intro v' w' h1 h2 h3
  refine h v' w' ?_ (Below.grown (Below.refl _ _) h2 hbase (fun k hk => (World.ownsRow.lt hown k hk).1))
  unfold OwnF
  simpa using h1
end Go.Proofs.YthjfkmjeppdcnaaGreat
namespace Go.Proofs.YthjfkmjeppdcnaaGreat
set_option linter.unusedSimpArgs false
open Go.RowKit
set_option linter.unusedVariables false
attribute [local go_sem] run_bits run_frombits run_store_float eqF
def FOwn (base : Nat) (w : World) (v : Value) (L : List Nat) : Prop := ∃ (p : Option Addr) (c : Nat), v = .slice p L.length c ∧ (0 < L.length → ∃ g, p = some ⟨g, 0, none⟩ ∧ base ≤ g ∧ ∀ i (hi : i < L.length), w.cell? ⟨g, i, none⟩ = some (.float .f64 L[i]) ∧ w.frozen? ⟨g, i, none⟩ = false)
theorem FOwn.old {base : Nat} {w w' : World} {v : Value} {L : List Nat} (h : FOwn base w v L) (u : Old w w') : FOwn base w' v L := by
 obtain ⟨p, c, hv, hc⟩ := h
 exact ⟨p, c, hv, fun hl => by obtain ⟨g, e, hb, k⟩ := hc hl; exact ⟨g, e, hb, fun i hi => ⟨u.keep (k i hi).1, u.keepF (k i hi).1 (k i hi).2⟩⟩⟩
def atN (L : List Nat) (i : Nat) : Nat := (L[i]?).getD 0
theorem atN_get (L : List Nat) (i : Nat) (h : i < L.length) : atN L i = L[i] := by simp [atN, h]
theorem FOwn.row {base : Nat} {w : World} {v : Value} {L : List Nat} (h : FOwn base w v L) (hW : ∀ y ∈ L, Fl.W y) (hl : L.length ≤ 9223372036854775807) : FRow w v L.length (atN L) := by
 obtain ⟨p, c, hv, hc⟩ := h
 refine ⟨hl, p, c, hv, fun i hi => ?_⟩
 obtain ⟨g, e, _, k⟩ := hc (by omega)
 refine ⟨g, 0, e, ?_, ?_⟩
 ·rw [atN_get L i hi]; exact hW _ (List.getElem_mem hi)
 ·rw [atN_get L i hi, Nat.zero_add]; exact (k i hi).1
theorem FRow.cases {w : World} {v : Value} {n : Nat} {x : Nat → Nat} (h : FRow w v n x) : (n = 0 ∧ ∃ a c, v = .slice a 0 c) ∨ (0 < n ∧ ∃ b off c, v = .slice (some ⟨b, off, none⟩) n c ∧ ∀ i, i < n → Fl.W (x i) ∧ w.cell? ⟨b, off + i, none⟩ = some (.float .f64 (x i))) := by
 obtain ⟨_, a, c, rfl, hc⟩ := h
 by_cases h0 : n = 0
 ·subst h0; exact .inl ⟨rfl, a, c, rfl⟩
 ·obtain ⟨b, off, rfl, _⟩ := hc 0 (by omega)
  refine .inr ⟨by omega, b, off, c, rfl, fun i hi => ?_⟩
  obtain ⟨b', off', e, q⟩ := hc i hi
  cases e; exact q
theorem sortF_any (v : Value) (n : Nat) (x : Nat → Nat) (hn : n ≤ 17592186044000) (w : World) (hv : FRow w v n x) :
    Calls Tryz.prog 55 #[v] w fun e w' => ∃ v' : Value, e = .returned v' ∧ FOwn w.heap.size w' v' (Fl.sortL x n) ∧ Old w w' := by
 rcases hv.cases with ⟨rfl, a, c, rfl⟩ | ⟨h0, b, off, c, rfl, hc⟩
 ·refine (floSort_none a c w).mono ?_
  rintro e w' ⟨⟨g, c2, rfl⟩, hu⟩
  exact ⟨_, rfl, ⟨g, c2, rfl, fun h => absurd h (by simp [Fl.sortL])⟩, hu⟩
 ·refine (floSort_some b off n c x hn h0 w hc).mono ?_
  rintro e w' ⟨g, c2, rfl, hb, hk, hu⟩
  refine ⟨_, rfl, ⟨_, c2, rfl, fun _ => ⟨g, rfl, hb, fun i hi => ?_⟩⟩, hu⟩
  have := hk i hi
  rw [List.getElem?_eq_getElem hi] at this
  exact this
theorem OwnF.fown {base : Nat} {w : World} {v : Value} {L : List Nat} (h : OwnF base w v L) : FOwn base w v L := by
 have h2 := h
 unfold OwnF at h2
 rcases h2.2 with ⟨rfl, e⟩ | ⟨g, cap, cur, rfl, hb, hg, hnc, hcm, hcs, htk⟩
 ·exact ⟨none, 0, by rw [e], fun hl => absurd hl (by omega)⟩
 ·refine ⟨_, cap, rfl, fun _ => ⟨g, rfl, hb, fun i hi => ⟨?_, h2.frozenAt i⟩⟩⟩
  rw [h2.cellAt i (by omega)]
  simp [fls, hi]
theorem sortR_any (v : Value) (n : Nat) (x : Nat → Nat) (hn : n ≤ 17592186044000) (w : World) (hv : FRow w v n x) :
    Calls Tryz.prog 46 #[v] w fun e w' => ∃ v' : Value, e = .returned v' ∧ FOwn w.heap.size w' v' (Fl.sortL x n) ∧ Old w w' := by
 rcases hv.cases with ⟨rfl, a, c, rfl⟩ | ⟨h0, b, off, c, rfl, hc⟩
 ·refine (refSort_none a c w).mono ?_
  rintro e w' ⟨⟨g, c2, rfl⟩, hu⟩
  exact ⟨_, rfl, ⟨g, c2, rfl, fun h => absurd h (by simp [Fl.sortL])⟩, hu⟩
 ·refine (sort_any b off n c x hn w hc).mono ?_
  rintro e w' ⟨v', rfl, ho, hu⟩
  exact ⟨v', rfl, ho.fown, hu⟩
theorem sameF (v1 v2 : Value) (n : Nat) (x : Nat → Nat) (w : World) (h1 : FRow w v1 n x) (h2 : FRow w v2 n x) :
    Calls Tryz.prog 78 #[v1, v2] w fun e w' => e = .returned (.bool true) ∧ Old w w' := by
 have hm := h1.1
 rcases h1.cases with ⟨rfl, a, c, rfl⟩ | ⟨h0, b, off, c, rfl, hc⟩ <;> rcases h2.cases with ⟨e0, a', c', rfl⟩ | ⟨h0', b', off', c', rfl, hc'⟩
 ·exact (sameKeys_none a a' c c' w).mono fun e w' h => ⟨h.1, by rw [h.2]; exact Old.refl _⟩
 ·omega
 ·omega
 ·exact sameKeys_eq b off c b' off' c' n x (by unfold maxLen; omega) w (fun i hi => (hc i hi).2) (fun i hi => (hc' i hi).2)
theorem sortL_W (x : Nat → Nat) (n : Nat) (hx : ∀ i, i < n → Fl.W (x i)) : ∀ y ∈ Fl.sortL x n, Fl.W y := fun y hy => ((Fl.sortL_all x n hx n (Nat.le_refl _)).2.1 y hy).1
theorem sortL_again (x : Nat → Nat) (n : Nat) (hx : ∀ i, i < n → Fl.W (x i)) : Fl.sortL (atN (Fl.sortL x n)) (Fl.sortL x n).length = Fl.sortL x n := by
 have a := Fl.sortL_all x n hx n (Nat.le_refl _)
 have hw : ∀ i, i < (Fl.sortL x n).length → Fl.W (atN (Fl.sortL x n) i) := fun i hi => by rw [atN_get _ i hi]; exact (a.2.1 _ (List.getElem_mem hi)).1
 have b := Fl.sortL_all (atN (Fl.sortL x n)) (Fl.sortL x n).length hw _ (Nat.le_refl _)
 refine Fl.asc_eq _ _ b.1 a.1 fun z => ?_
 rw [b.2.2 z]
 constructor
 ·rintro ⟨i, hi, rfl⟩
  rw [atN_get _ i hi, (a.2.1 _ (List.getElem_mem hi)).2]
  exact List.getElem_mem hi
 ·intro hz
  obtain ⟨i, hi, rfl⟩ := List.getElem_of_mem hz
  exact ⟨i, hi, by rw [atN_get _ i hi, (a.2.1 _ (List.getElem_mem hi)).2]⟩
end Go.Proofs.YthjfkmjeppdcnaaGreat
namespace Go.Proofs.YthjfkmjeppdcnaaGreat
set_option linter.unusedSimpArgs false
open Go.RowKit
set_option linter.unusedVariables false
attribute [local go_sem] run_bits run_frombits run_store_float eqF
def outB (n l : Int) : Bool := decide (n < l) || decide (1099511627776 < n)
def misB (s1 s2 s3 : Int) : Bool := outB s1 1 || outB s2 1 || outB s3 0
def crowdB (n1 n2 n3 : Nat) : Bool := decide (16 < n1) || decide (8 < n2) || decide (16 < n3)
abbrev SubAt (m : Nat) (s1 s2 s3 : Int) (v1 v2 v3 : Value) (w : World) : Prop := w.cell? ⟨m, 0, none⟩ = some (.int .i64 s1) ∧ w.cell? ⟨m, 1, none⟩ = some (.int .i64 s2) ∧ w.cell? ⟨m, 2, none⟩ = some (.int .i64 s3) ∧ w.cell? ⟨m, 3, none⟩ = some v1 ∧ w.cell? ⟨m, 4, none⟩ = some v2 ∧ w.cell? ⟨m, 5, none⟩ = some v3
theorem SubAt.old {m : Nat} {s1 s2 s3 : Int} {v1 v2 v3 : Value} {w w' : World} (u : Old w w') (h : SubAt m s1 s2 s3 v1 v2 v3 w) : SubAt m s1 s2 s3 v1 v2 v3 w' := ⟨u.keep h.1, u.keep h.2.1, u.keep h.2.2.1, u.keep h.2.2.2.1, u.keep h.2.2.2.2.1, u.keep h.2.2.2.2.2⟩
set_option maxHeartbeats 400000 in
set_option maxRecDepth 20000 in
theorem outside_any (n l : Int) (w : World) : Calls Tryz.prog 57 #[.int .i64 n, .int .i64 l] w fun e w' => e = .returned (.bool (outB n l)) ∧ w' = w := by
 have HB := hid (show outB n l = (decide (n < l) || decide (1099511627776 < n)) from rfl)
 by_cases h : n < l
 ·go_enter Tryz.func57, Tryz.ntmps57
  go_wp2
  go_ret
  exact ⟨ret_b (by rw [HB.out]; simp [h]), rfl⟩
 ·go_enter Tryz.func57, Tryz.ntmps57
  go_wp2
  go_ret
  exact ⟨ret_b (by rw [HB.out, Bool.eq_iff_iff]; simp; try omega), rfl⟩
set_option maxHeartbeats 1000000 in
set_option maxRecDepth 20000 in
theorem misnamed_any (s1 s2 s3 : Int) (v1 v2 v3 : Value) (w : World) : Calls Tryz.prog 33 #[.agg #[.int .i64 s1, .int .i64 s2, .int .i64 s3, v1, v2, v3]] w fun e w' => e = .returned (.bool (misB s1 s2 s3)) ∧ Old w w' := by
 have H1 := fun W => outside_any s1 1 W
 have H2 := fun W => outside_any s2 1 W
 have H3 := fun W => outside_any s3 0 W
 have HB := hid (show misB s1 s2 s3 = (outB s1 1 || outB s2 1 || outB s3 0) from rfl)
 cases h1 : outB s1 1 <;> cases h2 : outB s2 1
 all_goals
  rw [h1] at H1
  rw [h2] at H2
  rw [h1, h2] at HB
  generalize outB s3 0 = r3 at *
  have K1 := hid H1
  have K2 := hid H2
  have K3 := hid H3
  clear H1 H2 H3 h1 h2
  go_enter Tryz.func33, Tryz.ntmps33
  go_wp2_with (first | (go_at_call_of 57 (Value.int IntKind.i64 s1); refine (K1.out _).mono ?_; rintro o w5 ⟨rfl, rfl⟩) | (go_at_call_of 57 (Value.int IntKind.i64 s2); refine (K2.out _).mono ?_; rintro o w5 ⟨rfl, rfl⟩) | (go_at_call_of 57 (Value.int IntKind.i64 s3); refine (K3.out _).mono ?_; rintro o w5 ⟨rfl, rfl⟩))
  go_ret
  exact ⟨ret_b (by rw [HB.out]; simp), (Old.refl w).alloc _⟩
set_option maxHeartbeats 1000000 in
set_option maxRecDepth 20000 in
theorem crowded_any (s1 s2 s3 : Int) (a1 a2 a3 : Option Addr) (n1 n2 n3 c1 c2 c3 : Nat) (w : World) : Calls Tryz.prog 34 #[.agg #[.int .i64 s1, .int .i64 s2, .int .i64 s3, .slice a1 n1 c1, .slice a2 n2 c2, .slice a3 n3 c3]] w fun e w' => e = .returned (.bool (crowdB n1 n2 n3)) ∧ Old w w' := by
 have HB := hid (show crowdB n1 n2 n3 = (decide (16 < n1) || decide (8 < n2) || decide (16 < n3)) from rfl)
 by_cases h1 : 16 < n1 <;> by_cases h2 : 8 < n2
 all_goals
  have t1 := h1
  have t2 := h2
  go_enter Tryz.func34, Tryz.ntmps34
  go_wp2
  go_ret
  exact ⟨ret_b (by rw [HB.out, Bool.eq_iff_iff]; simp; try omega), (Old.refl w).alloc _⟩
set_option maxHeartbeats 1000000 in
set_option maxRecDepth 20000 in
theorem keyless_any (s1 s2 s3 : Int) (v1 v2 v3 : Value) (n1 n3 : Nat) (x1 x3 : Nat → Nat) (w : World) (h1 : FRow w v1 n1 x1) (h3 : FRow w v3 n3 x3) : Calls Tryz.prog 35 #[.agg #[.int .i64 s1, .int .i64 s2, .int .i64 s3, v1, v2, v3]] w fun e w' => e = .returned (.bool (Fl.anyG (fun i => Fl.nan (x1 i)) n1 || Fl.anyG (fun i => Fl.nan (x3 i)) n3)) ∧ Old w w' := by
 have K1 := hid (fun W (hW : Old w W) => nans_any v1 n1 x1 W (h1.old hW))
 have K3 := hid (fun W (hW : Old w W) => nans_any v3 n3 x3 W (h3.old hW))
 clear h1 h3
 generalize hr : Fl.anyG (fun i => Fl.nan (x1 i)) n1 = r1 at *
 generalize Fl.anyG (fun i => Fl.nan (x3 i)) n3 = r3 at *
 clear hr
 have s0 : SubAt w.heap.size s1 s2 s3 v1 v2 v3 (w.alloc (.cells #[.int .i64 s1, .int .i64 s2, .int .i64 s3, v1, v2, v3] 33)) := by simp [SubAt]
 have HS := hid s0
 clear s0
 cases r1
 all_goals
  go_enter Tryz.func35, Tryz.ntmps35
  go_wp2_with (first | (go_at_call_of 58 v1; refine (K1.out _ ((Old.refl w).alloc _)).mono ?_; rintro o w5 ⟨rfl, u5⟩; have U5 := hid (((Old.refl w).alloc _).trans u5); have S5 := SubAt.old u5 HS.out; obtain ⟨_, _, _, e3, e4, e5⟩ := S5; clear u5) | (go_at_call_of 58 v3; refine (K3.out _ U5.out).mono ?_; rintro o w6 ⟨rfl, u6⟩; have U6 := hid (U5.out.trans u6); clear u6))
  go_ret
  first | exact ⟨ret_b (by simp), U6.out⟩ | exact ⟨ret_b (by simp), U5.out⟩
end Go.Proofs.YthjfkmjeppdcnaaGreat
namespace Go.Proofs.YthjfkmjeppdcnaaGreat
abbrev oWd0 : Oper := { dst := some 3, op := .fieldAddr 33 (.tmp 1) 3, type := 0, pos := "sub.go:53", after := #[], guard := none }
abbrev oWd1 : Oper := { dst := some 6, op := .fieldAddr 33 (.tmp 1) 4, type := 0, pos := "sub.go:53", after := #[], guard := none }
abbrev oWd2 : Oper := { dst := some 9, op := .fieldAddr 33 (.tmp 1) 5, type := 0, pos := "sub.go:53", after := #[], guard := none }
abbrev oWd3 : Oper := { dst := some 4, op := .load 30 (.tmp 3), type := 30, pos := "sub.go:53", after := #[⟨0, .data⟩], guard := none }
abbrev oWd4 : Oper := { dst := some 7, op := .load 31 (.tmp 6), type := 31, pos := "sub.go:53", after := #[⟨3, .data⟩], guard := none }
abbrev oWd5 : Oper := { dst := some 10, op := .load 30 (.tmp 9), type := 30, pos := "sub.go:53", after := #[⟨6, .data⟩], guard := none }
abbrev oWd6 : Oper := { dst := some 5, op := .call { callee := Callee.value (.func 55), args := #[.tmp 4], argTypes := #[30] }, type := 30, pos := "sub.go:53", after := #[⟨1, .data⟩], guard := none }
abbrev oWd7 : Oper := { dst := some 8, op := .call { callee := Callee.value (.func 56), args := #[.tmp 7], argTypes := #[31] }, type := 31, pos := "sub.go:53", after := #[⟨4, .data⟩, ⟨2, .chain⟩], guard := none }
abbrev oWd8 : Oper := { dst := some 12, op := .fieldAddr 33 (.tmp 1) 3, type := 0, pos := "sub.go:53", after := #[⟨0, .phase⟩, ⟨1, .phase⟩, ⟨2, .phase⟩, ⟨3, .phase⟩, ⟨4, .phase⟩, ⟨5, .textOnly Departure.lateStoresUnsure⟩, ⟨6, .phase⟩, ⟨7, .phase⟩, ⟨8, .textOnly Departure.lateStoresUnsure⟩], guard := none }
abbrev oWd9 : Oper := { dst := some 11, op := .call { callee := Callee.value (.func 55), args := #[.tmp 10], argTypes := #[30] }, type := 30, pos := "sub.go:53", after := #[⟨7, .data⟩, ⟨5, .chain⟩], guard := none }
abbrev oWd10 : Oper := { dst := none, op := .store 30 (.tmp 12) (.tmp 5), type := 0, pos := "sub.go:53", after := #[⟨9, .data⟩, ⟨2, .data⟩, ⟨8, .chain⟩, ⟨0, .phase⟩, ⟨1, .phase⟩, ⟨2, .phase⟩, ⟨3, .phase⟩, ⟨4, .phase⟩, ⟨5, .textOnly Departure.lateStoresUnsure⟩, ⟨6, .phase⟩, ⟨7, .phase⟩, ⟨8, .textOnly Departure.lateStoresUnsure⟩], guard := none }
abbrev oWd11 : Oper := { dst := some 13, op := .fieldAddr 33 (.tmp 1) 4, type := 0, pos := "sub.go:53", after := #[⟨0, .phase⟩, ⟨1, .phase⟩, ⟨2, .phase⟩, ⟨3, .phase⟩, ⟨4, .phase⟩, ⟨5, .phase⟩, ⟨6, .phase⟩, ⟨7, .phase⟩, ⟨8, .textOnly Departure.lateStoresUnsure⟩, ⟨9, .phase⟩, ⟨10, .phase⟩], guard := none }
abbrev oWd12 : Oper := { dst := none, op := .store 31 (.tmp 13) (.tmp 8), type := 0, pos := "sub.go:53", after := #[⟨11, .data⟩, ⟨5, .data⟩, ⟨10, .chain⟩, ⟨0, .phase⟩, ⟨1, .phase⟩, ⟨2, .phase⟩, ⟨3, .phase⟩, ⟨4, .phase⟩, ⟨5, .phase⟩, ⟨6, .phase⟩, ⟨7, .phase⟩, ⟨8, .textOnly Departure.lateStoresUnsure⟩, ⟨9, .phase⟩, ⟨10, .phase⟩], guard := none }
abbrev oWd13 : Oper := { dst := some 14, op := .fieldAddr 33 (.tmp 1) 5, type := 0, pos := "sub.go:53", after := #[⟨0, .phase⟩, ⟨1, .phase⟩, ⟨2, .phase⟩, ⟨3, .phase⟩, ⟨4, .phase⟩, ⟨5, .phase⟩, ⟨6, .phase⟩, ⟨7, .phase⟩, ⟨8, .phase⟩, ⟨9, .phase⟩, ⟨10, .phase⟩, ⟨11, .phase⟩, ⟨12, .phase⟩], guard := none }
abbrev oWd14 : Oper := { dst := none, op := .store 30 (.tmp 14) (.tmp 11), type := 0, pos := "sub.go:53", after := #[⟨13, .data⟩, ⟨8, .data⟩, ⟨12, .chain⟩, ⟨0, .phase⟩, ⟨1, .phase⟩, ⟨2, .phase⟩, ⟨3, .phase⟩, ⟨4, .phase⟩, ⟨5, .phase⟩, ⟨6, .phase⟩, ⟨7, .phase⟩, ⟨8, .phase⟩, ⟨9, .phase⟩, ⟨10, .phase⟩, ⟨11, .phase⟩, ⟨12, .phase⟩], guard := none }
set_option linter.unusedSimpArgs false
open Go.RowKit
set_option linter.unusedVariables false
attribute [local go_sem] run_bits run_frombits run_store_float eqF
theorem ent_sort (args : Array Value) (w : World) : (callFunc 55 args).run Tryz.prog w = .ok (.enter 55 args) w := by kernel_rfl
theorem ent_norm (args : Array Value) (w : World) : (callFunc 56 args).run Tryz.prog w = .ok (.enter 56 args) w := by kernel_rfl
theorem stepLoadFL {ops : Array Oper} {o : Oper} {a : Act} {w : World} {K : Act → World → Prop} {Q : Exit → Act → World → Prop} {E : Prop} (hg : o.guard = none) (x : Operand) (hop : o.op = Op.load 30 x) (b off : Nat) (p : Option Addr) (n c : Nat)
    (hx : a.eval x = .pointer (some ⟨b, off, none⟩)) (hc : w.cell? ⟨b, off, none⟩ = some (.slice p n c)) (hK : K (a.put o.dst (.slice p n c)) w) :
    if Region.wanted o (yielded ops a.tmps) = true then Oper.wp Tryz.prog o a w K Q else E := by
 have hw : Region.wanted o (yielded ops a.tmps) = true := by simp [Region.wanted, hg]
 rw [if_pos hw]
 obtain ⟨d, p, t, ps, af, gd⟩ := o
 subst hop
 unfold Oper.wp execOp
 simp only [hx]
 go_simp
 exact hK
theorem stepLoadSL {ops : Array Oper} {o : Oper} {a : Act} {w : World} {K : Act → World → Prop} {Q : Exit → Act → World → Prop} {E : Prop} (hg : o.guard = none) (x : Operand) (hop : o.op = Op.load 31 x) (b off : Nat) (p : Option Addr) (n c : Nat)
    (hx : a.eval x = .pointer (some ⟨b, off, none⟩)) (hc : w.cell? ⟨b, off, none⟩ = some (.slice p n c)) (hK : K (a.put o.dst (.slice p n c)) w) :
    if Region.wanted o (yielded ops a.tmps) = true then Oper.wp Tryz.prog o a w K Q else E := by
 have hw : Region.wanted o (yielded ops a.tmps) = true := by simp [Region.wanted, hg]
 rw [if_pos hw]
 obtain ⟨d, p, t, ps, af, gd⟩ := o
 subst hop
 unfold Oper.wp execOp
 simp only [hx]
 go_simp
 exact hK
theorem stepStoreFL {ops : Array Oper} {o : Oper} {a : Act} {w : World} {K : Act → World → Prop} {Q : Exit → Act → World → Prop} {E : Prop} (hg : o.guard = none) (x y : Operand) (hop : o.op = Op.store 30 x y) (m off : Nat) (p : Option Addr) (n c : Nat)
    (hx : a.eval x = .pointer (some ⟨m, off, none⟩)) (hy : a.eval y = .slice p n c) (ht : (∃ z, w.cell? ⟨m, off, none⟩ = some z) ∧ w.frozen? ⟨m, off, none⟩ = false)
    (hK : K (a.put o.dst undef) (w.setCell ⟨m, off, none⟩ (.slice p n c))) :
    if Region.wanted o (yielded ops a.tmps) = true then Oper.wp Tryz.prog o a w K Q else E := by
 have hw : Region.wanted o (yielded ops a.tmps) = true := by simp [Region.wanted, hg]
 rw [if_pos hw]
 obtain ⟨⟨z, hz⟩, h2⟩ := ht
 obtain ⟨d, p, t, ps, af, gd⟩ := o
 subst hop
 unfold Oper.wp execOp
 simp only [hx, hy]
 go_simp
 exact hK
theorem stepStoreSL {ops : Array Oper} {o : Oper} {a : Act} {w : World} {K : Act → World → Prop} {Q : Exit → Act → World → Prop} {E : Prop} (hg : o.guard = none) (x y : Operand) (hop : o.op = Op.store 31 x y) (m off : Nat) (p : Option Addr) (n c : Nat)
    (hx : a.eval x = .pointer (some ⟨m, off, none⟩)) (hy : a.eval y = .slice p n c) (ht : (∃ z, w.cell? ⟨m, off, none⟩ = some z) ∧ w.frozen? ⟨m, off, none⟩ = false)
    (hK : K (a.put o.dst undef) (w.setCell ⟨m, off, none⟩ (.slice p n c))) :
    if Region.wanted o (yielded ops a.tmps) = true then Oper.wp Tryz.prog o a w K Q else E := by
 have hw : Region.wanted o (yielded ops a.tmps) = true := by simp [Region.wanted, hg]
 rw [if_pos hw]
 obtain ⟨⟨z, hz⟩, h2⟩ := ht
 obtain ⟨d, p, t, ps, af, gd⟩ := o
 subst hop
 unfold Oper.wp execOp
 simp only [hx, hy]
 go_simp
 exact hK
structure Th (m : Nat) (w : World) : Prop where
 t3 : (∃ z, w.cell? ⟨m, 3, none⟩ = some z) ∧ w.frozen? ⟨m, 3, none⟩ = false
 t4 : (∃ z, w.cell? ⟨m, 4, none⟩ = some z) ∧ w.frozen? ⟨m, 4, none⟩ = false
 t5 : (∃ z, w.cell? ⟨m, 5, none⟩ = some z) ∧ w.frozen? ⟨m, 5, none⟩ = false
theorem cell_set {w : World} {m o j : Nat} {z : Value} (h : w.cell? ⟨m, j, none⟩ = some z) (v : Value) : ∃ y, (w.setCell ⟨m, o, none⟩ v).cell? ⟨m, j, none⟩ = some y := by
 by_cases e : j = o
 ·subst e; exact ⟨v, World.cell?_setCell_same _ _ _ h⟩
 ·exact ⟨z, by rw [World.cell?_setCell_other _ _ _ _ (fun q => e (by cases q; rfl))]; exact h⟩
theorem Th.set {m : Nat} {w : World} (h : Th m w) (o : Nat) (v : Value) : Th m (w.setCell ⟨m, o, none⟩ v) := by
 obtain ⟨⟨⟨a, ha⟩, a2⟩, ⟨⟨b, hb⟩, b2⟩, ⟨⟨c, hc⟩, c2⟩⟩ := h
 exact ⟨⟨cell_set ha v, by simpa using a2⟩, ⟨cell_set hb v, by simpa using b2⟩, ⟨cell_set hc v, by simpa using c2⟩⟩
theorem FOwn.len' {base : Nat} {w : World} {v : Value} {L : List Nat} (h : FOwn base w v L) : ∃ p c, v = .slice p L.length c := by obtain ⟨p, c, e, _⟩ := h; exact ⟨p, c, e⟩
theorem OwnS.len' {base : Nat} {w : World} {v : Value} {L : List Sp} (h : OwnS base w v L) : ∃ p c, v = .slice p L.length c := h.len
theorem FOwn.mono' {base b' : Nat} {w : World} {v : Value} {L : List Nat} (h : FOwn base w v L) (hb : b' ≤ base) : FOwn b' w v L := by
 obtain ⟨p, c, e, k⟩ := h
 exact ⟨p, c, e, fun hl => by obtain ⟨g, q, hg, r⟩ := k hl; exact ⟨g, q, by omega, r⟩⟩
theorem OwnS.mono' {base b' : Nat} {w : World} {v : Value} {L : List Sp} (h : OwnS base w v L) (hb : b' ≤ base) : OwnS b' w v L := h.mono hb
theorem FOwn.set1 {base m : Nat} {w : World} {v : Value} {L : List Nat} (h : FOwn base w v L) (hm : m < base) (o : Nat) (u : Value) : FOwn base (w.setCell ⟨m, o, none⟩ u) v L := by
 obtain ⟨p, c, e, k⟩ := h
 refine ⟨p, c, e, fun hl => ?_⟩
 obtain ⟨g, q, hg, r⟩ := k hl
 refine ⟨g, q, hg, fun i hi => ⟨?_, by simpa using (r i hi).2⟩⟩
 rw [World.cell?_setCell_far w ⟨m, o, none⟩ ⟨g, i, none⟩ u (by show m ≠ g; omega)]; exact (r i hi).1
theorem FOwn.set3 {base m : Nat} {w : World} {v : Value} {L : List Nat} (h : FOwn base w v L) (hm : m < base) (x y z : Value) : FOwn base (((w.setCell ⟨m, 3, none⟩ x).setCell ⟨m, 4, none⟩ y).setCell ⟨m, 5, none⟩ z) v L := ((h.set1 hm 3 x).set1 hm 4 y).set1 hm 5 z
theorem OwnS.set3 {base m : Nat} {w : World} {v : Value} {L : List Sp} (h : OwnS base w v L) (hm : m < base) (x y z : Value) : OwnS base (((w.setCell ⟨m, 3, none⟩ x).setCell ⟨m, 4, none⟩ y).setCell ⟨m, 5, none⟩ z) v L :=
 ownsRow_setCell_below (ownsRow_setCell_below (ownsRow_setCell_below h (by show m < base; exact hm) _) (by show m < base; exact hm) _) (by show m < base; exact hm) _
theorem SubAt.set3 {m : Nat} {s1 s2 s3 : Int} {v1 v2 v3 : Value} {w : World} (h : SubAt m s1 s2 s3 v1 v2 v3 w) (x y z : Value) : SubAt m s1 s2 s3 x y z (((w.setCell ⟨m, 3, none⟩ x).setCell ⟨m, 4, none⟩ y).setCell ⟨m, 5, none⟩ z) := by
 obtain ⟨h0, h1, h2, h3, h4, h5⟩ := h
 have F : ∀ (W : World) (o j : Nat) (u : Value), o ≠ j → (W.setCell ⟨m, o, none⟩ u).cell? ⟨m, j, none⟩ = W.cell? ⟨m, j, none⟩ := fun W o j u hn => World.cell?_setCell_other _ _ _ _ (fun q => hn (by cases q; rfl))
 refine ⟨?_, ?_, ?_, ?_, ?_, ?_⟩
 ·rw [F _ 5 0 _ (by decide), F _ 4 0 _ (by decide), F _ 3 0 _ (by decide)]; exact h0
 ·rw [F _ 5 1 _ (by decide), F _ 4 1 _ (by decide), F _ 3 1 _ (by decide)]; exact h1
 ·rw [F _ 5 2 _ (by decide), F _ 4 2 _ (by decide), F _ 3 2 _ (by decide)]; exact h2
 ·rw [F _ 5 3 _ (by decide), F _ 4 3 _ (by decide)]; exact World.cell?_setCell_same _ _ _ h3
 ·rw [F _ 5 4 _ (by decide)]; exact World.cell?_setCell_same _ _ _ (by rw [F _ 3 4 _ (by decide)]; exact h4)
 ·exact World.cell?_setCell_same _ _ _ (by rw [F _ 4 5 _ (by decide), F _ 3 5 _ (by decide)]; exact h5)
set_option maxHeartbeats 8000000 in
set_option maxRecDepth 20000 in
theorem form_any (s1 s2 s3 : Int) (a1 a2 a3 : Option Addr) (n1 n2 n3 c1 c2 c3 : Nat) (x1 x3 : Nat → Nat) (f2 : Nat → Sp) (b1 : n1 ≤ 17592186044000) (b2 : n2 ≤ 5864062014805) (b3 : n3 ≤ 17592186044000) (w : World) (h1 : FRow w (.slice a1 n1 c1) n1 x1) (h2 : SRow w (.slice a2 n2 c2) n2 f2) (h3 : FRow w (.slice a3 n3 c3) n3 x3) :
    Calls Tryz.prog 32 #[.agg #[.int .i64 s1, .int .i64 s2, .int .i64 s3, .slice a1 n1 c1, .slice a2 n2 c2, .slice a3 n3 c3]] w fun e w' => ∃ (p1 p2 p3 : Option Addr) (q1 q2 q3 : Nat), e = .returned (.agg #[.int .i64 s1, .int .i64 s2, .int .i64 s3, .slice p1 (Fl.sortL x1 n1).length q1, .slice p2 (Fl.dfold (Fl.cdl f2 n2)).length q2, .slice p3 (Fl.sortL x3 n3).length q3]) ∧ FOwn w.heap.size w' (.slice p1 (Fl.sortL x1 n1).length q1) (Fl.sortL x1 n1) ∧ OwnS w.heap.size w' (.slice p2 (Fl.dfold (Fl.cdl f2 n2)).length q2) ((Fl.dfold (Fl.cdl f2 n2)).map Fl.spo) ∧ FOwn w.heap.size w' (.slice p3 (Fl.sortL x3 n3).length q3) (Fl.sortL x3 n3) ∧ Old w w' := by
 have hl2 : ((Fl.dfold (Fl.cdl f2 n2)).map Fl.spo).length = (Fl.dfold (Fl.cdl f2 n2)).length := List.length_map ..
 have HL2 := hid hl2
 have k1 := fun W (hW : Old w W) => sortF_any (.slice a1 n1 c1) n1 x1 b1 W (h1.old hW)
 have k2 := fun W (hW : Old w W) => norm_any (.slice a2 n2 c2) n2 f2 b2 W (h2.old hW)
 have k3 := fun W (hW : Old w W) => sortF_any (.slice a3 n3 c3) n3 x3 b3 W (h3.old hW)
 generalize Fl.sortL x1 n1 = L1 at *
 generalize Fl.sortL x3 n3 = L3 at *
 generalize (Fl.dfold (Fl.cdl f2 n2)).map Fl.spo = L2 at *
 rw [← hl2]
 clear hl2 h1 h2 h3
 obtain ⟨w0, hw0⟩ : ∃ w0, w0 = ((w.alloc (.cells #[.int .i64 s1, .int .i64 s2, .int .i64 s3, .slice a1 n1 c1, .slice a2 n2 c2, .slice a3 n3 c3] 33)).alloc (.cells #[.int .i64 0, .int .i64 0, .int .i64 0, .slice none 0 0, .slice none 0 0, .slice none 0 0] 33)) := ⟨_, rfl⟩
 have hs0 : SubAt w.heap.size s1 s2 s3 (.slice a1 n1 c1) (.slice a2 n2 c2) (.slice a3 n3 c3) w0 := by rw [hw0]; simp [SubAt]
 have hf0 : w0.frozen? ⟨w.heap.size, 3, none⟩ = false ∧ w0.frozen? ⟨w.heap.size, 4, none⟩ = false ∧ w0.frozen? ⟨w.heap.size, 5, none⟩ = false := by rw [hw0]; simp
 have U0 : Old w w0 := by rw [hw0]; exact ((Old.refl w).alloc _).alloc _
 have hz0 : w0.heap.size = w.heap.size + 2 := by rw [hw0]; simp
 have HW0 := hid hw0
 go_enter Tryz.func32, Tryz.ntmps32
 go_upto_region 1 with fail
 rw [← HW0.out]
 have K1 := hid (fun W (hW : Old w0 W) => k1 W (U0.trans hW))
 have K2 := hid (fun W (hW : Old w0 W) => k2 W (U0.trans hW))
 have K3 := hid (fun W (hW : Old w0 W) => k3 W (U0.trans hW))
 generalize hm : w.heap.size = m at *
 have HMm := hid hm
 have HR1 : Hid (SubAt (m + 1) 0 0 0 (.slice none 0 0) (.slice none 0 0) (.slice none 0 0) w0 ∧ w0.frozen? ⟨m + 1, 0, none⟩ = false ∧ w0.frozen? ⟨m + 1, 1, none⟩ = false ∧ w0.frozen? ⟨m + 1, 2, none⟩ = false ∧ w0.frozen? ⟨m + 1, 3, none⟩ = false ∧ w0.frozen? ⟨m + 1, 4, none⟩ = false ∧ w0.frozen? ⟨m + 1, 5, none⟩ = false) := by
  show _ ∧ _
  rw [HW0.out, ← HMm.out]
  simp [SubAt]
 have HS1 := hid (fun W (hW : Old w0 W) => SubAt.old hW hs0)
 have HS0 := hid (fun W (hW : Old w0 W) => (SubAt.old hW hs0).2.2.2)
 have HT0 := hid (fun W (hW : Old w0 W) => (⟨⟨⟨_, (SubAt.old hW hs0).2.2.2.1⟩, hW.keepF hs0.2.2.2.1 hf0.1⟩, ⟨⟨_, (SubAt.old hW hs0).2.2.2.2.1⟩, hW.keepF hs0.2.2.2.2.1 hf0.2.1⟩, ⟨⟨_, (SubAt.old hW hs0).2.2.2.2.2⟩, hW.keepF hs0.2.2.2.2.2 hf0.2.2⟩⟩ : Th m W))
 have hmb : m < w0.heap.size := by omega
 have HUm : Hid (∀ (W : World) (o : Nat) (v : Value), Old w W → Old w (W.setCell ⟨m, o, none⟩ v)) := fun W o v h => h.setCell (by show w.heap.size ≤ m; rw [HMm.out]; exact Nat.le_refl _) v
 have HRet : Hid (∀ W, Old w0 W → ∀ x y z : Value, (fun wx : World => SubAt (m + 1) 0 0 0 (.slice none 0 0) (.slice none 0 0) (.slice none 0 0) wx ∧ wx.frozen? ⟨m + 1, 0, none⟩ = false ∧ wx.frozen? ⟨m + 1, 1, none⟩ = false ∧ wx.frozen? ⟨m + 1, 2, none⟩ = false ∧ wx.frozen? ⟨m + 1, 3, none⟩ = false ∧ wx.frozen? ⟨m + 1, 4, none⟩ = false ∧ wx.frozen? ⟨m + 1, 5, none⟩ = false) (((W.setCell ⟨m, 3, none⟩ x).setCell ⟨m, 4, none⟩ y).setCell ⟨m, 5, none⟩ z)) := fun W hW x y z => by
  obtain ⟨⟨r0, r1, r2, r3, r4, r5⟩, f0, f1, f2', f3, f4, f5⟩ := HR1.out
  have F : ∀ (W : World) (o j : Nat) (u : Value), (W.setCell ⟨m, o, none⟩ u).cell? ⟨m + 1, j, none⟩ = W.cell? ⟨m + 1, j, none⟩ := fun W o j u => World.cell?_setCell_far W ⟨m, o, none⟩ ⟨m + 1, j, none⟩ u (by show m ≠ m + 1; omega)
  refine ⟨⟨?_, ?_, ?_, ?_, ?_, ?_⟩, ?_, ?_, ?_, ?_, ?_, ?_⟩
  ·rw [F, F, F]; exact hW.keep r0
  ·rw [F, F, F]; exact hW.keep r1
  ·rw [F, F, F]; exact hW.keep r2
  ·rw [F, F, F]; exact hW.keep r3
  ·rw [F, F, F]; exact hW.keep r4
  ·rw [F, F, F]; exact hW.keep r5
  ·simpa using hW.keepF r0 f0
  ·simpa using hW.keepF r1 f1
  ·simpa using hW.keepF r2 f2'
  ·simpa using hW.keepF r3 f3
  ·simpa using hW.keepF r4 f4
  ·simpa using hW.keepF r5 f5
 clear hs0 hf0 hw0 k1 k2 k3 HW0
 go_cut [] (fun wx => ∃ (p1 p2 p3 : Option Addr) (q1 q2 q3 : Nat), SubAt m s1 s2 s3 (.slice p1 L1.length q1) (.slice p2 L2.length q2) (.slice p3 L3.length q3) wx ∧ FOwn w0.heap.size wx (.slice p1 L1.length q1) L1 ∧ OwnS w0.heap.size wx (.slice p2 L2.length q2) L2 ∧ FOwn w0.heap.size wx (.slice p3 L3.length q3) L3 ∧ Old w wx ∧ (SubAt (m + 1) 0 0 0 (.slice none 0 0) (.slice none 0 0) (.slice none 0 0) wx ∧ wx.frozen? ⟨m + 1, 0, none⟩ = false ∧ wx.frozen? ⟨m + 1, 1, none⟩ = false ∧ wx.frozen? ⟨m + 1, 2, none⟩ = false ∧ wx.frozen? ⟨m + 1, 3, none⟩ = false ∧ wx.frozen? ⟨m + 1, 4, none⟩ = false ∧ wx.frozen? ⟨m + 1, 5, none⟩ = false))
 case first =>
  focus
   refine wp_region_noPanic ?_
   refine wp_region_held_drew (S := fun _ => True) (by kernel_rfl) ?_ (fun hHeld => ?_)
   ·exact trivial
   try simp only [Act.put, puA, puB, puC]
   clear hHeld
   all_goals
    refine atA [false, false, false, false, false, false, false, false, false, false, false, false, false, false, false] ?_
    refine tkA (i := 0) (oi := oWd0) trivial ?_
    try simp only [Act.put, puA, puB, puC]
    refine tkA (i := 3) (oi := oWd1) trivial ?_
    try simp only [Act.put, puA, puB, puC]
    refine tkA (i := 6) (oi := oWd2) trivial ?_
    try simp only [Act.put, puA, puB, puC]
    refine rdA [1, 4, 7] ?_
    refine AllReadyH.cons (o := oWd3) rfl (fun K hK => ?_) (AllReadyH.cons (o := oWd4) rfl (fun K hK => ?_) (AllReadyH.cons (o := oWd5) rfl (fun K hK => ?_) AllReadyH.nil))
    refine stepLoadFL ?_ (.tmp 3) ?_ m 3 a1 n1 c1 ?_ (HS0.out _ ((Old.refl w0).drew)).1 ?_
    iterate 3 rfl
    refine hK.out _ _ trivial (fun _ => ?_)
    clear hK K
    try simp only [Act.put, puA, puB, puC]
    rotate_left
    refine stepLoadSL ?_ (.tmp 6) ?_ m 4 a2 n2 c2 ?_ (HS0.out _ ((Old.refl w0).drew)).2.1 ?_
    iterate 3 rfl
    refine hK.out _ _ trivial (fun _ => ?_)
    clear hK K
    try simp only [Act.put, puA, puB, puC]
    rotate_left
    refine stepLoadFL ?_ (.tmp 9) ?_ m 5 a3 n3 c3 ?_ (HS0.out _ ((Old.refl w0).drew)).2.2 ?_
    iterate 3 rfl
    refine hK.out _ _ trivial (fun _ => ?_)
    clear hK K
    try simp only [Act.put, puA, puB, puC]
    rotate_left
   all_goals first
    |refine atA [true, true, false, true, false, false, true, false, false, false, false, false, false, false, false] ?_
     refine rdA [2, 4, 7] ?_
     refine AllReadyH.cons (o := oWd6) rfl (fun K hK => ?_) (AllReadyH.cons (o := oWd4) rfl (fun K hK => ?_) (AllReadyH.cons (o := oWd5) rfl (fun K hK => ?_) AllReadyH.nil))
     refine stepCall1 ?_ 55 (.tmp 4) #[30] ?_ (.slice a1 n1 c1) ?_ ?_ (ent_sort _ _) ?_
     iterate 4 rfl
     refine (K1.out _ ((Old.refl w0).drew)).mono ?_
     rintro o x100n ⟨r1, rfl, g1, u100n⟩
     obtain ⟨p1, q1, hr1⟩ := g1.len'
     subst hr1
     refine ⟨_, rfl, ?_⟩
     have U100n := ((Old.refl w0).drew).trans u100n
     replace g1 := g1.mono' ((Old.refl w0).drew).size
     refine hK.out _ _ trivial (fun _ => ?_)
     clear hK K
     try simp only [Act.put, puA, puB, puC]
     have UU_100 := U100n
     obtain ⟨xw_100, rfl⟩ : ∃ z, z = x100n := ⟨_, rfl⟩
     rotate_left
     refine stepLoadSL ?_ (.tmp 6) ?_ m 4 a2 n2 c2 ?_ (HS0.out _ ((Old.refl w0).drew)).2.1 ?_
     iterate 3 rfl
     refine hK.out _ _ trivial (fun _ => ?_)
     clear hK K
     try simp only [Act.put, puA, puB, puC]
     rotate_left
     refine stepLoadFL ?_ (.tmp 9) ?_ m 5 a3 n3 c3 ?_ (HS0.out _ ((Old.refl w0).drew)).2.2 ?_
     iterate 3 rfl
     refine hK.out _ _ trivial (fun _ => ?_)
     clear hK K
     try simp only [Act.put, puA, puB, puC]
     rotate_left
    |refine atA [true, false, false, true, true, false, true, false, false, false, false, false, false, false, false] ?_
     refine rdA [1, 7] ?_
     refine AllReadyH.cons (o := oWd3) rfl (fun K hK => ?_) (AllReadyH.cons (o := oWd5) rfl (fun K hK => ?_) AllReadyH.nil)
     refine stepLoadFL ?_ (.tmp 3) ?_ m 3 a1 n1 c1 ?_ (HS0.out _ ((Old.refl w0).drew)).1 ?_
     iterate 3 rfl
     refine hK.out _ _ trivial (fun _ => ?_)
     clear hK K
     try simp only [Act.put, puA, puB, puC]
     rotate_left
     refine stepLoadFL ?_ (.tmp 9) ?_ m 5 a3 n3 c3 ?_ (HS0.out _ ((Old.refl w0).drew)).2.2 ?_
     iterate 3 rfl
     refine hK.out _ _ trivial (fun _ => ?_)
     clear hK K
     try simp only [Act.put, puA, puB, puC]
     rotate_left
    |refine atA [true, false, false, true, false, false, true, true, false, false, false, false, false, false, false] ?_
     refine rdA [1, 4] ?_
     refine AllReadyH.cons (o := oWd3) rfl (fun K hK => ?_) (AllReadyH.cons (o := oWd4) rfl (fun K hK => ?_) AllReadyH.nil)
     refine stepLoadFL ?_ (.tmp 3) ?_ m 3 a1 n1 c1 ?_ (HS0.out _ ((Old.refl w0).drew)).1 ?_
     iterate 3 rfl
     refine hK.out _ _ trivial (fun _ => ?_)
     clear hK K
     try simp only [Act.put, puA, puB, puC]
     rotate_left
     refine stepLoadSL ?_ (.tmp 6) ?_ m 4 a2 n2 c2 ?_ (HS0.out _ ((Old.refl w0).drew)).2.1 ?_
     iterate 3 rfl
     refine hK.out _ _ trivial (fun _ => ?_)
     clear hK K
     try simp only [Act.put, puA, puB, puC]
     rotate_left
   all_goals first
    |refine atA [true, true, true, true, false, false, true, false, false, false, false, false, false, false, false] ?_
     refine rdA [4, 7] ?_
     refine AllReadyH.cons (o := oWd4) rfl (fun K hK => ?_) (AllReadyH.cons (o := oWd5) rfl (fun K hK => ?_) AllReadyH.nil)
     refine stepLoadSL ?_ (.tmp 6) ?_ m 4 a2 n2 c2 ?_ (HS0.out _ UU_100).2.1 ?_
     iterate 3 rfl
     refine hK.out _ _ trivial (fun _ => ?_)
     clear hK K
     try simp only [Act.put, puA, puB, puC]
     rotate_left
     refine stepLoadFL ?_ (.tmp 9) ?_ m 5 a3 n3 c3 ?_ (HS0.out _ UU_100).2.2 ?_
     iterate 3 rfl
     refine hK.out _ _ trivial (fun _ => ?_)
     clear hK K
     try simp only [Act.put, puA, puB, puC]
     rotate_left
    |refine atA [true, true, false, true, true, false, true, false, false, false, false, false, false, false, false] ?_
     refine rdA [2, 7] ?_
     refine AllReadyH.cons (o := oWd6) rfl (fun K hK => ?_) (AllReadyH.cons (o := oWd5) rfl (fun K hK => ?_) AllReadyH.nil)
     refine stepCall1 ?_ 55 (.tmp 4) #[30] ?_ (.slice a1 n1 c1) ?_ ?_ (ent_sort _ _) ?_
     iterate 4 rfl
     refine (K1.out _ ((Old.refl w0).drew)).mono ?_
     rintro o x100n ⟨r1, rfl, g1, u100n⟩
     obtain ⟨p1, q1, hr1⟩ := g1.len'
     subst hr1
     refine ⟨_, rfl, ?_⟩
     have U100n := ((Old.refl w0).drew).trans u100n
     replace g1 := g1.mono' ((Old.refl w0).drew).size
     refine hK.out _ _ trivial (fun _ => ?_)
     clear hK K
     try simp only [Act.put, puA, puB, puC]
     have UU_100 := U100n
     obtain ⟨xw_100, rfl⟩ : ∃ z, z = x100n := ⟨_, rfl⟩
     rotate_left
     refine stepLoadFL ?_ (.tmp 9) ?_ m 5 a3 n3 c3 ?_ (HS0.out _ ((Old.refl w0).drew)).2.2 ?_
     iterate 3 rfl
     refine hK.out _ _ trivial (fun _ => ?_)
     clear hK K
     try simp only [Act.put, puA, puB, puC]
     rotate_left
    |refine atA [true, true, false, true, false, false, true, true, false, false, false, false, false, false, false] ?_
     refine rdA [2, 4] ?_
     refine AllReadyH.cons (o := oWd6) rfl (fun K hK => ?_) (AllReadyH.cons (o := oWd4) rfl (fun K hK => ?_) AllReadyH.nil)
     refine stepCall1 ?_ 55 (.tmp 4) #[30] ?_ (.slice a1 n1 c1) ?_ ?_ (ent_sort _ _) ?_
     iterate 4 rfl
     refine (K1.out _ ((Old.refl w0).drew)).mono ?_
     rintro o x100n ⟨r1, rfl, g1, u100n⟩
     obtain ⟨p1, q1, hr1⟩ := g1.len'
     subst hr1
     refine ⟨_, rfl, ?_⟩
     have U100n := ((Old.refl w0).drew).trans u100n
     replace g1 := g1.mono' ((Old.refl w0).drew).size
     refine hK.out _ _ trivial (fun _ => ?_)
     clear hK K
     try simp only [Act.put, puA, puB, puC]
     have UU_100 := U100n
     obtain ⟨xw_100, rfl⟩ : ∃ z, z = x100n := ⟨_, rfl⟩
     rotate_left
     refine stepLoadSL ?_ (.tmp 6) ?_ m 4 a2 n2 c2 ?_ (HS0.out _ ((Old.refl w0).drew)).2.1 ?_
     iterate 3 rfl
     refine hK.out _ _ trivial (fun _ => ?_)
     clear hK K
     try simp only [Act.put, puA, puB, puC]
     rotate_left
    |refine atA [true, false, false, true, true, false, true, true, false, false, false, false, false, false, false] ?_
     refine rdA [1] ?_
     refine AllReadyH.cons (o := oWd3) rfl (fun K hK => ?_) AllReadyH.nil
     refine stepLoadFL ?_ (.tmp 3) ?_ m 3 a1 n1 c1 ?_ (HS0.out _ ((Old.refl w0).drew)).1 ?_
     iterate 3 rfl
     refine hK.out _ _ trivial (fun _ => ?_)
     clear hK K
     try simp only [Act.put, puA, puB, puC]
   all_goals first
    |refine atA [true, true, true, true, true, false, true, false, false, false, false, false, false, false, false] ?_
     refine rdA [5, 7] ?_
     refine AllReadyH.cons (o := oWd7) rfl (fun K hK => ?_) (AllReadyH.cons (o := oWd5) rfl (fun K hK => ?_) AllReadyH.nil)
     refine stepCall1 ?_ 56 (.tmp 7) #[31] ?_ (.slice a2 n2 c2) ?_ ?_ (ent_norm _ _) ?_
     iterate 4 rfl
     refine (K2.out _ UU_100).mono ?_
     rintro o x100n ⟨r2, rfl, g2, u100n⟩
     obtain ⟨p2, q2, hr2⟩ := g2.len'
     subst hr2
     refine ⟨_, rfl, ?_⟩
     have U100n := UU_100.trans u100n
     replace g1 := g1.old u100n
     replace g2 := g2.mono' UU_100.size
     refine hK.out _ _ trivial (fun _ => ?_)
     clear hK K
     try simp only [Act.put, puA, puB, puC]
     have UU_100 := U100n
     obtain ⟨xw_100, rfl⟩ : ∃ z, z = x100n := ⟨_, rfl⟩
     rotate_left
     refine stepLoadFL ?_ (.tmp 9) ?_ m 5 a3 n3 c3 ?_ (HS0.out _ UU_100).2.2 ?_
     iterate 3 rfl
     refine hK.out _ _ trivial (fun _ => ?_)
     clear hK K
     try simp only [Act.put, puA, puB, puC]
     rotate_left
    |refine atA [true, true, true, true, false, false, true, true, false, false, false, false, false, false, false] ?_
     refine rdA [4] ?_
     refine AllReadyH.cons (o := oWd4) rfl (fun K hK => ?_) AllReadyH.nil
     refine stepLoadSL ?_ (.tmp 6) ?_ m 4 a2 n2 c2 ?_ (HS0.out _ UU_100).2.1 ?_
     iterate 3 rfl
     refine hK.out _ _ trivial (fun _ => ?_)
     clear hK K
     try simp only [Act.put, puA, puB, puC]
    |refine atA [true, true, false, true, true, false, true, true, false, false, false, false, false, false, false] ?_
     refine rdA [2] ?_
     refine AllReadyH.cons (o := oWd6) rfl (fun K hK => ?_) AllReadyH.nil
     refine stepCall1 ?_ 55 (.tmp 4) #[30] ?_ (.slice a1 n1 c1) ?_ ?_ (ent_sort _ _) ?_
     iterate 4 rfl
     refine (K1.out _ ((Old.refl w0).drew)).mono ?_
     rintro o x100n ⟨r1, rfl, g1, u100n⟩
     obtain ⟨p1, q1, hr1⟩ := g1.len'
     subst hr1
     refine ⟨_, rfl, ?_⟩
     have U100n := ((Old.refl w0).drew).trans u100n
     replace g1 := g1.mono' ((Old.refl w0).drew).size
     refine hK.out _ _ trivial (fun _ => ?_)
     clear hK K
     try simp only [Act.put, puA, puB, puC]
     have UU_100 := U100n
     obtain ⟨xw_100, rfl⟩ : ∃ z, z = x100n := ⟨_, rfl⟩
   all_goals first
    |refine atA [true, true, true, true, true, true, true, false, false, false, false, false, false, false, false] ?_
     refine rdA [7] ?_
     refine AllReadyH.cons (o := oWd5) rfl (fun K hK => ?_) AllReadyH.nil
     refine stepLoadFL ?_ (.tmp 9) ?_ m 5 a3 n3 c3 ?_ (HS0.out _ UU_100).2.2 ?_
     iterate 3 rfl
     refine hK.out _ _ trivial (fun _ => ?_)
     clear hK K
     try simp only [Act.put, puA, puB, puC]
    |refine atA [true, true, true, true, true, false, true, true, false, false, false, false, false, false, false] ?_
     refine tkA (i := 9) (oi := oWd8) trivial ?_
     try simp only [Act.put, puA, puB, puC]
     refine rdA [5] ?_
     refine AllReadyH.cons (o := oWd7) rfl (fun K hK => ?_) AllReadyH.nil
     refine stepCall1 ?_ 56 (.tmp 7) #[31] ?_ (.slice a2 n2 c2) ?_ ?_ (ent_norm _ _) ?_
     iterate 4 rfl
     refine (K2.out _ UU_100).mono ?_
     rintro o x100n ⟨r2, rfl, g2, u100n⟩
     obtain ⟨p2, q2, hr2⟩ := g2.len'
     subst hr2
     refine ⟨_, rfl, ?_⟩
     have U100n := UU_100.trans u100n
     replace g1 := g1.old u100n
     replace g2 := g2.mono' UU_100.size
     refine hK.out _ _ trivial (fun _ => ?_)
     clear hK K
     try simp only [Act.put, puA, puB, puC]
     have UU_100 := U100n
     obtain ⟨xw_100, rfl⟩ : ∃ z, z = x100n := ⟨_, rfl⟩
   all_goals first
    |refine atA [true, true, true, true, true, true, true, true, false, false, false, false, false, false, false] ?_
     refine tkA (i := 9) (oi := oWd8) trivial ?_
     try simp only [Act.put, puA, puB, puC]
     refine rdA [8] ?_
     refine AllReadyH.cons (o := oWd9) rfl (fun K hK => ?_) AllReadyH.nil
     refine stepCall1 ?_ 55 (.tmp 10) #[30] ?_ (.slice a3 n3 c3) ?_ ?_ (ent_sort _ _) ?_
     iterate 4 rfl
     refine (K3.out _ UU_100).mono ?_
     rintro o x100n ⟨r3, rfl, g3, u100n⟩
     obtain ⟨p3, q3, hr3⟩ := g3.len'
     subst hr3
     refine ⟨_, rfl, ?_⟩
     have U100n := UU_100.trans u100n
     replace g1 := g1.old u100n
     replace g2 := g2.old u100n
     replace g3 := g3.mono' UU_100.size
     refine hK.out _ _ trivial (fun _ => ?_)
     clear hK K
     try simp only [Act.put, puA, puB, puC]
     have UU_100 := U100n
     obtain ⟨xw_100, rfl⟩ : ∃ z, z = x100n := ⟨_, rfl⟩
    |refine atA [true, true, true, true, true, true, true, true, false, true, false, false, false, false, false] ?_
     refine rdA [8] ?_
     refine AllReadyH.cons (o := oWd9) rfl (fun K hK => ?_) AllReadyH.nil
     refine stepCall1 ?_ 55 (.tmp 10) #[30] ?_ (.slice a3 n3 c3) ?_ ?_ (ent_sort _ _) ?_
     iterate 4 rfl
     refine (K3.out _ UU_100).mono ?_
     rintro o x100n ⟨r3, rfl, g3, u100n⟩
     obtain ⟨p3, q3, hr3⟩ := g3.len'
     subst hr3
     refine ⟨_, rfl, ?_⟩
     have U100n := UU_100.trans u100n
     replace g1 := g1.old u100n
     replace g2 := g2.old u100n
     replace g3 := g3.mono' UU_100.size
     refine hK.out _ _ trivial (fun _ => ?_)
     clear hK K
     try simp only [Act.put, puA, puB, puC]
     have UU_100 := U100n
     obtain ⟨xw_100, rfl⟩ : ∃ z, z = x100n := ⟨_, rfl⟩
   all_goals
    refine atA [true, true, true, true, true, true, true, true, true, true, false, false, false, false, false] ?_
    refine rdA [10] ?_
    refine AllReadyH.cons (o := oWd10) rfl (fun K hK => ?_) AllReadyH.nil
    refine stepStoreFL ?_ (.tmp 12) (.tmp 5) ?_ m 3 p1 L1.length q1 ?_ ?_ (HT0.out _ UU_100).t3 ?_
    iterate 4 rfl
    refine hK.out _ _ trivial (fun _ => ?_)
    clear hK K
    try simp only [Act.put, puA, puB, puC]
   all_goals
    refine atA [true, true, true, true, true, true, true, true, true, true, true, false, false, false, false] ?_
    refine tkA (i := 11) (oi := oWd11) trivial ?_
    try simp only [Act.put, puA, puB, puC]
    refine rdA [12] ?_
    refine AllReadyH.cons (o := oWd12) rfl (fun K hK => ?_) AllReadyH.nil
    refine stepStoreSL ?_ (.tmp 13) (.tmp 8) ?_ m 4 p2 L2.length q2 ?_ ?_ ((HT0.out _ UU_100).set _ _).t4 ?_
    iterate 4 rfl
    refine hK.out _ _ trivial (fun _ => ?_)
    clear hK K
    try simp only [Act.put, puA, puB, puC]
   all_goals
    refine atA [true, true, true, true, true, true, true, true, true, true, true, true, true, false, false] ?_
    refine tkA (i := 13) (oi := oWd13) trivial ?_
    try simp only [Act.put, puA, puB, puC]
    refine rdA [14] ?_
    refine AllReadyH.cons (o := oWd14) rfl (fun K hK => ?_) AllReadyH.nil
    refine stepStoreFL ?_ (.tmp 14) (.tmp 11) ?_ m 5 p3 L3.length q3 ?_ ?_ (((HT0.out _ UU_100).set _ _).set _ _).t5 ?_
    iterate 4 rfl
    refine hK.out _ _ trivial (fun _ => ?_)
    clear hK K
    try simp only [Act.put, puA, puB, puC]
   all_goals
    refine atA [true, true, true, true, true, true, true, true, true, true, true, true, true, true, true] ?_
    refine wpAnyH_done (by kernel_rfl) ?_ _
    refine NoPanic.normal ?_
    go_wp2_with fail
    go_meet
    case rel => exact ⟨_, _, _, _, _, _, SubAt.set3 (HS1.out _ UU_100) _ _ _, g1.set3 hmb _ _ _, g2.set3 hmb _ _ _, g3.set3 hmb _ _ _, HUm.out _ _ _ (HUm.out _ _ _ (HUm.out _ _ _ (U0.trans UU_100))), HRet.out _ UU_100 _ _ _⟩
 case rest =>
  obtain ⟨p1, p2, p3, q1, q2, q3, ⟨h0, h1, h2, h3, h4, h5⟩, g1, g2, g3, hu, ⟨r0, r1, r2, r3, r4, r5⟩, f0, f1, f2', f3, f4, f5⟩ := hcut
  have hb2 : m + 1 < w0.heap.size := by omega
  have G1 := hid g1
  have G2 := hid g2
  have G3 := hid g3
  have HU := hid hu
  clear g1 g2 g3 hu K1 K2 K3 HR1 HRet HS0 HS1 HT0 HUm
  have hwm : w.heap.size = m := HMm.out
  go_wp2
  refine bodyPost_ret (v := .agg #[.int .i64 s1, .int .i64 s2, .int .i64 s3, .slice p1 L1.length q1, .slice p2 L2.length q2, .slice p3 L3.length q3]) (by simp [results, Tryz.results32, go_sem, *]) rfl ⟨p1, p2, p3, q1, q2, q3, by rfl, ?_, ?_, ?_, ?_⟩
  ·exact ((((((G1.out.set1 hb2 _ _).set1 hb2 _ _).set1 hb2 _ _).set1 hb2 _ _).set1 hb2 _ _).set1 hb2 _ _).mono' (by omega)
  ·exact OwnS.mono (ownsRow_setCell_below (ownsRow_setCell_below (ownsRow_setCell_below (ownsRow_setCell_below (ownsRow_setCell_below (ownsRow_setCell_below G2.out hb2 _) hb2 _) hb2 _) hb2 _) hb2 _) hb2 _) (by omega)
  ·exact ((((((G3.out.set1 hb2 _ _).set1 hb2 _ _).set1 hb2 _ _).set1 hb2 _ _).set1 hb2 _ _).set1 hb2 _ _).mono' (by omega)
  ·have hx : w.heap.size ≤ m + 1 := by omega
   exact (((((HU.out.setCell hx _).setCell hx _).setCell hx _).setCell hx _).setCell hx _).setCell hx _
end Go.Proofs.YthjfkmjeppdcnaaGreat
namespace Go.Proofs.YthjfkmjeppdcnaaGreat
set_option linter.unusedSimpArgs false
open Go.RowKit
set_option linter.unusedVariables false
attribute [local go_sem] run_bits run_frombits run_store_float eqF
def canC (m c k z : Bool) : Int := if m = true then 43 else if c = true then 3 else if k = true then 40 else if z = true then 41 else 0
def CanPost (P : Option Addr → Option Addr → Option Addr → Nat → Nat → Nat → World → Prop) (s1 s2 s3 : Int) (m1 m2 m3 : Nat) (cc : Int) (w : World) (e : Ending) (w' : World) : Prop := ∃ (p1 p2 p3 : Option Addr) (q1 q2 q3 : Nat), (if cc = 0 then e = .returned (.tuple #[.agg #[.int .i64 s1, .int .i64 s2, .int .i64 s3, .slice p1 m1 q1, .slice p2 m2 q2, .slice p3 m3 q3], .int .i64 0]) else e = .returned (.tuple #[.agg #[.int .i64 0, .int .i64 0, .int .i64 0, .slice none 0 0, .slice none 0 0, .slice none 0 0], .int .i64 (cc)])) ∧ P p1 p2 p3 q1 q2 q3 w' ∧ Old w w'
set_option maxHeartbeats 8000000 in
set_option maxRecDepth 20000 in
theorem canon_core (s1 s2 s3 : Int) (a1 a2 a3 : Option Addr) (n1 n2 n3 c1 c2 c3 m1 m2 m3 : Nat) (m c k z : Bool) (w : World) (P : Option Addr → Option Addr → Option Addr → Nat → Nat → Nat → World → Prop) (hP : ∀ p1 p2 p3 q1 q2 q3 W W', P p1 p2 p3 q1 q2 q3 W → Old W W' → P p1 p2 p3 q1 q2 q3 W') (hP2 : ∀ p1 p2 p3 q1 q2 q3 W o v, P p1 p2 p3 q1 q2 q3 W → P p1 p2 p3 q1 q2 q3 (W.setCell ⟨w.heap.size + 1, o, none⟩ v))
    (HF : Hid (∀ W, Old w W → w.heap.size + 2 ≤ W.heap.size → Calls Tryz.prog 32 #[.agg #[.int .i64 s1, .int .i64 s2, .int .i64 s3, .slice a1 n1 c1, .slice a2 n2 c2, .slice a3 n3 c3]] W fun e w' => ∃ (p1 p2 p3 : Option Addr) (q1 q2 q3 : Nat), e = .returned (.agg #[.int .i64 s1, .int .i64 s2, .int .i64 s3, .slice p1 m1 q1, .slice p2 m2 q2, .slice p3 m3 q3]) ∧ P p1 p2 p3 q1 q2 q3 w' ∧ Old W w'))
    (HM : Hid (∀ (p1 p2 p3 : Option Addr) (q1 q2 q3 : Nat) W, P p1 p2 p3 q1 q2 q3 W → Calls Tryz.prog 33 #[.agg #[.int .i64 s1, .int .i64 s2, .int .i64 s3, .slice p1 m1 q1, .slice p2 m2 q2, .slice p3 m3 q3]] W fun e w' => e = .returned (.bool m) ∧ Old W w'))
    (HC : Hid (∀ (p1 p2 p3 : Option Addr) (q1 q2 q3 : Nat) W, P p1 p2 p3 q1 q2 q3 W → Calls Tryz.prog 34 #[.agg #[.int .i64 s1, .int .i64 s2, .int .i64 s3, .slice p1 m1 q1, .slice p2 m2 q2, .slice p3 m3 q3]] W fun e w' => e = .returned (.bool c) ∧ Old W w'))
    (HK : Hid (∀ (p1 p2 p3 : Option Addr) (q1 q2 q3 : Nat) W, P p1 p2 p3 q1 q2 q3 W → Calls Tryz.prog 35 #[.agg #[.int .i64 s1, .int .i64 s2, .int .i64 s3, .slice p1 m1 q1, .slice p2 m2 q2, .slice p3 m3 q3]] W fun e w' => e = .returned (.bool k) ∧ Old W w'))
    (HZ : Hid (∀ W, Old w W → Calls Tryz.prog 36 #[.slice a2 n2 c2, .func (.func 37) #[] #[]] W fun e w' => e = .returned (.bool z) ∧ Old W w')) :
    Calls Tryz.prog 22 #[.agg #[.int .i64 s1, .int .i64 s2, .int .i64 s3, .slice a1 n1 c1, .slice a2 n2 c2, .slice a3 n3 c3]] w fun e w' => CanPost P s1 s2 s3 m1 m2 m3 (canC m c k z) w e w' := by
 have HP := hid hP
 have HP2 := hid hP2
 clear hP hP2
 have HS0 : Hid (SubAt w.heap.size s1 s2 s3 (.slice a1 n1 c1) (.slice a2 n2 c2) (.slice a3 n3 c3) ((w.alloc (.cells #[.int .i64 s1, .int .i64 s2, .int .i64 s3, .slice a1 n1 c1, .slice a2 n2 c2, .slice a3 n3 c3] 33)).alloc (.cells #[.int .i64 0, .int .i64 0, .int .i64 0, .slice none 0 0, .slice none 0 0, .slice none 0 0] 33))) := by show SubAt _ _ _ _ _ _ _ _; simp [SubAt]
 have HR0 : Hid (SubAt (w.heap.size + 1) 0 0 0 (.slice none 0 0) (.slice none 0 0) (.slice none 0 0) ((w.alloc (.cells #[.int .i64 s1, .int .i64 s2, .int .i64 s3, .slice a1 n1 c1, .slice a2 n2 c2, .slice a3 n3 c3] 33)).alloc (.cells #[.int .i64 0, .int .i64 0, .int .i64 0, .slice none 0 0, .slice none 0 0, .slice none 0 0] 33)) ∧ (fun W : World => W.frozen? ⟨w.heap.size + 1, 0, none⟩ = false ∧ W.frozen? ⟨w.heap.size + 1, 1, none⟩ = false ∧ W.frozen? ⟨w.heap.size + 1, 2, none⟩ = false ∧ W.frozen? ⟨w.heap.size + 1, 3, none⟩ = false ∧ W.frozen? ⟨w.heap.size + 1, 4, none⟩ = false ∧ W.frozen? ⟨w.heap.size + 1, 5, none⟩ = false) ((w.alloc (.cells #[.int .i64 s1, .int .i64 s2, .int .i64 s3, .slice a1 n1 c1, .slice a2 n2 c2, .slice a3 n3 c3] 33)).alloc (.cells #[.int .i64 0, .int .i64 0, .int .i64 0, .slice none 0 0, .slice none 0 0, .slice none 0 0] 33))) := by show _ ∧ _; simp [SubAt]
 have hres : w.heap.size ≤ w.heap.size + 1 := by omega
 cases m
 ·cases c
  ·cases k
   ·cases z
    ·have e0 : canC false false false false = 0 := rfl
     have HE := hid e0
     clear e0
     go_enter Tryz.func22, Tryz.ntmps22
     go_wp2_with (first | (go_at_call 32; refine (HF.out _ (((Old.refl w).alloc _).alloc _) (by simp)).mono ?_; rintro e w1 ⟨p1, p2, p3, q1, q2, q3, rfl, P1, u1⟩; have U1 := hid ((((Old.refl w).alloc _).alloc _).trans u1); have S1 := hid (SubAt.old u1 HS0.out); have R1 := hid (SubAt.old u1 HR0.out.1); have F1 := hid (And.intro (u1.keepF HR0.out.1.1 HR0.out.2.1) (And.intro (u1.keepF HR0.out.1.2.1 HR0.out.2.2.1) (And.intro (u1.keepF HR0.out.1.2.2.1 HR0.out.2.2.2.1) (And.intro (u1.keepF HR0.out.1.2.2.2.1 HR0.out.2.2.2.2.1) (And.intro (u1.keepF HR0.out.1.2.2.2.2.1 HR0.out.2.2.2.2.2.1) (u1.keepF HR0.out.1.2.2.2.2.2 HR0.out.2.2.2.2.2.2)))))); clear u1) | (go_at_call 33; refine (HM.out _ _ _ _ _ _ _ (HP.out _ _ _ _ _ _ _ _ P1 ((Old.refl _).alloc _))).mono ?_; rintro e w2 ⟨rfl, u2⟩; have V2 := hid (((Old.refl w1).alloc _).trans u2); have U2 := hid (U1.out.trans V2.out); have P2 := hid (HP.out _ _ _ _ _ _ _ _ P1 V2.out); have hfx := SubAt.old u2 (show SubAt w1.heap.size s1 s2 s3 (.slice p1 m1 q1) (.slice p2 m2 q2) (.slice p3 m3 q3) _ by simp [SubAt]); obtain ⟨f0, f1, f2, f3, f4, f5⟩ := hfx; have FX := hid (And.intro f0 (And.intro f1 (And.intro f2 (And.intro f3 (And.intro f4 f5))))); obtain ⟨r0, r1, r2, r3, r4, r5⟩ := SubAt.old V2.out R1.out; obtain ⟨z0, z1, z2, z3, z4, z5⟩ := F1.out; replace z0 := V2.out.keepF R1.out.1 z0; replace z1 := V2.out.keepF R1.out.2.1 z1; replace z2 := V2.out.keepF R1.out.2.2.1 z2; replace z3 := V2.out.keepF R1.out.2.2.2.1 z3; replace z4 := V2.out.keepF R1.out.2.2.2.2.1 z4; replace z5 := V2.out.keepF R1.out.2.2.2.2.2 z5; clear u2) | (go_at_call 34; refine (HC.out _ _ _ _ _ _ _ P2.out).mono ?_; rintro e w3 ⟨rfl, u3⟩; have V3 := hid u3; have U3 := hid (U2.out.trans u3); have P3 := hid (HP.out _ _ _ _ _ _ _ _ P2.out u3); obtain ⟨f0', f1', f2', f3', f4', f5'⟩ := SubAt.old u3 FX.out; have r0' := u3.keep r0; have r1' := u3.keep r1; have r2' := u3.keep r2; have r3' := u3.keep r3; have r4' := u3.keep r4; have r5' := u3.keep r5; have z0' := u3.keepF r0 z0; have z1' := u3.keepF r1 z1; have z2' := u3.keepF r2 z2; have z3' := u3.keepF r3 z3; have z4' := u3.keepF r4 z4; have z5' := u3.keepF r5 z5; clear u3 f0 f1 f2 f3 f4 f5 r0 r1 r2 r3 r4 r5 z0 z1 z2 z3 z4 z5) | (go_at_call 35; refine (HK.out _ _ _ _ _ _ _ P3.out).mono ?_; rintro e w4 ⟨rfl, u4⟩; have V4 := hid u4; have U4 := hid (U3.out.trans u4); have P4 := hid (HP.out _ _ _ _ _ _ _ _ P3.out u4); obtain ⟨f0, f1, f2, f3, f4, f5⟩ := SubAt.old (V3.out.trans u4) FX.out; have r0 := u4.keep r0'; have r1 := u4.keep r1'; have r2 := u4.keep r2'; have r3 := u4.keep r3'; have r4 := u4.keep r4'; have r5 := u4.keep r5'; have z0 := u4.keepF r0' z0'; have z1 := u4.keepF r1' z1'; have z2 := u4.keepF r2' z2'; have z3 := u4.keepF r3' z3'; have z4 := u4.keepF r4' z4'; have z5 := u4.keepF r5' z5'; have sx := (SubAt.old ((V2.out.trans V3.out).trans u4) S1.out).2.2.2.2.1; clear u4 f0' f1' f2' f3' f4' f5' r0' r1' r2' r3' r4' r5' z0' z1' z2' z3' z4' z5') | (go_at_call 36; refine (HZ.out _ U4.out).mono ?_; rintro e w5 ⟨rfl, u5⟩; have U5 := hid (U4.out.trans u5); have P5 := hid (HP.out _ _ _ _ _ _ _ _ P4.out u5); obtain ⟨f0', f1', f2', f3', f4', f5'⟩ := SubAt.old ((V3.out.trans V4.out).trans u5) FX.out; have r0' := u5.keep r0; have r1' := u5.keep r1; have r2' := u5.keep r2; have r3' := u5.keep r3; have r4' := u5.keep r4; have r5' := u5.keep r5; have z0' := u5.keepF r0 z0; have z1' := u5.keepF r1 z1; have z2' := u5.keepF r2 z2; have z3' := u5.keepF r3 z3; have z4' := u5.keepF r4 z4; have z5' := u5.keepF r5 z5; clear u5 f0 f1 f2 f3 f4 f5 r0 r1 r2 r3 r4 r5 z0 z1 z2 z3 z4 z5))
     refine bodyPost_ret (v := .tuple #[.agg #[.int .i64 s1, .int .i64 s2, .int .i64 s3, .slice p1 m1 q1, .slice p2 m2 q2, .slice p3 m3 q3], .int .i64 0]) (by simp [results, Tryz.results22, go_sem, *]) rfl (by unfold CanPost; exact ⟨p1, p2, p3, q1, q2, q3, by first | rfl | (rw [if_pos HE.out]), (HP2.out _ _ _ _ _ _ _ _ _ (HP2.out _ _ _ _ _ _ _ _ _ (HP2.out _ _ _ _ _ _ _ _ _ (HP2.out _ _ _ _ _ _ _ _ _ (HP2.out _ _ _ _ _ _ _ _ _ (HP2.out _ _ _ _ _ _ _ _ _ (P5.out))))))), ((((((U5.out).setCell hres _).setCell hres _).setCell hres _).setCell hres _).setCell hres _).setCell hres _⟩)
    ·have e0 : ¬ canC false false false true = 0 := by unfold canC; simp
     have HE := hid e0
     clear e0
     go_enter Tryz.func22, Tryz.ntmps22
     go_wp2_with (first | (go_at_call 32; refine (HF.out _ (((Old.refl w).alloc _).alloc _) (by simp)).mono ?_; rintro e w1 ⟨p1, p2, p3, q1, q2, q3, rfl, P1, u1⟩; have U1 := hid ((((Old.refl w).alloc _).alloc _).trans u1); have S1 := hid (SubAt.old u1 HS0.out); have R1 := hid (SubAt.old u1 HR0.out.1); have F1 := hid (And.intro (u1.keepF HR0.out.1.1 HR0.out.2.1) (And.intro (u1.keepF HR0.out.1.2.1 HR0.out.2.2.1) (And.intro (u1.keepF HR0.out.1.2.2.1 HR0.out.2.2.2.1) (And.intro (u1.keepF HR0.out.1.2.2.2.1 HR0.out.2.2.2.2.1) (And.intro (u1.keepF HR0.out.1.2.2.2.2.1 HR0.out.2.2.2.2.2.1) (u1.keepF HR0.out.1.2.2.2.2.2 HR0.out.2.2.2.2.2.2)))))); clear u1) | (go_at_call 33; refine (HM.out _ _ _ _ _ _ _ (HP.out _ _ _ _ _ _ _ _ P1 ((Old.refl _).alloc _))).mono ?_; rintro e w2 ⟨rfl, u2⟩; have V2 := hid (((Old.refl w1).alloc _).trans u2); have U2 := hid (U1.out.trans V2.out); have P2 := hid (HP.out _ _ _ _ _ _ _ _ P1 V2.out); have hfx := SubAt.old u2 (show SubAt w1.heap.size s1 s2 s3 (.slice p1 m1 q1) (.slice p2 m2 q2) (.slice p3 m3 q3) _ by simp [SubAt]); obtain ⟨f0, f1, f2, f3, f4, f5⟩ := hfx; have FX := hid (And.intro f0 (And.intro f1 (And.intro f2 (And.intro f3 (And.intro f4 f5))))); obtain ⟨r0, r1, r2, r3, r4, r5⟩ := SubAt.old V2.out R1.out; obtain ⟨z0, z1, z2, z3, z4, z5⟩ := F1.out; replace z0 := V2.out.keepF R1.out.1 z0; replace z1 := V2.out.keepF R1.out.2.1 z1; replace z2 := V2.out.keepF R1.out.2.2.1 z2; replace z3 := V2.out.keepF R1.out.2.2.2.1 z3; replace z4 := V2.out.keepF R1.out.2.2.2.2.1 z4; replace z5 := V2.out.keepF R1.out.2.2.2.2.2 z5; clear u2) | (go_at_call 34; refine (HC.out _ _ _ _ _ _ _ P2.out).mono ?_; rintro e w3 ⟨rfl, u3⟩; have V3 := hid u3; have U3 := hid (U2.out.trans u3); have P3 := hid (HP.out _ _ _ _ _ _ _ _ P2.out u3); obtain ⟨f0', f1', f2', f3', f4', f5'⟩ := SubAt.old u3 FX.out; have r0' := u3.keep r0; have r1' := u3.keep r1; have r2' := u3.keep r2; have r3' := u3.keep r3; have r4' := u3.keep r4; have r5' := u3.keep r5; have z0' := u3.keepF r0 z0; have z1' := u3.keepF r1 z1; have z2' := u3.keepF r2 z2; have z3' := u3.keepF r3 z3; have z4' := u3.keepF r4 z4; have z5' := u3.keepF r5 z5; clear u3 f0 f1 f2 f3 f4 f5 r0 r1 r2 r3 r4 r5 z0 z1 z2 z3 z4 z5) | (go_at_call 35; refine (HK.out _ _ _ _ _ _ _ P3.out).mono ?_; rintro e w4 ⟨rfl, u4⟩; have V4 := hid u4; have U4 := hid (U3.out.trans u4); have P4 := hid (HP.out _ _ _ _ _ _ _ _ P3.out u4); obtain ⟨f0, f1, f2, f3, f4, f5⟩ := SubAt.old (V3.out.trans u4) FX.out; have r0 := u4.keep r0'; have r1 := u4.keep r1'; have r2 := u4.keep r2'; have r3 := u4.keep r3'; have r4 := u4.keep r4'; have r5 := u4.keep r5'; have z0 := u4.keepF r0' z0'; have z1 := u4.keepF r1' z1'; have z2 := u4.keepF r2' z2'; have z3 := u4.keepF r3' z3'; have z4 := u4.keepF r4' z4'; have z5 := u4.keepF r5' z5'; have sx := (SubAt.old ((V2.out.trans V3.out).trans u4) S1.out).2.2.2.2.1; clear u4 f0' f1' f2' f3' f4' f5' r0' r1' r2' r3' r4' r5' z0' z1' z2' z3' z4' z5') | (go_at_call 36; refine (HZ.out _ U4.out).mono ?_; rintro e w5 ⟨rfl, u5⟩; have U5 := hid (U4.out.trans u5); have P5 := hid (HP.out _ _ _ _ _ _ _ _ P4.out u5); obtain ⟨f0', f1', f2', f3', f4', f5'⟩ := SubAt.old ((V3.out.trans V4.out).trans u5) FX.out; have r0' := u5.keep r0; have r1' := u5.keep r1; have r2' := u5.keep r2; have r3' := u5.keep r3; have r4' := u5.keep r4; have r5' := u5.keep r5; have z0' := u5.keepF r0 z0; have z1' := u5.keepF r1 z1; have z2' := u5.keepF r2 z2; have z3' := u5.keepF r3 z3; have z4' := u5.keepF r4 z4; have z5' := u5.keepF r5 z5; clear u5 f0 f1 f2 f3 f4 f5 r0 r1 r2 r3 r4 r5 z0 z1 z2 z3 z4 z5))
     refine bodyPost_ret (v := .tuple #[.agg #[.int .i64 0, .int .i64 0, .int .i64 0, .slice none 0 0, .slice none 0 0, .slice none 0 0], .int .i64 41]) (by simp [results, Tryz.results22, go_sem, *]) rfl (by unfold CanPost; exact ⟨p1, p2, p3, q1, q2, q3, by first | rfl | (rw [if_neg HE.out]; rfl), (HP2.out _ _ _ _ _ _ _ _ _ (HP2.out _ _ _ _ _ _ _ _ _ (HP2.out _ _ _ _ _ _ _ _ _ (HP2.out _ _ _ _ _ _ _ _ _ (HP2.out _ _ _ _ _ _ _ _ _ (HP2.out _ _ _ _ _ _ _ _ _ (P5.out))))))), ((((((U5.out).setCell hres _).setCell hres _).setCell hres _).setCell hres _).setCell hres _).setCell hres _⟩)
   ·have e0 : ¬ canC false false true z = 0 := by unfold canC; simp
    have HE := hid e0
    clear e0
    go_enter Tryz.func22, Tryz.ntmps22
    go_wp2_with (first | (go_at_call 32; refine (HF.out _ (((Old.refl w).alloc _).alloc _) (by simp)).mono ?_; rintro e w1 ⟨p1, p2, p3, q1, q2, q3, rfl, P1, u1⟩; have U1 := hid ((((Old.refl w).alloc _).alloc _).trans u1); have S1 := hid (SubAt.old u1 HS0.out); have R1 := hid (SubAt.old u1 HR0.out.1); have F1 := hid (And.intro (u1.keepF HR0.out.1.1 HR0.out.2.1) (And.intro (u1.keepF HR0.out.1.2.1 HR0.out.2.2.1) (And.intro (u1.keepF HR0.out.1.2.2.1 HR0.out.2.2.2.1) (And.intro (u1.keepF HR0.out.1.2.2.2.1 HR0.out.2.2.2.2.1) (And.intro (u1.keepF HR0.out.1.2.2.2.2.1 HR0.out.2.2.2.2.2.1) (u1.keepF HR0.out.1.2.2.2.2.2 HR0.out.2.2.2.2.2.2)))))); clear u1) | (go_at_call 33; refine (HM.out _ _ _ _ _ _ _ (HP.out _ _ _ _ _ _ _ _ P1 ((Old.refl _).alloc _))).mono ?_; rintro e w2 ⟨rfl, u2⟩; have V2 := hid (((Old.refl w1).alloc _).trans u2); have U2 := hid (U1.out.trans V2.out); have P2 := hid (HP.out _ _ _ _ _ _ _ _ P1 V2.out); have hfx := SubAt.old u2 (show SubAt w1.heap.size s1 s2 s3 (.slice p1 m1 q1) (.slice p2 m2 q2) (.slice p3 m3 q3) _ by simp [SubAt]); obtain ⟨f0, f1, f2, f3, f4, f5⟩ := hfx; have FX := hid (And.intro f0 (And.intro f1 (And.intro f2 (And.intro f3 (And.intro f4 f5))))); obtain ⟨r0, r1, r2, r3, r4, r5⟩ := SubAt.old V2.out R1.out; obtain ⟨z0, z1, z2, z3, z4, z5⟩ := F1.out; replace z0 := V2.out.keepF R1.out.1 z0; replace z1 := V2.out.keepF R1.out.2.1 z1; replace z2 := V2.out.keepF R1.out.2.2.1 z2; replace z3 := V2.out.keepF R1.out.2.2.2.1 z3; replace z4 := V2.out.keepF R1.out.2.2.2.2.1 z4; replace z5 := V2.out.keepF R1.out.2.2.2.2.2 z5; clear u2) | (go_at_call 34; refine (HC.out _ _ _ _ _ _ _ P2.out).mono ?_; rintro e w3 ⟨rfl, u3⟩; have V3 := hid u3; have U3 := hid (U2.out.trans u3); have P3 := hid (HP.out _ _ _ _ _ _ _ _ P2.out u3); obtain ⟨f0', f1', f2', f3', f4', f5'⟩ := SubAt.old u3 FX.out; have r0' := u3.keep r0; have r1' := u3.keep r1; have r2' := u3.keep r2; have r3' := u3.keep r3; have r4' := u3.keep r4; have r5' := u3.keep r5; have z0' := u3.keepF r0 z0; have z1' := u3.keepF r1 z1; have z2' := u3.keepF r2 z2; have z3' := u3.keepF r3 z3; have z4' := u3.keepF r4 z4; have z5' := u3.keepF r5 z5; clear u3 f0 f1 f2 f3 f4 f5 r0 r1 r2 r3 r4 r5 z0 z1 z2 z3 z4 z5) | (go_at_call 35; refine (HK.out _ _ _ _ _ _ _ P3.out).mono ?_; rintro e w4 ⟨rfl, u4⟩; have V4 := hid u4; have U4 := hid (U3.out.trans u4); have P4 := hid (HP.out _ _ _ _ _ _ _ _ P3.out u4); obtain ⟨f0, f1, f2, f3, f4, f5⟩ := SubAt.old (V3.out.trans u4) FX.out; have r0 := u4.keep r0'; have r1 := u4.keep r1'; have r2 := u4.keep r2'; have r3 := u4.keep r3'; have r4 := u4.keep r4'; have r5 := u4.keep r5'; have z0 := u4.keepF r0' z0'; have z1 := u4.keepF r1' z1'; have z2 := u4.keepF r2' z2'; have z3 := u4.keepF r3' z3'; have z4 := u4.keepF r4' z4'; have z5 := u4.keepF r5' z5'; have sx := (SubAt.old ((V2.out.trans V3.out).trans u4) S1.out).2.2.2.2.1; clear u4 f0' f1' f2' f3' f4' f5' r0' r1' r2' r3' r4' r5' z0' z1' z2' z3' z4' z5') | (go_at_call 36; refine (HZ.out _ U4.out).mono ?_; rintro e w5 ⟨rfl, u5⟩; have U5 := hid (U4.out.trans u5); have P5 := hid (HP.out _ _ _ _ _ _ _ _ P4.out u5); obtain ⟨f0', f1', f2', f3', f4', f5'⟩ := SubAt.old ((V3.out.trans V4.out).trans u5) FX.out; have r0' := u5.keep r0; have r1' := u5.keep r1; have r2' := u5.keep r2; have r3' := u5.keep r3; have r4' := u5.keep r4; have r5' := u5.keep r5; have z0' := u5.keepF r0 z0; have z1' := u5.keepF r1 z1; have z2' := u5.keepF r2 z2; have z3' := u5.keepF r3 z3; have z4' := u5.keepF r4 z4; have z5' := u5.keepF r5 z5; clear u5 f0 f1 f2 f3 f4 f5 r0 r1 r2 r3 r4 r5 z0 z1 z2 z3 z4 z5))
    refine bodyPost_ret (v := .tuple #[.agg #[.int .i64 0, .int .i64 0, .int .i64 0, .slice none 0 0, .slice none 0 0, .slice none 0 0], .int .i64 40]) (by simp [results, Tryz.results22, go_sem, *]) rfl (by unfold CanPost; exact ⟨p1, p2, p3, q1, q2, q3, by first | rfl | (rw [if_neg HE.out]; rfl), (HP2.out _ _ _ _ _ _ _ _ _ (HP2.out _ _ _ _ _ _ _ _ _ (HP2.out _ _ _ _ _ _ _ _ _ (HP2.out _ _ _ _ _ _ _ _ _ (HP2.out _ _ _ _ _ _ _ _ _ (HP2.out _ _ _ _ _ _ _ _ _ (P4.out))))))), ((((((U4.out).setCell hres _).setCell hres _).setCell hres _).setCell hres _).setCell hres _).setCell hres _⟩)
  ·have e0 : ¬ canC false true k z = 0 := by unfold canC; simp
   have HE := hid e0
   clear e0
   go_enter Tryz.func22, Tryz.ntmps22
   go_wp2_with (first | (go_at_call 32; refine (HF.out _ (((Old.refl w).alloc _).alloc _) (by simp)).mono ?_; rintro e w1 ⟨p1, p2, p3, q1, q2, q3, rfl, P1, u1⟩; have U1 := hid ((((Old.refl w).alloc _).alloc _).trans u1); have S1 := hid (SubAt.old u1 HS0.out); have R1 := hid (SubAt.old u1 HR0.out.1); have F1 := hid (And.intro (u1.keepF HR0.out.1.1 HR0.out.2.1) (And.intro (u1.keepF HR0.out.1.2.1 HR0.out.2.2.1) (And.intro (u1.keepF HR0.out.1.2.2.1 HR0.out.2.2.2.1) (And.intro (u1.keepF HR0.out.1.2.2.2.1 HR0.out.2.2.2.2.1) (And.intro (u1.keepF HR0.out.1.2.2.2.2.1 HR0.out.2.2.2.2.2.1) (u1.keepF HR0.out.1.2.2.2.2.2 HR0.out.2.2.2.2.2.2)))))); clear u1) | (go_at_call 33; refine (HM.out _ _ _ _ _ _ _ (HP.out _ _ _ _ _ _ _ _ P1 ((Old.refl _).alloc _))).mono ?_; rintro e w2 ⟨rfl, u2⟩; have V2 := hid (((Old.refl w1).alloc _).trans u2); have U2 := hid (U1.out.trans V2.out); have P2 := hid (HP.out _ _ _ _ _ _ _ _ P1 V2.out); have hfx := SubAt.old u2 (show SubAt w1.heap.size s1 s2 s3 (.slice p1 m1 q1) (.slice p2 m2 q2) (.slice p3 m3 q3) _ by simp [SubAt]); obtain ⟨f0, f1, f2, f3, f4, f5⟩ := hfx; have FX := hid (And.intro f0 (And.intro f1 (And.intro f2 (And.intro f3 (And.intro f4 f5))))); obtain ⟨r0, r1, r2, r3, r4, r5⟩ := SubAt.old V2.out R1.out; obtain ⟨z0, z1, z2, z3, z4, z5⟩ := F1.out; replace z0 := V2.out.keepF R1.out.1 z0; replace z1 := V2.out.keepF R1.out.2.1 z1; replace z2 := V2.out.keepF R1.out.2.2.1 z2; replace z3 := V2.out.keepF R1.out.2.2.2.1 z3; replace z4 := V2.out.keepF R1.out.2.2.2.2.1 z4; replace z5 := V2.out.keepF R1.out.2.2.2.2.2 z5; clear u2) | (go_at_call 34; refine (HC.out _ _ _ _ _ _ _ P2.out).mono ?_; rintro e w3 ⟨rfl, u3⟩; have V3 := hid u3; have U3 := hid (U2.out.trans u3); have P3 := hid (HP.out _ _ _ _ _ _ _ _ P2.out u3); obtain ⟨f0', f1', f2', f3', f4', f5'⟩ := SubAt.old u3 FX.out; have r0' := u3.keep r0; have r1' := u3.keep r1; have r2' := u3.keep r2; have r3' := u3.keep r3; have r4' := u3.keep r4; have r5' := u3.keep r5; have z0' := u3.keepF r0 z0; have z1' := u3.keepF r1 z1; have z2' := u3.keepF r2 z2; have z3' := u3.keepF r3 z3; have z4' := u3.keepF r4 z4; have z5' := u3.keepF r5 z5; clear u3 f0 f1 f2 f3 f4 f5 r0 r1 r2 r3 r4 r5 z0 z1 z2 z3 z4 z5) | (go_at_call 35; refine (HK.out _ _ _ _ _ _ _ P3.out).mono ?_; rintro e w4 ⟨rfl, u4⟩; have V4 := hid u4; have U4 := hid (U3.out.trans u4); have P4 := hid (HP.out _ _ _ _ _ _ _ _ P3.out u4); obtain ⟨f0, f1, f2, f3, f4, f5⟩ := SubAt.old (V3.out.trans u4) FX.out; have r0 := u4.keep r0'; have r1 := u4.keep r1'; have r2 := u4.keep r2'; have r3 := u4.keep r3'; have r4 := u4.keep r4'; have r5 := u4.keep r5'; have z0 := u4.keepF r0' z0'; have z1 := u4.keepF r1' z1'; have z2 := u4.keepF r2' z2'; have z3 := u4.keepF r3' z3'; have z4 := u4.keepF r4' z4'; have z5 := u4.keepF r5' z5'; have sx := (SubAt.old ((V2.out.trans V3.out).trans u4) S1.out).2.2.2.2.1; clear u4 f0' f1' f2' f3' f4' f5' r0' r1' r2' r3' r4' r5' z0' z1' z2' z3' z4' z5') | (go_at_call 36; refine (HZ.out _ U4.out).mono ?_; rintro e w5 ⟨rfl, u5⟩; have U5 := hid (U4.out.trans u5); have P5 := hid (HP.out _ _ _ _ _ _ _ _ P4.out u5); obtain ⟨f0', f1', f2', f3', f4', f5'⟩ := SubAt.old ((V3.out.trans V4.out).trans u5) FX.out; have r0' := u5.keep r0; have r1' := u5.keep r1; have r2' := u5.keep r2; have r3' := u5.keep r3; have r4' := u5.keep r4; have r5' := u5.keep r5; have z0' := u5.keepF r0 z0; have z1' := u5.keepF r1 z1; have z2' := u5.keepF r2 z2; have z3' := u5.keepF r3 z3; have z4' := u5.keepF r4 z4; have z5' := u5.keepF r5 z5; clear u5 f0 f1 f2 f3 f4 f5 r0 r1 r2 r3 r4 r5 z0 z1 z2 z3 z4 z5))
   refine bodyPost_ret (v := .tuple #[.agg #[.int .i64 0, .int .i64 0, .int .i64 0, .slice none 0 0, .slice none 0 0, .slice none 0 0], .int .i64 3]) (by simp [results, Tryz.results22, go_sem, *]) rfl (by unfold CanPost; exact ⟨p1, p2, p3, q1, q2, q3, by first | rfl | (rw [if_neg HE.out]; rfl), (HP2.out _ _ _ _ _ _ _ _ _ (HP2.out _ _ _ _ _ _ _ _ _ (HP2.out _ _ _ _ _ _ _ _ _ (HP2.out _ _ _ _ _ _ _ _ _ (HP2.out _ _ _ _ _ _ _ _ _ (HP2.out _ _ _ _ _ _ _ _ _ (P3.out))))))), ((((((U3.out).setCell hres _).setCell hres _).setCell hres _).setCell hres _).setCell hres _).setCell hres _⟩)
 ·have e0 : ¬ canC true c k z = 0 := by unfold canC; simp
  have HE := hid e0
  clear e0
  go_enter Tryz.func22, Tryz.ntmps22
  go_wp2_with (first | (go_at_call 32; refine (HF.out _ (((Old.refl w).alloc _).alloc _) (by simp)).mono ?_; rintro e w1 ⟨p1, p2, p3, q1, q2, q3, rfl, P1, u1⟩; have U1 := hid ((((Old.refl w).alloc _).alloc _).trans u1); have S1 := hid (SubAt.old u1 HS0.out); have R1 := hid (SubAt.old u1 HR0.out.1); have F1 := hid (And.intro (u1.keepF HR0.out.1.1 HR0.out.2.1) (And.intro (u1.keepF HR0.out.1.2.1 HR0.out.2.2.1) (And.intro (u1.keepF HR0.out.1.2.2.1 HR0.out.2.2.2.1) (And.intro (u1.keepF HR0.out.1.2.2.2.1 HR0.out.2.2.2.2.1) (And.intro (u1.keepF HR0.out.1.2.2.2.2.1 HR0.out.2.2.2.2.2.1) (u1.keepF HR0.out.1.2.2.2.2.2 HR0.out.2.2.2.2.2.2)))))); clear u1) | (go_at_call 33; refine (HM.out _ _ _ _ _ _ _ (HP.out _ _ _ _ _ _ _ _ P1 ((Old.refl _).alloc _))).mono ?_; rintro e w2 ⟨rfl, u2⟩; have V2 := hid (((Old.refl w1).alloc _).trans u2); have U2 := hid (U1.out.trans V2.out); have P2 := hid (HP.out _ _ _ _ _ _ _ _ P1 V2.out); have hfx := SubAt.old u2 (show SubAt w1.heap.size s1 s2 s3 (.slice p1 m1 q1) (.slice p2 m2 q2) (.slice p3 m3 q3) _ by simp [SubAt]); obtain ⟨f0, f1, f2, f3, f4, f5⟩ := hfx; have FX := hid (And.intro f0 (And.intro f1 (And.intro f2 (And.intro f3 (And.intro f4 f5))))); obtain ⟨r0, r1, r2, r3, r4, r5⟩ := SubAt.old V2.out R1.out; obtain ⟨z0, z1, z2, z3, z4, z5⟩ := F1.out; replace z0 := V2.out.keepF R1.out.1 z0; replace z1 := V2.out.keepF R1.out.2.1 z1; replace z2 := V2.out.keepF R1.out.2.2.1 z2; replace z3 := V2.out.keepF R1.out.2.2.2.1 z3; replace z4 := V2.out.keepF R1.out.2.2.2.2.1 z4; replace z5 := V2.out.keepF R1.out.2.2.2.2.2 z5; clear u2) | (go_at_call 34; refine (HC.out _ _ _ _ _ _ _ P2.out).mono ?_; rintro e w3 ⟨rfl, u3⟩; have V3 := hid u3; have U3 := hid (U2.out.trans u3); have P3 := hid (HP.out _ _ _ _ _ _ _ _ P2.out u3); obtain ⟨f0', f1', f2', f3', f4', f5'⟩ := SubAt.old u3 FX.out; have r0' := u3.keep r0; have r1' := u3.keep r1; have r2' := u3.keep r2; have r3' := u3.keep r3; have r4' := u3.keep r4; have r5' := u3.keep r5; have z0' := u3.keepF r0 z0; have z1' := u3.keepF r1 z1; have z2' := u3.keepF r2 z2; have z3' := u3.keepF r3 z3; have z4' := u3.keepF r4 z4; have z5' := u3.keepF r5 z5; clear u3 f0 f1 f2 f3 f4 f5 r0 r1 r2 r3 r4 r5 z0 z1 z2 z3 z4 z5) | (go_at_call 35; refine (HK.out _ _ _ _ _ _ _ P3.out).mono ?_; rintro e w4 ⟨rfl, u4⟩; have V4 := hid u4; have U4 := hid (U3.out.trans u4); have P4 := hid (HP.out _ _ _ _ _ _ _ _ P3.out u4); obtain ⟨f0, f1, f2, f3, f4, f5⟩ := SubAt.old (V3.out.trans u4) FX.out; have r0 := u4.keep r0'; have r1 := u4.keep r1'; have r2 := u4.keep r2'; have r3 := u4.keep r3'; have r4 := u4.keep r4'; have r5 := u4.keep r5'; have z0 := u4.keepF r0' z0'; have z1 := u4.keepF r1' z1'; have z2 := u4.keepF r2' z2'; have z3 := u4.keepF r3' z3'; have z4 := u4.keepF r4' z4'; have z5 := u4.keepF r5' z5'; have sx := (SubAt.old ((V2.out.trans V3.out).trans u4) S1.out).2.2.2.2.1; clear u4 f0' f1' f2' f3' f4' f5' r0' r1' r2' r3' r4' r5' z0' z1' z2' z3' z4' z5') | (go_at_call 36; refine (HZ.out _ U4.out).mono ?_; rintro e w5 ⟨rfl, u5⟩; have U5 := hid (U4.out.trans u5); have P5 := hid (HP.out _ _ _ _ _ _ _ _ P4.out u5); obtain ⟨f0', f1', f2', f3', f4', f5'⟩ := SubAt.old ((V3.out.trans V4.out).trans u5) FX.out; have r0' := u5.keep r0; have r1' := u5.keep r1; have r2' := u5.keep r2; have r3' := u5.keep r3; have r4' := u5.keep r4; have r5' := u5.keep r5; have z0' := u5.keepF r0 z0; have z1' := u5.keepF r1 z1; have z2' := u5.keepF r2 z2; have z3' := u5.keepF r3 z3; have z4' := u5.keepF r4 z4; have z5' := u5.keepF r5 z5; clear u5 f0 f1 f2 f3 f4 f5 r0 r1 r2 r3 r4 r5 z0 z1 z2 z3 z4 z5))
  refine bodyPost_ret (v := .tuple #[.agg #[.int .i64 0, .int .i64 0, .int .i64 0, .slice none 0 0, .slice none 0 0, .slice none 0 0], .int .i64 43]) (by simp [results, Tryz.results22, go_sem, *]) rfl (by unfold CanPost; exact ⟨p1, p2, p3, q1, q2, q3, by first | rfl | (rw [if_neg HE.out]; rfl), (HP2.out _ _ _ _ _ _ _ _ _ (HP2.out _ _ _ _ _ _ _ _ _ (HP2.out _ _ _ _ _ _ _ _ _ (HP2.out _ _ _ _ _ _ _ _ _ (HP2.out _ _ _ _ _ _ _ _ _ (HP2.out _ _ _ _ _ _ _ _ _ (P2.out))))))), ((((((U2.out).setCell hres _).setCell hres _).setCell hres _).setCell hres _).setCell hres _).setCell hres _⟩)
def CanRows (B : Nat) (L1 : List Nat) (L2 : List Sp) (L3 : List Nat) (p1 p2 p3 : Option Addr) (q1 q2 q3 : Nat) (W : World) : Prop := FOwn B W (.slice p1 L1.length q1) L1 ∧ OwnS B W (.slice p2 L2.length q2) L2 ∧ FOwn B W (.slice p3 L3.length q3) L3
set_option maxHeartbeats 1000000 in
set_option maxRecDepth 20000 in
theorem subCanon_any (s1 s2 s3 : Int) (a1 a2 a3 : Option Addr) (n1 n2 n3 c1 c2 c3 : Nat) (x1 x3 : Nat → Nat) (f2 : Nat → Sp) (b1 : n1 ≤ 17592186044000) (b2 : n2 ≤ 5864062014805) (b3 : n3 ≤ 17592186044000) (w : World) (h1 : FRow w (.slice a1 n1 c1) n1 x1) (h2 : SRow w (.slice a2 n2 c2) n2 f2) (h3 : FRow w (.slice a3 n3 c3) n3 x3) :
    Calls Tryz.prog 22 #[.agg #[.int .i64 s1, .int .i64 s2, .int .i64 s3, .slice a1 n1 c1, .slice a2 n2 c2, .slice a3 n3 c3]] w fun e w' => CanPost (CanRows (w.heap.size + 2) (Fl.sortL x1 n1) ((Fl.dfold (Fl.cdl f2 n2)).map Fl.spo) (Fl.sortL x3 n3)) s1 s2 s3 (Fl.sortL x1 n1).length ((Fl.dfold (Fl.cdl f2 n2)).map Fl.spo).length (Fl.sortL x3 n3).length (canC (misB s1 s2 s3) (crowdB (Fl.sortL x1 n1).length ((Fl.dfold (Fl.cdl f2 n2)).map Fl.spo).length (Fl.sortL x3 n3).length) (Fl.anyG (fun i => Fl.nan (atN (Fl.sortL x1 n1) i)) (Fl.sortL x1 n1).length || Fl.anyG (fun i => Fl.nan (atN (Fl.sortL x3 n3) i)) (Fl.sortL x3 n3).length) (Fl.anyG (fun i => Fl.nan (f2 i).a || Fl.nan (f2 i).b) n2)) w e w' := by
 have w1 : ∀ i, i < n1 → Fl.W (x1 i) := fun i hi => by obtain ⟨_, _, _, _, hc⟩ := h1; obtain ⟨_, _, _, q, _⟩ := hc i hi; exact q
 have w3 : ∀ i, i < n3 → Fl.W (x3 i) := fun i hi => by obtain ⟨_, _, _, _, hc⟩ := h3; obtain ⟨_, _, _, q, _⟩ := hc i hi; exact q
 have l1 := Fl.sortL_len x1 n1
 have l3 := Fl.sortL_len x3 n3
 refine canon_core s1 s2 s3 a1 a2 a3 n1 n2 n3 c1 c2 c3 _ _ _ _ _ _ _ w _ ?_ ?_ ?_ ?_ ?_ ?_ ?_
 ·rintro p1 p2 p3 q1 q2 q3 W W' ⟨g1, g2, g3⟩ u
  exact ⟨g1.old u, g2.old u, g3.old u⟩
 ·rintro p1 p2 p3 q1 q2 q3 W o v ⟨g1, g2, g3⟩
  exact ⟨g1.set1 (by omega) o v, ownsRow_setCell_below g2 (by show w.heap.size + 1 < w.heap.size + 2; omega) v, g3.set1 (by omega) o v⟩
 ·intro W hW hz
  refine (form_any s1 s2 s3 a1 a2 a3 n1 n2 n3 c1 c2 c3 x1 x3 f2 b1 b2 b3 W (h1.old hW) (h2.old hW) (h3.old hW)).mono ?_
  rintro e w' ⟨p1, p2, p3, q1, q2, q3, rfl, g1, g2, g3, u⟩
  refine ⟨p1, p2, p3, q1, q2, q3, by rw [List.length_map], ⟨g1.mono' hz, ?_, g3.mono' hz⟩, u⟩
  rw [List.length_map]; exact g2.mono' hz
 ·intro p1 p2 p3 q1 q2 q3 W h
  exact misnamed_any s1 s2 s3 _ _ _ W
 ·intro p1 p2 p3 q1 q2 q3 W h
  exact crowded_any s1 s2 s3 p1 p2 p3 _ _ _ q1 q2 q3 W
 ·rintro p1 p2 p3 q1 q2 q3 W ⟨g1, g2, g3⟩
  exact keyless_any s1 s2 s3 _ _ _ _ _ _ _ W (g1.row (sortL_W x1 n1 w1) (by omega)) (g3.row (sortL_W x3 n3 w3) (by omega))
 ·intro W hW
  exact wrongs_any _ n2 f2 W (h2.old hW)
end Go.Proofs.YthjfkmjeppdcnaaGreat
