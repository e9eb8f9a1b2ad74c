/- The library's sort with a function, by its contract, laid at this dump; no condition. -/
import Derived.Test.YtajoodkapiifcaaGreatScE
import Derived.Shelf.SlSortCmp.NoneTotal
import Derived.Shelf.Lay
import Derived.Ground.SlsfProg
import Derived.Lib.RowBridge
import Derived.Lib.SortBridge
import Derived.Laws.MakeOwn
import Derived.Deep.QuietTactic
import Derived.BigQuiet
import Derived.Test.YtajoodkapiifcaaGreatScD
import Derived.Test.YtajoodkapiifcaaGreatSqa
import Derived.Test.YtajoodkapiifcaaGreatScF
namespace Go.Proofs
set_option linter.unusedSimpArgs false
open Go.Shelf
shelf_lay_g SlLaysF.n6 Slsf 6 at Tryz 109 as YtajoodkapiifcaaGreat.sortLaidF
end Go.Proofs
namespace Go.Proofs.YtajoodkapiifcaaGreat
open Go.Shelf Go.RowKit Go.Lib Go.Sort
set_option linter.unusedVariables false
def Form : Type := { b : Nat // Fl.W b ∧ Fl.canon b = b }
instance : Inhabited Form := ⟨⟨0, by unfold Fl.W; omega, Fl.canon_zero 0 (.inl rfl)⟩⟩
def encF (x : Form) : Value := .float .f64 x.1
def cfF (x y : Form) : Int := Fl.cmpc x.1 y.1
theorem ltF (x y : Form) : ltOf cfF x y = decide (Fl.code x.1 < Fl.code y.1) := by
 unfold ltOf cfF
 rcases Fl.cmpc_cases x.1 y.1 with ⟨h1, h2⟩ | ⟨h1, h2⟩ | ⟨h1, h2⟩
 ·rw [h1]; simp [h2]
 ·rw [h1]; simp; omega
 ·rw [h1]; simp; omega
theorem swoF : SWO (ltOf cfF) where
 irrefl x := by rw [ltF]; simp
 trans x y z h1 h2 := by rw [ltF] at *; simp at *; omega
 ntrans x y z h1 h2 := by rw [ltF] at *; simp at *; omega
theorem form_eq (x y : Form) (h : Fl.code x.1 = Fl.code y.1) : x = y := by
 apply Subtype.ext
 have e : Fl.canon x.1 = Fl.canon y.1 := by rw [← Fl.of_code x.1 x.2.1, ← Fl.of_code y.1 y.2.1, h]
 rw [x.2.2, y.2.2] at e
 exact e
theorem totF (x y : Form) (h1 : ltOf cfF x y = false) (h2 : ltOf cfF y x = false) : x = y := by
 rw [ltF] at *; simp at *; exact form_eq x y (by omega)
theorem enter_cmp : ∀ args w, (callFunc 72 args).run Tryz.prog w = .ok (.enter 72 args) w := enters_of Tryz.func72 (by kernel_rfl) rfl
theorem cmpReadsF (blk off size : Nat) (w : World) : CmpReads Tryz.prog 72 #[] encF cfF blk off size w := fun _ _ _ _ x y => (cmp_any x.1 y.1 x.2.1 y.2.1 _).mono (fun e w' h => ⟨h.1, 0, h.2⟩)
theorem sort_forms (blk off cap : Nat) (d : Array Form) (w : World) (hH : Holds encF w blk off d) (hblk : blk < w.heap.size) (hsz : d.size < 4611686018427387904) :
    Calls Tryz.prog 109 #[.slice (some ⟨blk, off, none⟩) d.size cap, .func (.func 72) #[] #[]] w fun e w' => e = .returned (.tuple #[]) ∧ ∃ n os, w' = sortWorld encF w blk off n (d.toList.mergeSort fun x y => !(ltOf cfF) y x).toArray os := by
 have hS := Any.slices_SortFunc_total sortLaidF encF (fun _ => rfl) cfF swoF 72 #[] blk off cap d w enter_cmp (cmpReadsF blk off d.size w).lays hH hblk hsz totF
 exact hS
theorem sort_noneF (p : Option Addr) (c : Nat) (fv : Value) (w : World) : Calls Tryz.prog 109 #[.slice p 0 c, fv] w fun e w' => e = .returned (.tuple #[]) ∧ w' = w :=
 AnyF.slices_SortFunc_none (P := Tryz.prog) (ρ := sortLaidF_ren) { sortLaidF with } p c fv w
end Go.Proofs.YtajoodkapiifcaaGreat
namespace Go.Proofs.YtajoodkapiifcaaGreat
set_option linter.unusedSimpArgs false
open Go.Shelf Go.RowKit Go.Lib Go.Sort
set_option linter.unusedVariables false
attribute [local go_sem] run_bits run_frombits run_store_float eqF
def FL (x : Nat → Nat) (k : Nat) : List Nat := (List.range k).map fun i => Fl.canon (x i)
theorem FL_len (x : Nat → Nat) (k : Nat) : (FL x k).length = k := by simp [FL]
theorem FL_succ (x : Nat → Nat) (k : Nat) : FL x (k + 1) = FL x k ++ [Fl.canon (x k)] := by simp [FL, List.range_succ]
def forms (x : Nat → Nat) (n : Nat) (hx : ∀ i, i < n → Fl.W (x i)) : List Form := List.ofFn (fun i : Fin n => (⟨Fl.canon (x i.1), Fl.canon_lt _ (hx i.1 i.2), Fl.canon_canon _⟩ : Form))
theorem forms_len0 (x : Nat → Nat) (n : Nat) (hx : ∀ i, i < n → Fl.W (x i)) : (forms x n hx).length = n := by unfold forms; exact List.length_ofFn
theorem forms_len (x : Nat → Nat) (n : Nat) (hx : ∀ i, i < n → Fl.W (x i)) : (forms x n hx).length = n := by unfold forms; exact List.length_ofFn
theorem forms_at (x : Nat → Nat) (n : Nat) (hx : ∀ i, i < n → Fl.W (x i)) (i : Nat) (h : i < (forms x n hx).length) : ((forms x n hx)[i]).1 = Fl.canon (x i) := by
 have e : (forms x n hx)[i] = (⟨Fl.canon (x i), Fl.canon_lt _ (hx i (by rw [← forms_len0 x n hx]; exact h)), Fl.canon_canon _⟩ : Form) := List.getElem_ofFn h
 rw [e]
def zz (L : List Form) : Nat → Nat := fun i => (L.toArray[i]!).1
theorem zz_get (L : List Form) (i : Nat) (h : i < L.length) : zz L i = (L[i]).1 := by
 unfold zz
 rw [getElem!_pos L.toArray i (by simpa using h)]
 simp
theorem forms_get (x : Nat → Nat) (n : Nat) (hx : ∀ i, i < n → Fl.W (x i)) (i : Nat) (h : i < n) : zz (forms x n hx) i = Fl.canon (x i) := by
 rw [zz_get _ _ (by rw [forms_len]; exact h)]
 exact forms_at x n hx i _
theorem zz_form (L : List Form) (i : Nat) : Fl.W (zz L i) ∧ Fl.canon (zz L i) = zz L i := (L.toArray[i]!).2
theorem sorted_is (x : Nat → Nat) (n : Nat) (hx : ∀ i, i < n → Fl.W (x i)) : Fl.dt (zz ((forms x n hx).mergeSort fun a b => !(ltOf cfF) b a)) n = Fl.sortL x n := by
 obtain ⟨a1, a2, a3⟩ := Fl.sortL_all x n hx n (Nat.le_refl _)
 have hlen : ((forms x n hx).mergeSort fun a b => !(ltOf cfF) b a).length = n := by rw [List.length_mergeSort, forms_len]
 have hsort : ((forms x n hx).mergeSort fun a b => !(ltOf cfF) b a).Pairwise (fun a b => (!(ltOf cfF) b a) = true) := by
  apply List.pairwise_mergeSort
  ·intro a b c h1 h2; rw [ltF] at *; simp at *; omega
  ·intro a b; rw [ltF, ltF]; simp; omega
 have hmem : ∀ f, f ∈ ((forms x n hx).mergeSort fun a b => !(ltOf cfF) b a) ↔ f ∈ forms x n hx := fun f => List.mem_mergeSort
 generalize (forms x n hx).mergeSort (fun a b => !(ltOf cfF) b a) = M at *
 apply Fl.asc_eq
 ·refine Fl.dt_asc _ n (fun i hi => ?_) (fun i j hi hj h => ?_) n (Nat.le_refl _)
  ·have h := List.pairwise_iff_getElem.1 hsort i (i + 1) (by omega) (by omega) (by omega)
   rw [ltF] at h
   rw [zz_get _ _ (by omega), zz_get _ _ (by omega)]
   simp at h; exact h
  ·rw [zz_get _ _ (by omega), zz_get _ _ (by omega)] at h ⊢
   exact congrArg Subtype.val (form_eq _ _ h)
 ·exact a1
 ·intro z
  rw [Fl.dt_mem, a3 z]
  constructor
  ·rintro ⟨i, hi, rfl⟩
   rw [zz_get _ _ (by omega)]
   have hm := (hmem M[i]).1 (List.getElem_mem _)
   obtain ⟨j, hj, e⟩ := List.mem_iff_getElem.1 hm
   refine ⟨j, by rw [forms_len] at hj; exact hj, ?_⟩
   rw [← e]; exact forms_at x n hx j _
  ·rintro ⟨j, hj, rfl⟩
   have hm := (hmem ((forms x n hx)[j]'(by rw [forms_len]; exact hj))).2 (List.getElem_mem _)
   obtain ⟨i, hi, e⟩ := List.mem_iff_getElem.1 hm
   refine ⟨i, by omega, ?_⟩
   rw [zz_get _ _ hi, e]; exact (forms_at x n hx j _).symm
theorem compact_all (g n cap : Nat) (x : Nat → Nat) (hn : 1 ≤ n) (hnc : n ≤ cap) (hm : cap ≤ maxLen) (w : World) (h : RowW w g n x) (hW : ∀ i, i < n → Fl.W (x i) ∧ Fl.canon (x i) = x i) :
    Calls Tryz.prog 110 #[.slice (some ⟨g, 0, none⟩) n cap, .func (.func 111) #[] #[]] w fun e w' => e = .returned (.slice (some ⟨g, 0, none⟩) (Fl.dt x n).length cap) ∧ (∀ i, i < (Fl.dt x n).length → w'.cell? ⟨g, i, none⟩ = (Fl.dt x n)[i]?.map (Value.float .f64)) ∧ (∀ i, i < n → w'.frozen? ⟨g, i, none⟩ = false) ∧ Only g w w' := by
 by_cases h2 : 2 ≤ n
 ·exact compact_any g n cap x h2 hnc hm w h hW
 ·obtain rfl : n = 1 := by omega
  refine (compact_short (some ⟨g, 0, none⟩) 1 cap _ (by omega) w).mono ?_
  rintro e w' ⟨rfl, rfl⟩
  have e1 : Fl.dt x 1 = [x 0] := by simp [Fl.dt]
  rw [e1]
  refine ⟨rfl, fun i hi => ?_, fun i hi => (h i hi).2, Only.refl _ _⟩
  obtain rfl : i = 0 := by simpa using hi
  exact (h 0 (by omega)).1
theorem sortWorld_old {w : World} {g m : Nat} {d : Array Form} {os : Array Obj} : (sortWorld encF w g 0 m d os).os = w.os ∧ (sortWorld encF w g 0 m d os).tape = w.tape ∧ (sortWorld encF w g 0 m d os).output = w.output ∧ w.heap.size ≤ (sortWorld encF w g 0 m d os).heap.size ∧ ∀ k, k < w.heap.size → k ≠ g → (sortWorld encF w g 0 m d os).heap[k]? = w.heap[k]? := by
 refine ⟨rfl, rfl, rfl, ?_, fun k hk hne => ?_⟩
 ·unfold sortWorld; simp
 ·unfold sortWorld
  rw [heap_grow_old _ _ (by simpa using hk)]
  unfold putRow mapBlock
  simp [Array.getElem?_modify]
  intro e; exact absurd e.symm hne
set_option maxHeartbeats 2000000 in
set_option maxRecDepth 20000 in
theorem floSort_some (b off n cap : Nat) (x : Nat → Nat) (hm : n ≤ 17592186044000) (hn : 0 < n) (w : World) (hc : ∀ i, i < n → Fl.W (x i) ∧ w.cell? ⟨b, off + i, none⟩ = some (.float .f64 (x i))) :
    Calls Tryz.prog 95 #[.slice (some ⟨b, off, none⟩) n cap] w fun e w' => ∃ g c2, e = .returned (.slice (some ⟨g, 0, none⟩) (Fl.sortL x n).length c2) ∧ w.heap.size ≤ g ∧ (∀ i, i < (Fl.sortL x n).length → w'.cell? ⟨g, i, none⟩ = (Fl.sortL x n)[i]?.map (Value.float .f64) ∧ w'.frozen? ⟨g, i, none⟩ = false) ∧ Old w w' := by
 obtain ⟨i0, hi, hz0, hz1, hz2⟩ := info_parts infoFloat
 have HX := hid hc
 clear hc
 go_enter Tryz.func95, Tryz.ntmps95
 go_wp2_with (refine wpList_make_own w rfl (.const (.int .i64 0)) (.tmp 7) 25 rfl w.heap.size 22 i0 (.float .f64 0) 1 Tryz.underlying25 hi hz0 hz1 .i64 .i64 _ n rfl rfl (by omega) (by rw [hz2]; omega) (by unfold maxLen; omega) (Nat.le_refl _) ?_; intro w1 ho1 hg1; have u1 : Old w w1 := Below.grown (Below.refl _ _) hg1 (Nat.le_refl _) (fun k hk => by cases hk); have O1 : Hid (OwnF w.heap.size w1 _ (FL x 0)) := ho1; have U1 := hid u1; clear ho1 hg1 u1)
 go_loopw [3, 11] (fun o i wr => ∃ k : Nat, k ≤ n ∧ i = .int .i64 (k : Nat) ∧ OwnF w.heap.size wr o (FL x k) ∧ Old w wr) (fun _ i _ => n - (intOf i).toNat)
 case atStart => exact ⟨0, Nat.zero_le _, rfl, O1.out, U1.out⟩
 case round =>
  obtain ⟨k, hk, rfl, ho, hu⟩ := hrel
  have HO := hid ho
  have HU := hid hu
  clear ho hu
  by_cases hlt : k < n
  ·obtain ⟨hw, hcell⟩ := HX.out k hlt
   have hcr := HU.out.keep hcell
   have HCn := hid (fun W => canon_any (x k) hw W)
   have hlen := FL_len x k
   have HFs := hid (FL_succ x k)
   clear hcell HX O1 U1
   generalize x k = X at *
   go_wp2_with (first | (go_at_call 107; refine (HCn.out _).mono ?_; rintro e w' ⟨rfl, hw⟩; have hw2 := hw.symm; subst hw2) | (at_builtin; refine wp_appF rfl (.tmp 15) (.tmp 18) rfl w.heap.size _ (FL x k) _ 1 (Fl.canon X) rfl rfl (OwnF.up HO.out ((Old.refl _).alloc _)) (cell_one _ _ _ (by simp)) (by omega) (by have := HU.out.size; simp; omega) ?_; intro v8 w8 o8 u8; have O8 := hid o8; have V8 := hid (below_up' HU.out ((Old.refl _).alloc _) u8); clear o8 u8))
   go_roundw
   case rel => exact ⟨k + 1, hlt, by go_num, by rw [HFs.out]; exact O8.out, V8.out⟩
   case measure => simp [intOf]; omega
  ·obtain rfl : n = k := by omega
   have h2 := HO.out
   unfold OwnF at h2
   rcases h2.2 with ⟨_, e⟩ | ⟨g, c2, cur, hv, hbg, hg, hnc, hcm, hcs, htk⟩
   ·rw [FL_len] at e; omega
   subst hv
   rw [FL_len] at hnc
   have hgl := lt_of_block hg
   have hx : ∀ i, i < n → Fl.W (x i) := fun i hi => (HX.out i hi).1
   have hcell : ∀ i, i < n → wr.cell? ⟨g, i, none⟩ = some (.float .f64 (Fl.canon (x i))) := fun i hi => by
    rw [h2.cellAt i (by rw [FL_len]; omega)]
    simp [fls, FL, hi]
   have hfz : ∀ i, wr.frozen? ⟨g, i, none⟩ = false := h2.frozenAt
   have hsz : (forms x n hx).toArray.size = n := by rw [List.size_toArray, forms_len]
   have hH : Holds encF wr g 0 (forms x n hx).toArray := fun j hj => by
    rw [hsz] at hj
    rw [Nat.zero_add]
    refine ⟨?_, hfz j⟩
    rw [hcell j hj]
    show some (Value.float .f64 (Fl.canon (x j))) = some (Value.float .f64 (zz (forms x n hx) j))
    rw [forms_get x n hx j hj]
   have HS := hid (sort_forms g 0 c2 (forms x n hx).toArray wr hH hgl (by rw [hsz]; omega))
   rw [hsz] at HS
   have hM : ((forms x n hx).mergeSort fun a b => !(ltOf cfF) b a).length = n := by rw [List.length_mergeSort, forms_len]
   have HSo := hid (sorted_is x n hx)
   have HC := hid (fun (m : Nat) (os : Array Obj) => compact_all g n c2 (zz ((forms x n hx).mergeSort fun a b => !(ltOf cfF) b a)) (by omega) hnc hcm (sortWorld encF wr g 0 m ((forms x n hx).mergeSort fun a b => !(ltOf cfF) b a).toArray os) (fun i hi => by
    have h := holds_sortWorld encF wr g 0 m (forms x n hx).toArray ((forms x n hx).mergeSort fun a b => !(ltOf cfF) b a).toArray os hgl hH (by rw [hsz, List.size_toArray, hM]) i (by rw [List.size_toArray, hM]; exact hi)
    rw [Nat.zero_add] at h
    exact h) (fun i hi => zz_form _ i))
   rw [HSo.out] at HC
   rw [FL_len]
   have hslen := hid (Fl.sortL_len x n)
   clear HX h2 hg hcs htk hcell hfz hH hM hsz HO O1 U1
   generalize ((forms x n hx).mergeSort fun a b => !(ltOf cfF) b a) = M at *
   go_wp2_with (first | (go_at_call 109; refine HS.out.mono ?_; rintro e w2 ⟨rfl, m, os, rfl⟩) | (go_at_call 110; refine (HC.out m os).mono ?_; rintro e w3 ⟨rfl, hc3, hf3, ho3⟩; have HC3 := hid hc3; have HF3 := hid hf3; have HO3 := hid ho3; clear hc3 hf3 ho3))
   go_ret
   refine ⟨g, c2, rfl, hbg, fun i hi => ⟨HC3.out i hi, HF3.out i (by have := hslen.out; omega)⟩, ?_⟩
   obtain ⟨s1, s2, s3, s4, s5⟩ := sortWorld_old (w := wr) (g := g) (m := m) (d := M.toArray) (os := os)
   have hus := HU.out.size
   exact ⟨HO3.out.os.trans (s1.trans HU.out.os), HO3.out.tape.trans (s2.trans HU.out.tape), HO3.out.output.trans (s3.trans HU.out.output), by rw [HO3.out.size]; omega, fun i hi => (HO3.out.block i (by omega)).trans ((s5 i (by omega) (by omega)).trans (HU.out.block i hi))⟩
end Go.Proofs.YtajoodkapiifcaaGreat
namespace Go.Proofs.YtajoodkapiifcaaGreat
set_option linter.unusedSimpArgs false
open Go.Shelf Go.RowKit Go.Lib Go.Sort
set_option linter.unusedVariables false
attribute [local go_sem] run_bits run_frombits run_store_float eqF
set_option maxHeartbeats 1000000 in
set_option maxRecDepth 20000 in
theorem sameKeys_eq (b1 o1 c1 b2 o2 c2 n : Nat) (x : Nat → Nat) (hm : n ≤ maxLen) (w : World) (hx : ∀ i, i < n → w.cell? ⟨b1, o1 + i, none⟩ = some (.float .f64 (x i))) (hy : ∀ i, i < n → w.cell? ⟨b2, o2 + i, none⟩ = some (.float .f64 (x i))) :
    Calls Tryz.prog 29 #[.slice (some ⟨b1, o1, none⟩) n c1, .slice (some ⟨b2, o2, none⟩) n c2] w fun e w' => e = .returned (.bool true) ∧ Old w w' := by
 unfold maxLen at hm
 have HX := hid hx
 have HY := hid hy
 clear hx hy
 go_enter Tryz.func29, Tryz.ntmps29
 go_wp2
 go_loopw [5] (fun i wx => ∃ k : Nat, k ≤ n ∧ i = .int .i64 k ∧ Old w wx) (fun i _ => n - (intOf i).toNat)
 case atStart => exact ⟨0, Nat.zero_le _, rfl, Old.refl _⟩
 case round =>
  obtain ⟨k, hk, rfl, hup⟩ := hrel
  by_cases hlt : k < n
  ·have cx := hup.keep (HX.out k hlt)
   have cy := hup.keep (HY.out k hlt)
   have l1 : (0 : Int) ≤ (k : Int) := by omega
   have l2 : (k : Int) < (n : Int) := by omega
   have t : ((x k : Int) != (x k : Int)) = false := by simp
   clear HX HY
   go_wp2
   go_quiet (fail)
   go_wp2
   exact ⟨⟨k + 1, hlt, by go_num, hup.drewN _⟩, by simp [intOf]; omega⟩
  ·obtain rfl : n = k := by omega
   go_wp2
   go_ret
   exact ⟨rfl, hup⟩
set_option maxHeartbeats 400000 in
set_option maxRecDepth 20000 in
theorem sameKeys_none (a b : Option Addr) (c d : Nat) (w : World) :
    Calls Tryz.prog 29 #[.slice a 0 c, .slice b 0 d] w fun e w' => e = .returned (.bool true) ∧ w' = w := by
 go_enter Tryz.func29, Tryz.ntmps29
 go_wp2
 refine wp_loop_rounds 1 ?_
 rw [rounds_succ]
 go_wp2
 go_ret
 exact ⟨rfl, rfl⟩
set_option maxHeartbeats 400000 in
set_option maxRecDepth 20000 in
theorem floSort_none (a : Option Addr) (c : Nat) (w : World) :
    Calls Tryz.prog 95 #[.slice a 0 c] w fun e w' => (∃ g c2, e = .returned (.slice g 0 c2)) ∧ Old w w' := by
 obtain ⟨i0, hi, hz0, hz1, hz2⟩ := info_parts infoFloat
 have HS := hid (fun (W : World) (p : Option Addr) (cc : Nat) (fv : Value) => sort_noneF p cc fv W)
 have HC := hid (fun (W : World) (p : Option Addr) (cc : Nat) (fv : Value) => compact_short p 0 cc fv (by omega) W)
 go_enter Tryz.func95, Tryz.ntmps95
 go_wp2_with (refine wpList_make_own w rfl (.const (.int .i64 0)) (.tmp 7) 25 rfl w.heap.size 22 i0 (.float .f64 0) 1 Tryz.underlying25 hi hz0 hz1 .i64 .i64 _ 0 rfl rfl (by omega) (by omega) (by unfold maxLen; omega) (Nat.le_refl _) ?_; intro w1 ho1 hg1; have u1 : Old w w1 := Below.grown (Below.refl _ _) hg1 (Nat.le_refl _) (fun k hk => by cases hk); have U1 := hid u1; clear ho1 hg1 u1)
 refine wp_loop_rounds 1 ?_
 rw [rounds_succ]
 go_wp2_with (first | (go_at_call 109; refine (HS.out _ _ _ _).mono ?_; rintro e w2 ⟨rfl, hw⟩; have hw2 := hw.symm; subst hw2) | (go_at_call 110; refine (HC.out _ _ _ _).mono ?_; rintro e w3 ⟨rfl, hw⟩; have hw2 := hw.symm; subst hw2))
 go_ret
 exact ⟨⟨_, _, rfl⟩, U1.out⟩
set_option maxHeartbeats 400000 in
set_option maxRecDepth 20000 in
theorem refSort_none (a : Option Addr) (c : Nat) (w : World) :
    Calls Tryz.prog 54 #[.slice a 0 c] w fun e w' => (∃ g c2, e = .returned (.slice g 0 c2)) ∧ Old w w' := by
 go_enter Tryz.func54, Tryz.ntmps54
 go_wp2
 refine wp_loop_rounds 1 ?_
 rw [rounds_succ]
 go_wp2
 go_ret
 exact ⟨⟨_, _, rfl⟩, (Old.refl w).alloc _⟩
theorem wp_appFs {ops : Array Oper} {rest : List Oper} {o : Oper} {a : Act} {Q : Exit → Act → World → Prop} {w : World} (hgd : o.guard = none) (s x : Operand)
    (ho : o.op = .call { callee := .builtin .append, args := #[s, x], argTypes := #[25, 25] }) (base : Nat) (v : Value) (b off n c : Nat) (y : Nat → Nat)
    (hs : a.eval s = v) (hx : a.eval x = .slice (some ⟨b, off, none⟩) n c) (hown : OwnF base w v []) (hc : ∀ i, i < n → w.cell? ⟨b, off + i, none⟩ = some (.float .f64 (y i))) (hb : n ≤ 17592186044000) (hbase : base ≤ w.heap.size)
    (h : ∀ v' w', OwnF base w' v' ((List.range n).map y) → Below base w w' → wpList Tryz.prog ops Q rest (a.put o.dst v') w') : wpList Tryz.prog ops Q (o :: rest) a w := by
 obtain ⟨i0, hi, hz0, hz1, hz2⟩ := info_parts infoFloat
 refine wpList_append_own w hgd s x 25 ho base 22 i0 _ 1 8 Tryz.underlying25 hi hz0 hz1 hz2 rfl (by decide) v 0 [] hs hown ⟨b, off, none⟩ n c (fls ((List.range n).map y)) hx (by simp [fls]) ?_ ?_ (by unfold maxLen; omega) (by omega) hbase ?_
 ·intro j u hj
  by_cases hjn : j < n
  ·simp [fls, hjn] at hj
   subst hj
   rw [Go.WideShapes.add_plain]; exact hc j hjn
  ·simp [fls, hjn] at hj
 ·intro u hu; simp [fls] at hu; obtain ⟨i, _, rfl⟩ := hu; rfl
 ·intro v' w' h1 h2 h3
  refine h v' w' ?_ (Below.grown (Below.refl _ _) h2 hbase (fun k hk => (World.ownsRow.lt hown k hk).1))
  unfold OwnF
  simpa using h1
end Go.Proofs.YtajoodkapiifcaaGreat
namespace Go.Proofs.YtajoodkapiifcaaGreat
set_option linter.unusedSimpArgs false
open Go.RowKit
set_option linter.unusedVariables false
attribute [local go_sem] run_bits run_frombits run_store_float eqF
def FOwn (base : Nat) (w : World) (v : Value) (L : List Nat) : Prop := ∃ (p : Option Addr) (c : Nat), v = .slice p L.length c ∧ (0 < L.length → ∃ g, p = some ⟨g, 0, none⟩ ∧ base ≤ g ∧ ∀ i (hi : i < L.length), w.cell? ⟨g, i, none⟩ = some (.float .f64 L[i]) ∧ w.frozen? ⟨g, i, none⟩ = false)
theorem FOwn.old {base : Nat} {w w' : World} {v : Value} {L : List Nat} (h : FOwn base w v L) (u : Old w w') : FOwn base w' v L := by
 obtain ⟨p, c, hv, hc⟩ := h
 exact ⟨p, c, hv, fun hl => by obtain ⟨g, e, hb, k⟩ := hc hl; exact ⟨g, e, hb, fun i hi => ⟨u.keep (k i hi).1, u.keepF (k i hi).1 (k i hi).2⟩⟩⟩
def atN (L : List Nat) (i : Nat) : Nat := (L[i]?).getD 0
theorem atN_get (L : List Nat) (i : Nat) (h : i < L.length) : atN L i = L[i] := by simp [atN, h]
theorem FOwn.row {base : Nat} {w : World} {v : Value} {L : List Nat} (h : FOwn base w v L) (hW : ∀ y ∈ L, Fl.W y) (hl : L.length ≤ 9223372036854775807) : FRow w v L.length (atN L) := by
 obtain ⟨p, c, hv, hc⟩ := h
 refine ⟨hl, p, c, hv, fun i hi => ?_⟩
 obtain ⟨g, e, _, k⟩ := hc (by omega)
 refine ⟨g, 0, e, ?_, ?_⟩
 ·rw [atN_get L i hi]; exact hW _ (List.getElem_mem hi)
 ·rw [atN_get L i hi, Nat.zero_add]; exact (k i hi).1
theorem FRow.cases {w : World} {v : Value} {n : Nat} {x : Nat → Nat} (h : FRow w v n x) : (n = 0 ∧ ∃ a c, v = .slice a 0 c) ∨ (0 < n ∧ ∃ b off c, v = .slice (some ⟨b, off, none⟩) n c ∧ ∀ i, i < n → Fl.W (x i) ∧ w.cell? ⟨b, off + i, none⟩ = some (.float .f64 (x i))) := by
 obtain ⟨_, a, c, rfl, hc⟩ := h
 by_cases h0 : n = 0
 ·subst h0; exact .inl ⟨rfl, a, c, rfl⟩
 ·obtain ⟨b, off, rfl, _⟩ := hc 0 (by omega)
  refine .inr ⟨by omega, b, off, c, rfl, fun i hi => ?_⟩
  obtain ⟨b', off', e, q⟩ := hc i hi
  cases e; exact q
theorem sortF_any (v : Value) (n : Nat) (x : Nat → Nat) (hn : n ≤ 17592186044000) (w : World) (hv : FRow w v n x) :
    Calls Tryz.prog 95 #[v] w fun e w' => ∃ v' : Value, e = .returned v' ∧ FOwn w.heap.size w' v' (Fl.sortL x n) ∧ Old w w' := by
 rcases hv.cases with ⟨rfl, a, c, rfl⟩ | ⟨h0, b, off, c, rfl, hc⟩
 ·refine (floSort_none a c w).mono ?_
  rintro e w' ⟨⟨g, c2, rfl⟩, hu⟩
  exact ⟨_, rfl, ⟨g, c2, rfl, fun h => absurd h (by simp [Fl.sortL])⟩, hu⟩
 ·refine (floSort_some b off n c x hn h0 w hc).mono ?_
  rintro e w' ⟨g, c2, rfl, hb, hk, hu⟩
  refine ⟨_, rfl, ⟨_, c2, rfl, fun _ => ⟨g, rfl, hb, fun i hi => ?_⟩⟩, hu⟩
  have := hk i hi
  rw [List.getElem?_eq_getElem hi] at this
  exact this
theorem OwnF.fown {base : Nat} {w : World} {v : Value} {L : List Nat} (h : OwnF base w v L) : FOwn base w v L := by
 have h2 := h
 unfold OwnF at h2
 rcases h2.2 with ⟨rfl, e⟩ | ⟨g, cap, cur, rfl, hb, hg, hnc, hcm, hcs, htk⟩
 ·exact ⟨none, 0, by rw [e], fun hl => absurd hl (by omega)⟩
 ·refine ⟨_, cap, rfl, fun _ => ⟨g, rfl, hb, fun i hi => ⟨?_, h2.frozenAt i⟩⟩⟩
  rw [h2.cellAt i (by omega)]
  simp [fls, hi]
theorem sortR_any (v : Value) (n : Nat) (x : Nat → Nat) (hn : n ≤ 17592186044000) (w : World) (hv : FRow w v n x) :
    Calls Tryz.prog 54 #[v] w fun e w' => ∃ v' : Value, e = .returned v' ∧ FOwn w.heap.size w' v' (Fl.sortL x n) ∧ Old w w' := by
 rcases hv.cases with ⟨rfl, a, c, rfl⟩ | ⟨h0, b, off, c, rfl, hc⟩
 ·refine (refSort_none a c w).mono ?_
  rintro e w' ⟨⟨g, c2, rfl⟩, hu⟩
  exact ⟨_, rfl, ⟨g, c2, rfl, fun h => absurd h (by simp [Fl.sortL])⟩, hu⟩
 ·refine (sort_any b off n c x hn w hc).mono ?_
  rintro e w' ⟨v', rfl, ho, hu⟩
  exact ⟨v', rfl, ho.fown, hu⟩
theorem sameF (v1 v2 : Value) (n : Nat) (x : Nat → Nat) (w : World) (h1 : FRow w v1 n x) (h2 : FRow w v2 n x) :
    Calls Tryz.prog 29 #[v1, v2] w fun e w' => e = .returned (.bool true) ∧ Old w w' := by
 have hm := h1.1
 rcases h1.cases with ⟨rfl, a, c, rfl⟩ | ⟨h0, b, off, c, rfl, hc⟩ <;> rcases h2.cases with ⟨e0, a', c', rfl⟩ | ⟨h0', b', off', c', rfl, hc'⟩
 ·exact (sameKeys_none a a' c c' w).mono fun e w' h => ⟨h.1, by rw [h.2]; exact Old.refl _⟩
 ·omega
 ·omega
 ·exact sameKeys_eq b off c b' off' c' n x (by unfold maxLen; omega) w (fun i hi => (hc i hi).2) (fun i hi => (hc' i hi).2)
theorem sortL_W (x : Nat → Nat) (n : Nat) (hx : ∀ i, i < n → Fl.W (x i)) : ∀ y ∈ Fl.sortL x n, Fl.W y := fun y hy => ((Fl.sortL_all x n hx n (Nat.le_refl _)).2.1 y hy).1
theorem sortL_again (x : Nat → Nat) (n : Nat) (hx : ∀ i, i < n → Fl.W (x i)) : Fl.sortL (atN (Fl.sortL x n)) (Fl.sortL x n).length = Fl.sortL x n := by
 have a := Fl.sortL_all x n hx n (Nat.le_refl _)
 have hw : ∀ i, i < (Fl.sortL x n).length → Fl.W (atN (Fl.sortL x n) i) := fun i hi => by rw [atN_get _ i hi]; exact (a.2.1 _ (List.getElem_mem hi)).1
 have b := Fl.sortL_all (atN (Fl.sortL x n)) (Fl.sortL x n).length hw _ (Nat.le_refl _)
 refine Fl.asc_eq _ _ b.1 a.1 fun z => ?_
 rw [b.2.2 z]
 constructor
 ·rintro ⟨i, hi, rfl⟩
  rw [atN_get _ i hi, (a.2.1 _ (List.getElem_mem hi)).2]
  exact List.getElem_mem hi
 ·intro hz
  obtain ⟨i, hi, rfl⟩ := List.getElem_of_mem hz
  exact ⟨i, hi, by rw [atN_get _ i hi, (a.2.1 _ (List.getElem_mem hi)).2]⟩
end Go.Proofs.YtajoodkapiifcaaGreat
namespace Go.Proofs.YtajoodkapiifcaaGreat
set_option linter.unusedSimpArgs false
open Go.RowKit
set_option linter.unusedVariables false
attribute [local go_sem] run_bits run_frombits run_store_float eqF
def outB (n l : Int) : Bool := decide (n < l) || decide (1099511627776 < n)
def misB (s1 s2 s3 : Int) : Bool := outB s1 1 || outB s2 1 || outB s3 0
def crowdB (n1 n2 n3 : Nat) : Bool := decide (16 < n1) || decide (8 < n2) || decide (16 < n3)
abbrev SubAt (m : Nat) (s1 s2 s3 : Int) (v1 v2 v3 : Value) (w : World) : Prop := w.cell? ⟨m, 0, none⟩ = some (.int .i64 s1) ∧ w.cell? ⟨m, 1, none⟩ = some (.int .i64 s2) ∧ w.cell? ⟨m, 2, none⟩ = some (.int .i64 s3) ∧ w.cell? ⟨m, 3, none⟩ = some v1 ∧ w.cell? ⟨m, 4, none⟩ = some v2 ∧ w.cell? ⟨m, 5, none⟩ = some v3
theorem SubAt.old {m : Nat} {s1 s2 s3 : Int} {v1 v2 v3 : Value} {w w' : World} (u : Old w w') (h : SubAt m s1 s2 s3 v1 v2 v3 w) : SubAt m s1 s2 s3 v1 v2 v3 w' := ⟨u.keep h.1, u.keep h.2.1, u.keep h.2.2.1, u.keep h.2.2.2.1, u.keep h.2.2.2.2.1, u.keep h.2.2.2.2.2⟩
set_option maxHeartbeats 400000 in
set_option maxRecDepth 20000 in
theorem outside_any (n l : Int) (w : World) : Calls Tryz.prog 62 #[.int .i64 n, .int .i64 l] w fun e w' => e = .returned (.bool (outB n l)) ∧ w' = w := by
 have HB := hid (show outB n l = (decide (n < l) || decide (1099511627776 < n)) from rfl)
 by_cases h : n < l
 ·go_enter Tryz.func62, Tryz.ntmps62
  go_wp2
  go_ret
  exact ⟨ret_b (by rw [HB.out]; simp [h]), rfl⟩
 ·go_enter Tryz.func62, Tryz.ntmps62
  go_wp2
  go_ret
  exact ⟨ret_b (by rw [HB.out, Bool.eq_iff_iff]; simp; try omega), rfl⟩
set_option maxHeartbeats 1000000 in
set_option maxRecDepth 20000 in
theorem misnamed_any (s1 s2 s3 : Int) (v1 v2 v3 : Value) (w : World) : Calls Tryz.prog 35 #[.agg #[.int .i64 s1, .int .i64 s2, .int .i64 s3, v1, v2, v3]] w fun e w' => e = .returned (.bool (misB s1 s2 s3)) ∧ Old w w' := by
 have H1 := fun W => outside_any s1 1 W
 have H2 := fun W => outside_any s2 1 W
 have H3 := fun W => outside_any s3 0 W
 have HB := hid (show misB s1 s2 s3 = (outB s1 1 || outB s2 1 || outB s3 0) from rfl)
 cases h1 : outB s1 1 <;> cases h2 : outB s2 1
 all_goals
  rw [h1] at H1
  rw [h2] at H2
  rw [h1, h2] at HB
  generalize outB s3 0 = r3 at *
  have K1 := hid H1
  have K2 := hid H2
  have K3 := hid H3
  clear H1 H2 H3 h1 h2
  go_enter Tryz.func35, Tryz.ntmps35
  go_wp2_with (first | (go_at_call_of 62 (Value.int IntKind.i64 s1); refine (K1.out _).mono ?_; rintro o w5 ⟨rfl, rfl⟩) | (go_at_call_of 62 (Value.int IntKind.i64 s2); refine (K2.out _).mono ?_; rintro o w5 ⟨rfl, rfl⟩) | (go_at_call_of 62 (Value.int IntKind.i64 s3); refine (K3.out _).mono ?_; rintro o w5 ⟨rfl, rfl⟩))
  go_ret
  exact ⟨ret_b (by rw [HB.out]; simp), (Old.refl w).alloc _⟩
set_option maxHeartbeats 1000000 in
set_option maxRecDepth 20000 in
theorem crowded_any (s1 s2 s3 : Int) (a1 a2 a3 : Option Addr) (n1 n2 n3 c1 c2 c3 : Nat) (w : World) : Calls Tryz.prog 36 #[.agg #[.int .i64 s1, .int .i64 s2, .int .i64 s3, .slice a1 n1 c1, .slice a2 n2 c2, .slice a3 n3 c3]] w fun e w' => e = .returned (.bool (crowdB n1 n2 n3)) ∧ Old w w' := by
 have HB := hid (show crowdB n1 n2 n3 = (decide (16 < n1) || decide (8 < n2) || decide (16 < n3)) from rfl)
 by_cases h1 : 16 < n1 <;> by_cases h2 : 8 < n2
 all_goals
  have t1 := h1
  have t2 := h2
  go_enter Tryz.func36, Tryz.ntmps36
  go_wp2
  go_ret
  exact ⟨ret_b (by rw [HB.out, Bool.eq_iff_iff]; simp; try omega), (Old.refl w).alloc _⟩
set_option maxHeartbeats 1000000 in
set_option maxRecDepth 20000 in
theorem keyless_any (s1 s2 s3 : Int) (v1 v2 v3 : Value) (n1 n3 : Nat) (x1 x3 : Nat → Nat) (w : World) (h1 : FRow w v1 n1 x1) (h3 : FRow w v3 n3 x3) : Calls Tryz.prog 37 #[.agg #[.int .i64 s1, .int .i64 s2, .int .i64 s3, v1, v2, v3]] w fun e w' => e = .returned (.bool (Fl.anyG (fun i => Fl.nan (x1 i)) n1 || Fl.anyG (fun i => Fl.nan (x3 i)) n3)) ∧ Old w w' := by
 have K1 := hid (fun W (hW : Old w W) => nans_any v1 n1 x1 W (h1.old hW))
 have K3 := hid (fun W (hW : Old w W) => nans_any v3 n3 x3 W (h3.old hW))
 clear h1 h3
 generalize hr : Fl.anyG (fun i => Fl.nan (x1 i)) n1 = r1 at *
 generalize Fl.anyG (fun i => Fl.nan (x3 i)) n3 = r3 at *
 clear hr
 have s0 : SubAt w.heap.size s1 s2 s3 v1 v2 v3 (w.alloc (.cells #[.int .i64 s1, .int .i64 s2, .int .i64 s3, v1, v2, v3] 28)) := by simp [SubAt]
 have HS := hid s0
 clear s0
 cases r1
 all_goals
  go_enter Tryz.func37, Tryz.ntmps37
  go_wp2_with (first | (go_at_call_of 18 v1; refine (K1.out _ ((Old.refl w).alloc _)).mono ?_; rintro o w5 ⟨rfl, u5⟩; have U5 := hid (((Old.refl w).alloc _).trans u5); have S5 := SubAt.old u5 HS.out; obtain ⟨_, _, _, e3, e4, e5⟩ := S5; clear u5) | (go_at_call_of 18 v3; refine (K3.out _ U5.out).mono ?_; rintro o w6 ⟨rfl, u6⟩; have U6 := hid (U5.out.trans u6); clear u6))
  go_ret
  first | exact ⟨ret_b (by simp), U6.out⟩ | exact ⟨ret_b (by simp), U5.out⟩
end Go.Proofs.YtajoodkapiifcaaGreat
namespace Go.Proofs.YtajoodkapiifcaaGreat
set_option linter.unusedSimpArgs false
abbrev oWd0 : Oper := { dst := some 3, op := .fieldAddr 28 (.tmp 1) 3, type := 0, pos := "sub.go:53", after := #[], guard := none }
abbrev oWd1 : Oper := { dst := some 6, op := .fieldAddr 28 (.tmp 1) 4, type := 0, pos := "sub.go:53", after := #[], guard := none }
abbrev oWd2 : Oper := { dst := some 9, op := .fieldAddr 28 (.tmp 1) 5, type := 0, pos := "sub.go:53", after := #[], guard := none }
abbrev oWd3 : Oper := { dst := some 4, op := .load 25 (.tmp 3), type := 25, pos := "sub.go:53", after := #[⟨0, .data⟩], guard := none }
abbrev oWd4 : Oper := { dst := some 7, op := .load 26 (.tmp 6), type := 26, pos := "sub.go:53", after := #[⟨3, .data⟩], guard := none }
abbrev oWd5 : Oper := { dst := some 10, op := .load 25 (.tmp 9), type := 25, pos := "sub.go:53", after := #[⟨6, .data⟩], guard := none }
abbrev oWd6 : Oper := { dst := some 5, op := .call { callee := Callee.value (.func 95), args := #[.tmp 4], argTypes := #[25] }, type := 25, pos := "sub.go:53", after := #[⟨1, .data⟩], guard := none }
abbrev oWd7 : Oper := { dst := some 8, op := .call { callee := Callee.value (.func 96), args := #[.tmp 7], argTypes := #[26] }, type := 26, pos := "sub.go:53", after := #[⟨4, .data⟩, ⟨2, .chain⟩], guard := none }
abbrev oWd8 : Oper := { dst := some 12, op := .fieldAddr 28 (.tmp 1) 3, type := 0, pos := "sub.go:53", after := #[⟨0, .phase⟩, ⟨1, .phase⟩, ⟨2, .phase⟩, ⟨3, .phase⟩, ⟨4, .phase⟩, ⟨5, .textOnly Departure.lateStoresUnsure⟩, ⟨6, .phase⟩, ⟨7, .phase⟩, ⟨8, .textOnly Departure.lateStoresUnsure⟩], guard := none }
abbrev oWd9 : Oper := { dst := some 11, op := .call { callee := Callee.value (.func 95), args := #[.tmp 10], argTypes := #[25] }, type := 25, pos := "sub.go:53", after := #[⟨7, .data⟩, ⟨5, .chain⟩], guard := none }
abbrev oWd10 : Oper := { dst := none, op := .store 25 (.tmp 12) (.tmp 5), type := 0, pos := "sub.go:53", after := #[⟨9, .data⟩, ⟨2, .data⟩, ⟨8, .chain⟩, ⟨0, .phase⟩, ⟨1, .phase⟩, ⟨2, .phase⟩, ⟨3, .phase⟩, ⟨4, .phase⟩, ⟨5, .textOnly Departure.lateStoresUnsure⟩, ⟨6, .phase⟩, ⟨7, .phase⟩, ⟨8, .textOnly Departure.lateStoresUnsure⟩], guard := none }
abbrev oWd11 : Oper := { dst := some 13, op := .fieldAddr 28 (.tmp 1) 4, type := 0, pos := "sub.go:53", after := #[⟨0, .phase⟩, ⟨1, .phase⟩, ⟨2, .phase⟩, ⟨3, .phase⟩, ⟨4, .phase⟩, ⟨5, .phase⟩, ⟨6, .phase⟩, ⟨7, .phase⟩, ⟨8, .textOnly Departure.lateStoresUnsure⟩, ⟨9, .phase⟩, ⟨10, .phase⟩], guard := none }
abbrev oWd12 : Oper := { dst := none, op := .store 26 (.tmp 13) (.tmp 8), type := 0, pos := "sub.go:53", after := #[⟨11, .data⟩, ⟨5, .data⟩, ⟨10, .chain⟩, ⟨0, .phase⟩, ⟨1, .phase⟩, ⟨2, .phase⟩, ⟨3, .phase⟩, ⟨4, .phase⟩, ⟨5, .phase⟩, ⟨6, .phase⟩, ⟨7, .phase⟩, ⟨8, .textOnly Departure.lateStoresUnsure⟩, ⟨9, .phase⟩, ⟨10, .phase⟩], guard := none }
abbrev oWd13 : Oper := { dst := some 14, op := .fieldAddr 28 (.tmp 1) 5, type := 0, pos := "sub.go:53", after := #[⟨0, .phase⟩, ⟨1, .phase⟩, ⟨2, .phase⟩, ⟨3, .phase⟩, ⟨4, .phase⟩, ⟨5, .phase⟩, ⟨6, .phase⟩, ⟨7, .phase⟩, ⟨8, .phase⟩, ⟨9, .phase⟩, ⟨10, .phase⟩, ⟨11, .phase⟩, ⟨12, .phase⟩], guard := none }
abbrev oWd14 : Oper := { dst := none, op := .store 25 (.tmp 14) (.tmp 11), type := 0, pos := "sub.go:53", after := #[⟨13, .data⟩, ⟨8, .data⟩, ⟨12, .chain⟩, ⟨0, .phase⟩, ⟨1, .phase⟩, ⟨2, .phase⟩, ⟨3, .phase⟩, ⟨4, .phase⟩, ⟨5, .phase⟩, ⟨6, .phase⟩, ⟨7, .phase⟩, ⟨8, .phase⟩, ⟨9, .phase⟩, ⟨10, .phase⟩, ⟨11, .phase⟩, ⟨12, .phase⟩], guard := none }
open Go.RowKit
set_option linter.unusedVariables false
attribute [local go_sem] run_bits run_frombits run_store_float eqF
theorem ent_sort (args : Array Value) (w : World) : (callFunc 95 args).run Tryz.prog w = .ok (.enter 95 args) w := by kernel_rfl
theorem ent_norm (args : Array Value) (w : World) : (callFunc 96 args).run Tryz.prog w = .ok (.enter 96 args) w := by kernel_rfl
theorem stepLoadFL {ops : Array Oper} {o : Oper} {a : Act} {w : World} {K : Act → World → Prop} {Q : Exit → Act → World → Prop} {E : Prop} (hg : o.guard = none) (x : Operand) (hop : o.op = Op.load 25 x) (b off : Nat) (p : Option Addr) (n c : Nat)
    (hx : a.eval x = .pointer (some ⟨b, off, none⟩)) (hc : w.cell? ⟨b, off, none⟩ = some (.slice p n c)) (hK : K (a.put o.dst (.slice p n c)) w) :
    if Region.wanted o (yielded ops a.tmps) = true then Oper.wp Tryz.prog o a w K Q else E := by
 have hw : Region.wanted o (yielded ops a.tmps) = true := by simp [Region.wanted, hg]
 rw [if_pos hw]
 obtain ⟨d, p, t, ps, af, gd⟩ := o
 subst hop
 unfold Oper.wp execOp
 simp only [hx]
 go_simp
 exact hK
theorem stepLoadSL {ops : Array Oper} {o : Oper} {a : Act} {w : World} {K : Act → World → Prop} {Q : Exit → Act → World → Prop} {E : Prop} (hg : o.guard = none) (x : Operand) (hop : o.op = Op.load 26 x) (b off : Nat) (p : Option Addr) (n c : Nat)
    (hx : a.eval x = .pointer (some ⟨b, off, none⟩)) (hc : w.cell? ⟨b, off, none⟩ = some (.slice p n c)) (hK : K (a.put o.dst (.slice p n c)) w) :
    if Region.wanted o (yielded ops a.tmps) = true then Oper.wp Tryz.prog o a w K Q else E := by
 have hw : Region.wanted o (yielded ops a.tmps) = true := by simp [Region.wanted, hg]
 rw [if_pos hw]
 obtain ⟨d, p, t, ps, af, gd⟩ := o
 subst hop
 unfold Oper.wp execOp
 simp only [hx]
 go_simp
 exact hK
theorem stepStoreFL {ops : Array Oper} {o : Oper} {a : Act} {w : World} {K : Act → World → Prop} {Q : Exit → Act → World → Prop} {E : Prop} (hg : o.guard = none) (x y : Operand) (hop : o.op = Op.store 25 x y) (m off : Nat) (p : Option Addr) (n c : Nat)
    (hx : a.eval x = .pointer (some ⟨m, off, none⟩)) (hy : a.eval y = .slice p n c) (ht : (∃ z, w.cell? ⟨m, off, none⟩ = some z) ∧ w.frozen? ⟨m, off, none⟩ = false)
    (hK : K (a.put o.dst undef) (w.setCell ⟨m, off, none⟩ (.slice p n c))) :
    if Region.wanted o (yielded ops a.tmps) = true then Oper.wp Tryz.prog o a w K Q else E := by
 have hw : Region.wanted o (yielded ops a.tmps) = true := by simp [Region.wanted, hg]
 rw [if_pos hw]
 obtain ⟨⟨z, hz⟩, h2⟩ := ht
 obtain ⟨d, p, t, ps, af, gd⟩ := o
 subst hop
 unfold Oper.wp execOp
 simp only [hx, hy]
 go_simp
 exact hK
theorem stepStoreSL {ops : Array Oper} {o : Oper} {a : Act} {w : World} {K : Act → World → Prop} {Q : Exit → Act → World → Prop} {E : Prop} (hg : o.guard = none) (x y : Operand) (hop : o.op = Op.store 26 x y) (m off : Nat) (p : Option Addr) (n c : Nat)
    (hx : a.eval x = .pointer (some ⟨m, off, none⟩)) (hy : a.eval y = .slice p n c) (ht : (∃ z, w.cell? ⟨m, off, none⟩ = some z) ∧ w.frozen? ⟨m, off, none⟩ = false)
    (hK : K (a.put o.dst undef) (w.setCell ⟨m, off, none⟩ (.slice p n c))) :
    if Region.wanted o (yielded ops a.tmps) = true then Oper.wp Tryz.prog o a w K Q else E := by
 have hw : Region.wanted o (yielded ops a.tmps) = true := by simp [Region.wanted, hg]
 rw [if_pos hw]
 obtain ⟨⟨z, hz⟩, h2⟩ := ht
 obtain ⟨d, p, t, ps, af, gd⟩ := o
 subst hop
 unfold Oper.wp execOp
 simp only [hx, hy]
 go_simp
 exact hK
structure Th (m : Nat) (w : World) : Prop where
 t3 : (∃ z, w.cell? ⟨m, 3, none⟩ = some z) ∧ w.frozen? ⟨m, 3, none⟩ = false
 t4 : (∃ z, w.cell? ⟨m, 4, none⟩ = some z) ∧ w.frozen? ⟨m, 4, none⟩ = false
 t5 : (∃ z, w.cell? ⟨m, 5, none⟩ = some z) ∧ w.frozen? ⟨m, 5, none⟩ = false
theorem cell_set {w : World} {m o j : Nat} {z : Value} (h : w.cell? ⟨m, j, none⟩ = some z) (v : Value) : ∃ y, (w.setCell ⟨m, o, none⟩ v).cell? ⟨m, j, none⟩ = some y := by
 by_cases e : j = o
 ·subst e; exact ⟨v, World.cell?_setCell_same _ _ _ h⟩
 ·exact ⟨z, by rw [World.cell?_setCell_other _ _ _ _ (fun q => e (by cases q; rfl))]; exact h⟩
theorem Th.set {m : Nat} {w : World} (h : Th m w) (o : Nat) (v : Value) : Th m (w.setCell ⟨m, o, none⟩ v) := by
 obtain ⟨⟨⟨a, ha⟩, a2⟩, ⟨⟨b, hb⟩, b2⟩, ⟨⟨c, hc⟩, c2⟩⟩ := h
 exact ⟨⟨cell_set ha v, by simpa using a2⟩, ⟨cell_set hb v, by simpa using b2⟩, ⟨cell_set hc v, by simpa using c2⟩⟩
theorem FOwn.len' {base : Nat} {w : World} {v : Value} {L : List Nat} (h : FOwn base w v L) : ∃ p c, v = .slice p L.length c := by obtain ⟨p, c, e, _⟩ := h; exact ⟨p, c, e⟩
theorem OwnS.len' {base : Nat} {w : World} {v : Value} {L : List Sp} (h : OwnS base w v L) : ∃ p c, v = .slice p L.length c := h.len
theorem FOwn.mono' {base b' : Nat} {w : World} {v : Value} {L : List Nat} (h : FOwn base w v L) (hb : b' ≤ base) : FOwn b' w v L := by
 obtain ⟨p, c, e, k⟩ := h
 exact ⟨p, c, e, fun hl => by obtain ⟨g, q, hg, r⟩ := k hl; exact ⟨g, q, by omega, r⟩⟩
theorem OwnS.mono' {base b' : Nat} {w : World} {v : Value} {L : List Sp} (h : OwnS base w v L) (hb : b' ≤ base) : OwnS b' w v L := h.mono hb
theorem FOwn.set1 {base m : Nat} {w : World} {v : Value} {L : List Nat} (h : FOwn base w v L) (hm : m < base) (o : Nat) (u : Value) : FOwn base (w.setCell ⟨m, o, none⟩ u) v L := by
 obtain ⟨p, c, e, k⟩ := h
 refine ⟨p, c, e, fun hl => ?_⟩
 obtain ⟨g, q, hg, r⟩ := k hl
 refine ⟨g, q, hg, fun i hi => ⟨?_, by simpa using (r i hi).2⟩⟩
 rw [World.cell?_setCell_far w ⟨m, o, none⟩ ⟨g, i, none⟩ u (by show m ≠ g; omega)]; exact (r i hi).1
theorem FOwn.set3 {base m : Nat} {w : World} {v : Value} {L : List Nat} (h : FOwn base w v L) (hm : m < base) (x y z : Value) : FOwn base (((w.setCell ⟨m, 3, none⟩ x).setCell ⟨m, 4, none⟩ y).setCell ⟨m, 5, none⟩ z) v L := ((h.set1 hm 3 x).set1 hm 4 y).set1 hm 5 z
theorem OwnS.set3 {base m : Nat} {w : World} {v : Value} {L : List Sp} (h : OwnS base w v L) (hm : m < base) (x y z : Value) : OwnS base (((w.setCell ⟨m, 3, none⟩ x).setCell ⟨m, 4, none⟩ y).setCell ⟨m, 5, none⟩ z) v L :=
 ownsRow_setCell_below (ownsRow_setCell_below (ownsRow_setCell_below h (by show m < base; exact hm) _) (by show m < base; exact hm) _) (by show m < base; exact hm) _
theorem SubAt.set3 {m : Nat} {s1 s2 s3 : Int} {v1 v2 v3 : Value} {w : World} (h : SubAt m s1 s2 s3 v1 v2 v3 w) (x y z : Value) : SubAt m s1 s2 s3 x y z (((w.setCell ⟨m, 3, none⟩ x).setCell ⟨m, 4, none⟩ y).setCell ⟨m, 5, none⟩ z) := by
 obtain ⟨h0, h1, h2, h3, h4, h5⟩ := h
 have F : ∀ (W : World) (o j : Nat) (u : Value), o ≠ j → (W.setCell ⟨m, o, none⟩ u).cell? ⟨m, j, none⟩ = W.cell? ⟨m, j, none⟩ := fun W o j u hn => World.cell?_setCell_other _ _ _ _ (fun q => hn (by cases q; rfl))
 refine ⟨?_, ?_, ?_, ?_, ?_, ?_⟩
 ·rw [F _ 5 0 _ (by decide), F _ 4 0 _ (by decide), F _ 3 0 _ (by decide)]; exact h0
 ·rw [F _ 5 1 _ (by decide), F _ 4 1 _ (by decide), F _ 3 1 _ (by decide)]; exact h1
 ·rw [F _ 5 2 _ (by decide), F _ 4 2 _ (by decide), F _ 3 2 _ (by decide)]; exact h2
 ·rw [F _ 5 3 _ (by decide), F _ 4 3 _ (by decide)]; exact World.cell?_setCell_same _ _ _ h3
 ·rw [F _ 5 4 _ (by decide)]; exact World.cell?_setCell_same _ _ _ (by rw [F _ 3 4 _ (by decide)]; exact h4)
 ·exact World.cell?_setCell_same _ _ _ (by rw [F _ 4 5 _ (by decide), F _ 3 5 _ (by decide)]; exact h5)
set_option maxHeartbeats 8000000 in
set_option maxRecDepth 20000 in
theorem form_any (s1 s2 s3 : Int) (a1 a2 a3 : Option Addr) (n1 n2 n3 c1 c2 c3 : Nat) (x1 x3 : Nat → Nat) (f2 : Nat → Sp) (b1 : n1 ≤ 17592186044000) (b2 : n2 ≤ 5864062014805) (b3 : n3 ≤ 17592186044000) (w : World) (h1 : FRow w (.slice a1 n1 c1) n1 x1) (h2 : SRow w (.slice a2 n2 c2) n2 f2) (h3 : FRow w (.slice a3 n3 c3) n3 x3) :
    Calls Tryz.prog 67 #[.agg #[.int .i64 s1, .int .i64 s2, .int .i64 s3, .slice a1 n1 c1, .slice a2 n2 c2, .slice a3 n3 c3]] w fun e w' => ∃ (p1 p2 p3 : Option Addr) (q1 q2 q3 : Nat), e = .returned (.agg #[.int .i64 s1, .int .i64 s2, .int .i64 s3, .slice p1 (Fl.sortL x1 n1).length q1, .slice p2 (Fl.dfold (Fl.cdl f2 n2)).length q2, .slice p3 (Fl.sortL x3 n3).length q3]) ∧ FOwn w.heap.size w' (.slice p1 (Fl.sortL x1 n1).length q1) (Fl.sortL x1 n1) ∧ OwnS w.heap.size w' (.slice p2 (Fl.dfold (Fl.cdl f2 n2)).length q2) ((Fl.dfold (Fl.cdl f2 n2)).map Fl.spo) ∧ FOwn w.heap.size w' (.slice p3 (Fl.sortL x3 n3).length q3) (Fl.sortL x3 n3) ∧ Old w w' := by
 have hl2 : ((Fl.dfold (Fl.cdl f2 n2)).map Fl.spo).length = (Fl.dfold (Fl.cdl f2 n2)).length := List.length_map ..
 have HL2 := hid hl2
 have k1 := fun W (hW : Old w W) => sortF_any (.slice a1 n1 c1) n1 x1 b1 W (h1.old hW)
 have k2 := fun W (hW : Old w W) => norm_any (.slice a2 n2 c2) n2 f2 b2 W (h2.old hW)
 have k3 := fun W (hW : Old w W) => sortF_any (.slice a3 n3 c3) n3 x3 b3 W (h3.old hW)
 generalize Fl.sortL x1 n1 = L1 at *
 generalize Fl.sortL x3 n3 = L3 at *
 generalize (Fl.dfold (Fl.cdl f2 n2)).map Fl.spo = L2 at *
 rw [← hl2]
 clear hl2 h1 h2 h3
 obtain ⟨w0, hw0⟩ : ∃ w0, w0 = ((w.alloc (.cells #[.int .i64 s1, .int .i64 s2, .int .i64 s3, .slice a1 n1 c1, .slice a2 n2 c2, .slice a3 n3 c3] 28)).alloc (.cells #[.int .i64 0, .int .i64 0, .int .i64 0, .slice none 0 0, .slice none 0 0, .slice none 0 0] 28)) := ⟨_, rfl⟩
 have hs0 : SubAt w.heap.size s1 s2 s3 (.slice a1 n1 c1) (.slice a2 n2 c2) (.slice a3 n3 c3) w0 := by rw [hw0]; simp [SubAt]
 have hf0 : w0.frozen? ⟨w.heap.size, 3, none⟩ = false ∧ w0.frozen? ⟨w.heap.size, 4, none⟩ = false ∧ w0.frozen? ⟨w.heap.size, 5, none⟩ = false := by rw [hw0]; simp
 have U0 : Old w w0 := by rw [hw0]; exact ((Old.refl w).alloc _).alloc _
 have hz0 : w0.heap.size = w.heap.size + 2 := by rw [hw0]; simp
 have HW0 := hid hw0
 go_enter Tryz.func67, Tryz.ntmps67
 go_upto_region 1 with fail
 rw [← HW0.out]
 have K1 := hid (fun W (hW : Old w0 W) => k1 W (U0.trans hW))
 have K2 := hid (fun W (hW : Old w0 W) => k2 W (U0.trans hW))
 have K3 := hid (fun W (hW : Old w0 W) => k3 W (U0.trans hW))
 generalize hm : w.heap.size = m at *
 have HMm := hid hm
 have HR1 : Hid (SubAt (m + 1) 0 0 0 (.slice none 0 0) (.slice none 0 0) (.slice none 0 0) w0 ∧ w0.frozen? ⟨m + 1, 0, none⟩ = false ∧ w0.frozen? ⟨m + 1, 1, none⟩ = false ∧ w0.frozen? ⟨m + 1, 2, none⟩ = false ∧ w0.frozen? ⟨m + 1, 3, none⟩ = false ∧ w0.frozen? ⟨m + 1, 4, none⟩ = false ∧ w0.frozen? ⟨m + 1, 5, none⟩ = false) := by
  show _ ∧ _
  rw [HW0.out, ← HMm.out]
  simp [SubAt]
 have HS1 := hid (fun W (hW : Old w0 W) => SubAt.old hW hs0)
 have HS0 := hid (fun W (hW : Old w0 W) => (SubAt.old hW hs0).2.2.2)
 have HT0 := hid (fun W (hW : Old w0 W) => (⟨⟨⟨_, (SubAt.old hW hs0).2.2.2.1⟩, hW.keepF hs0.2.2.2.1 hf0.1⟩, ⟨⟨_, (SubAt.old hW hs0).2.2.2.2.1⟩, hW.keepF hs0.2.2.2.2.1 hf0.2.1⟩, ⟨⟨_, (SubAt.old hW hs0).2.2.2.2.2⟩, hW.keepF hs0.2.2.2.2.2 hf0.2.2⟩⟩ : Th m W))
 have hmb : m < w0.heap.size := by omega
 have HUm : Hid (∀ (W : World) (o : Nat) (v : Value), Old w W → Old w (W.setCell ⟨m, o, none⟩ v)) := fun W o v h => h.setCell (by show w.heap.size ≤ m; rw [HMm.out]; exact Nat.le_refl _) v
 have HRet : Hid (∀ W, Old w0 W → ∀ x y z : Value, (fun wx : World => SubAt (m + 1) 0 0 0 (.slice none 0 0) (.slice none 0 0) (.slice none 0 0) wx ∧ wx.frozen? ⟨m + 1, 0, none⟩ = false ∧ wx.frozen? ⟨m + 1, 1, none⟩ = false ∧ wx.frozen? ⟨m + 1, 2, none⟩ = false ∧ wx.frozen? ⟨m + 1, 3, none⟩ = false ∧ wx.frozen? ⟨m + 1, 4, none⟩ = false ∧ wx.frozen? ⟨m + 1, 5, none⟩ = false) (((W.setCell ⟨m, 3, none⟩ x).setCell ⟨m, 4, none⟩ y).setCell ⟨m, 5, none⟩ z)) := fun W hW x y z => by
  obtain ⟨⟨r0, r1, r2, r3, r4, r5⟩, f0, f1, f2', f3, f4, f5⟩ := HR1.out
  have F : ∀ (W : World) (o j : Nat) (u : Value), (W.setCell ⟨m, o, none⟩ u).cell? ⟨m + 1, j, none⟩ = W.cell? ⟨m + 1, j, none⟩ := fun W o j u => World.cell?_setCell_far W ⟨m, o, none⟩ ⟨m + 1, j, none⟩ u (by show m ≠ m + 1; omega)
  refine ⟨⟨?_, ?_, ?_, ?_, ?_, ?_⟩, ?_, ?_, ?_, ?_, ?_, ?_⟩
  ·rw [F, F, F]; exact hW.keep r0
  ·rw [F, F, F]; exact hW.keep r1
  ·rw [F, F, F]; exact hW.keep r2
  ·rw [F, F, F]; exact hW.keep r3
  ·rw [F, F, F]; exact hW.keep r4
  ·rw [F, F, F]; exact hW.keep r5
  ·simpa using hW.keepF r0 f0
  ·simpa using hW.keepF r1 f1
  ·simpa using hW.keepF r2 f2'
  ·simpa using hW.keepF r3 f3
  ·simpa using hW.keepF r4 f4
  ·simpa using hW.keepF r5 f5
 clear hs0 hf0 hw0 k1 k2 k3 HW0
 go_cut [] (fun wx => ∃ (p1 p2 p3 : Option Addr) (q1 q2 q3 : Nat), SubAt m s1 s2 s3 (.slice p1 L1.length q1) (.slice p2 L2.length q2) (.slice p3 L3.length q3) wx ∧ FOwn w0.heap.size wx (.slice p1 L1.length q1) L1 ∧ OwnS w0.heap.size wx (.slice p2 L2.length q2) L2 ∧ FOwn w0.heap.size wx (.slice p3 L3.length q3) L3 ∧ Old w wx ∧ (SubAt (m + 1) 0 0 0 (.slice none 0 0) (.slice none 0 0) (.slice none 0 0) wx ∧ wx.frozen? ⟨m + 1, 0, none⟩ = false ∧ wx.frozen? ⟨m + 1, 1, none⟩ = false ∧ wx.frozen? ⟨m + 1, 2, none⟩ = false ∧ wx.frozen? ⟨m + 1, 3, none⟩ = false ∧ wx.frozen? ⟨m + 1, 4, none⟩ = false ∧ wx.frozen? ⟨m + 1, 5, none⟩ = false))
 case first =>
  focus
   refine wp_region_noPanic ?_
   refine wp_region_held_drew (S := fun _ => True) (by kernel_rfl) ?_ (fun hHeld => ?_)
   ·exact trivial
   try simp only [Act.put, puA, puB, puC]
   clear hHeld
   all_goals
    refine atA [false, false, false, false, false, false, false, false, false, false, false, false, false, false, false] ?_
    refine tkA (i := 0) (oi := oWd0) trivial ?_
    try simp only [Act.put, puA, puB, puC]
    refine tkA (i := 3) (oi := oWd1) trivial ?_
    try simp only [Act.put, puA, puB, puC]
    refine tkA (i := 6) (oi := oWd2) trivial ?_
    try simp only [Act.put, puA, puB, puC]
    refine rdA [1, 4, 7] ?_
    refine AllReadyH.cons (o := oWd3) rfl (fun K hK => ?_) (AllReadyH.cons (o := oWd4) rfl (fun K hK => ?_) (AllReadyH.cons (o := oWd5) rfl (fun K hK => ?_) AllReadyH.nil))
    refine stepLoadFL ?_ (.tmp 3) ?_ m 3 a1 n1 c1 ?_ (HS0.out _ ((Old.refl w0).drew)).1 ?_
    iterate 3 rfl
    refine hK.out _ _ trivial (fun _ => ?_)
    clear hK K
    try simp only [Act.put, puA, puB, puC]
    rotate_left
    refine stepLoadSL ?_ (.tmp 6) ?_ m 4 a2 n2 c2 ?_ (HS0.out _ ((Old.refl w0).drew)).2.1 ?_
    iterate 3 rfl
    refine hK.out _ _ trivial (fun _ => ?_)
    clear hK K
    try simp only [Act.put, puA, puB, puC]
    rotate_left
    refine stepLoadFL ?_ (.tmp 9) ?_ m 5 a3 n3 c3 ?_ (HS0.out _ ((Old.refl w0).drew)).2.2 ?_
    iterate 3 rfl
    refine hK.out _ _ trivial (fun _ => ?_)
    clear hK K
    try simp only [Act.put, puA, puB, puC]
    rotate_left
   all_goals first
    |refine atA [true, true, false, true, false, false, true, false, false, false, false, false, false, false, false] ?_
     refine rdA [2, 4, 7] ?_
     refine AllReadyH.cons (o := oWd6) rfl (fun K hK => ?_) (AllReadyH.cons (o := oWd4) rfl (fun K hK => ?_) (AllReadyH.cons (o := oWd5) rfl (fun K hK => ?_) AllReadyH.nil))
     refine stepCall1 ?_ 95 (.tmp 4) #[25] ?_ (.slice a1 n1 c1) ?_ ?_ (ent_sort _ _) ?_
     iterate 4 rfl
     refine (K1.out _ ((Old.refl w0).drew)).mono ?_
     rintro o x100n ⟨r1, rfl, g1, u100n⟩
     obtain ⟨p1, q1, hr1⟩ := g1.len'
     subst hr1
     refine ⟨_, rfl, ?_⟩
     have U100n := ((Old.refl w0).drew).trans u100n
     replace g1 := g1.mono' ((Old.refl w0).drew).size
     refine hK.out _ _ trivial (fun _ => ?_)
     clear hK K
     try simp only [Act.put, puA, puB, puC]
     have UU_100 := U100n
     obtain ⟨xw_100, rfl⟩ : ∃ z, z = x100n := ⟨_, rfl⟩
     rotate_left
     refine stepLoadSL ?_ (.tmp 6) ?_ m 4 a2 n2 c2 ?_ (HS0.out _ ((Old.refl w0).drew)).2.1 ?_
     iterate 3 rfl
     refine hK.out _ _ trivial (fun _ => ?_)
     clear hK K
     try simp only [Act.put, puA, puB, puC]
     rotate_left
     refine stepLoadFL ?_ (.tmp 9) ?_ m 5 a3 n3 c3 ?_ (HS0.out _ ((Old.refl w0).drew)).2.2 ?_
     iterate 3 rfl
     refine hK.out _ _ trivial (fun _ => ?_)
     clear hK K
     try simp only [Act.put, puA, puB, puC]
     rotate_left
    |refine atA [true, false, false, true, true, false, true, false, false, false, false, false, false, false, false] ?_
     refine rdA [1, 7] ?_
     refine AllReadyH.cons (o := oWd3) rfl (fun K hK => ?_) (AllReadyH.cons (o := oWd5) rfl (fun K hK => ?_) AllReadyH.nil)
     refine stepLoadFL ?_ (.tmp 3) ?_ m 3 a1 n1 c1 ?_ (HS0.out _ ((Old.refl w0).drew)).1 ?_
     iterate 3 rfl
     refine hK.out _ _ trivial (fun _ => ?_)
     clear hK K
     try simp only [Act.put, puA, puB, puC]
     rotate_left
     refine stepLoadFL ?_ (.tmp 9) ?_ m 5 a3 n3 c3 ?_ (HS0.out _ ((Old.refl w0).drew)).2.2 ?_
     iterate 3 rfl
     refine hK.out _ _ trivial (fun _ => ?_)
     clear hK K
     try simp only [Act.put, puA, puB, puC]
     rotate_left
    |refine atA [true, false, false, true, false, false, true, true, false, false, false, false, false, false, false] ?_
     refine rdA [1, 4] ?_
     refine AllReadyH.cons (o := oWd3) rfl (fun K hK => ?_) (AllReadyH.cons (o := oWd4) rfl (fun K hK => ?_) AllReadyH.nil)
     refine stepLoadFL ?_ (.tmp 3) ?_ m 3 a1 n1 c1 ?_ (HS0.out _ ((Old.refl w0).drew)).1 ?_
     iterate 3 rfl
     refine hK.out _ _ trivial (fun _ => ?_)
     clear hK K
     try simp only [Act.put, puA, puB, puC]
     rotate_left
     refine stepLoadSL ?_ (.tmp 6) ?_ m 4 a2 n2 c2 ?_ (HS0.out _ ((Old.refl w0).drew)).2.1 ?_
     iterate 3 rfl
     refine hK.out _ _ trivial (fun _ => ?_)
     clear hK K
     try simp only [Act.put, puA, puB, puC]
     rotate_left
   all_goals first
    |refine atA [true, true, true, true, false, false, true, false, false, false, false, false, false, false, false] ?_
     refine rdA [4, 7] ?_
     refine AllReadyH.cons (o := oWd4) rfl (fun K hK => ?_) (AllReadyH.cons (o := oWd5) rfl (fun K hK => ?_) AllReadyH.nil)
     refine stepLoadSL ?_ (.tmp 6) ?_ m 4 a2 n2 c2 ?_ (HS0.out _ UU_100).2.1 ?_
     iterate 3 rfl
     refine hK.out _ _ trivial (fun _ => ?_)
     clear hK K
     try simp only [Act.put, puA, puB, puC]
     rotate_left
     refine stepLoadFL ?_ (.tmp 9) ?_ m 5 a3 n3 c3 ?_ (HS0.out _ UU_100).2.2 ?_
     iterate 3 rfl
     refine hK.out _ _ trivial (fun _ => ?_)
     clear hK K
     try simp only [Act.put, puA, puB, puC]
     rotate_left
    |refine atA [true, true, false, true, true, false, true, false, false, false, false, false, false, false, false] ?_
     refine rdA [2, 7] ?_
     refine AllReadyH.cons (o := oWd6) rfl (fun K hK => ?_) (AllReadyH.cons (o := oWd5) rfl (fun K hK => ?_) AllReadyH.nil)
     refine stepCall1 ?_ 95 (.tmp 4) #[25] ?_ (.slice a1 n1 c1) ?_ ?_ (ent_sort _ _) ?_
     iterate 4 rfl
     refine (K1.out _ ((Old.refl w0).drew)).mono ?_
     rintro o x100n ⟨r1, rfl, g1, u100n⟩
     obtain ⟨p1, q1, hr1⟩ := g1.len'
     subst hr1
     refine ⟨_, rfl, ?_⟩
     have U100n := ((Old.refl w0).drew).trans u100n
     replace g1 := g1.mono' ((Old.refl w0).drew).size
     refine hK.out _ _ trivial (fun _ => ?_)
     clear hK K
     try simp only [Act.put, puA, puB, puC]
     have UU_100 := U100n
     obtain ⟨xw_100, rfl⟩ : ∃ z, z = x100n := ⟨_, rfl⟩
     rotate_left
     refine stepLoadFL ?_ (.tmp 9) ?_ m 5 a3 n3 c3 ?_ (HS0.out _ ((Old.refl w0).drew)).2.2 ?_
     iterate 3 rfl
     refine hK.out _ _ trivial (fun _ => ?_)
     clear hK K
     try simp only [Act.put, puA, puB, puC]
     rotate_left
    |refine atA [true, true, false, true, false, false, true, true, false, false, false, false, false, false, false] ?_
     refine rdA [2, 4] ?_
     refine AllReadyH.cons (o := oWd6) rfl (fun K hK => ?_) (AllReadyH.cons (o := oWd4) rfl (fun K hK => ?_) AllReadyH.nil)
     refine stepCall1 ?_ 95 (.tmp 4) #[25] ?_ (.slice a1 n1 c1) ?_ ?_ (ent_sort _ _) ?_
     iterate 4 rfl
     refine (K1.out _ ((Old.refl w0).drew)).mono ?_
     rintro o x100n ⟨r1, rfl, g1, u100n⟩
     obtain ⟨p1, q1, hr1⟩ := g1.len'
     subst hr1
     refine ⟨_, rfl, ?_⟩
     have U100n := ((Old.refl w0).drew).trans u100n
     replace g1 := g1.mono' ((Old.refl w0).drew).size
     refine hK.out _ _ trivial (fun _ => ?_)
     clear hK K
     try simp only [Act.put, puA, puB, puC]
     have UU_100 := U100n
     obtain ⟨xw_100, rfl⟩ : ∃ z, z = x100n := ⟨_, rfl⟩
     rotate_left
     refine stepLoadSL ?_ (.tmp 6) ?_ m 4 a2 n2 c2 ?_ (HS0.out _ ((Old.refl w0).drew)).2.1 ?_
     iterate 3 rfl
     refine hK.out _ _ trivial (fun _ => ?_)
     clear hK K
     try simp only [Act.put, puA, puB, puC]
     rotate_left
    |refine atA [true, false, false, true, true, false, true, true, false, false, false, false, false, false, false] ?_
     refine rdA [1] ?_
     refine AllReadyH.cons (o := oWd3) rfl (fun K hK => ?_) AllReadyH.nil
     refine stepLoadFL ?_ (.tmp 3) ?_ m 3 a1 n1 c1 ?_ (HS0.out _ ((Old.refl w0).drew)).1 ?_
     iterate 3 rfl
     refine hK.out _ _ trivial (fun _ => ?_)
     clear hK K
     try simp only [Act.put, puA, puB, puC]
   all_goals first
    |refine atA [true, true, true, true, true, false, true, false, false, false, false, false, false, false, false] ?_
     refine rdA [5, 7] ?_
     refine AllReadyH.cons (o := oWd7) rfl (fun K hK => ?_) (AllReadyH.cons (o := oWd5) rfl (fun K hK => ?_) AllReadyH.nil)
     refine stepCall1 ?_ 96 (.tmp 7) #[26] ?_ (.slice a2 n2 c2) ?_ ?_ (ent_norm _ _) ?_
     iterate 4 rfl
     refine (K2.out _ UU_100).mono ?_
     rintro o x100n ⟨r2, rfl, g2, u100n⟩
     obtain ⟨p2, q2, hr2⟩ := g2.len'
     subst hr2
     refine ⟨_, rfl, ?_⟩
     have U100n := UU_100.trans u100n
     replace g1 := g1.old u100n
     replace g2 := g2.mono' UU_100.size
     refine hK.out _ _ trivial (fun _ => ?_)
     clear hK K
     try simp only [Act.put, puA, puB, puC]
     have UU_100 := U100n
     obtain ⟨xw_100, rfl⟩ : ∃ z, z = x100n := ⟨_, rfl⟩
     rotate_left
     refine stepLoadFL ?_ (.tmp 9) ?_ m 5 a3 n3 c3 ?_ (HS0.out _ UU_100).2.2 ?_
     iterate 3 rfl
     refine hK.out _ _ trivial (fun _ => ?_)
     clear hK K
     try simp only [Act.put, puA, puB, puC]
     rotate_left
    |refine atA [true, true, true, true, false, false, true, true, false, false, false, false, false, false, false] ?_
     refine rdA [4] ?_
     refine AllReadyH.cons (o := oWd4) rfl (fun K hK => ?_) AllReadyH.nil
     refine stepLoadSL ?_ (.tmp 6) ?_ m 4 a2 n2 c2 ?_ (HS0.out _ UU_100).2.1 ?_
     iterate 3 rfl
     refine hK.out _ _ trivial (fun _ => ?_)
     clear hK K
     try simp only [Act.put, puA, puB, puC]
    |refine atA [true, true, false, true, true, false, true, true, false, false, false, false, false, false, false] ?_
     refine rdA [2] ?_
     refine AllReadyH.cons (o := oWd6) rfl (fun K hK => ?_) AllReadyH.nil
     refine stepCall1 ?_ 95 (.tmp 4) #[25] ?_ (.slice a1 n1 c1) ?_ ?_ (ent_sort _ _) ?_
     iterate 4 rfl
     refine (K1.out _ ((Old.refl w0).drew)).mono ?_
     rintro o x100n ⟨r1, rfl, g1, u100n⟩
     obtain ⟨p1, q1, hr1⟩ := g1.len'
     subst hr1
     refine ⟨_, rfl, ?_⟩
     have U100n := ((Old.refl w0).drew).trans u100n
     replace g1 := g1.mono' ((Old.refl w0).drew).size
     refine hK.out _ _ trivial (fun _ => ?_)
     clear hK K
     try simp only [Act.put, puA, puB, puC]
     have UU_100 := U100n
     obtain ⟨xw_100, rfl⟩ : ∃ z, z = x100n := ⟨_, rfl⟩
   all_goals first
    |refine atA [true, true, true, true, true, true, true, false, false, false, false, false, false, false, false] ?_
     refine rdA [7] ?_
     refine AllReadyH.cons (o := oWd5) rfl (fun K hK => ?_) AllReadyH.nil
     refine stepLoadFL ?_ (.tmp 9) ?_ m 5 a3 n3 c3 ?_ (HS0.out _ UU_100).2.2 ?_
     iterate 3 rfl
     refine hK.out _ _ trivial (fun _ => ?_)
     clear hK K
     try simp only [Act.put, puA, puB, puC]
    |refine atA [true, true, true, true, true, false, true, true, false, false, false, false, false, false, false] ?_
     refine tkA (i := 9) (oi := oWd8) trivial ?_
     try simp only [Act.put, puA, puB, puC]
     refine rdA [5] ?_
     refine AllReadyH.cons (o := oWd7) rfl (fun K hK => ?_) AllReadyH.nil
     refine stepCall1 ?_ 96 (.tmp 7) #[26] ?_ (.slice a2 n2 c2) ?_ ?_ (ent_norm _ _) ?_
     iterate 4 rfl
     refine (K2.out _ UU_100).mono ?_
     rintro o x100n ⟨r2, rfl, g2, u100n⟩
     obtain ⟨p2, q2, hr2⟩ := g2.len'
     subst hr2
     refine ⟨_, rfl, ?_⟩
     have U100n := UU_100.trans u100n
     replace g1 := g1.old u100n
     replace g2 := g2.mono' UU_100.size
     refine hK.out _ _ trivial (fun _ => ?_)
     clear hK K
     try simp only [Act.put, puA, puB, puC]
     have UU_100 := U100n
     obtain ⟨xw_100, rfl⟩ : ∃ z, z = x100n := ⟨_, rfl⟩
   all_goals first
    |refine atA [true, true, true, true, true, true, true, true, false, false, false, false, false, false, false] ?_
     refine tkA (i := 9) (oi := oWd8) trivial ?_
     try simp only [Act.put, puA, puB, puC]
     refine rdA [8] ?_
     refine AllReadyH.cons (o := oWd9) rfl (fun K hK => ?_) AllReadyH.nil
     refine stepCall1 ?_ 95 (.tmp 10) #[25] ?_ (.slice a3 n3 c3) ?_ ?_ (ent_sort _ _) ?_
     iterate 4 rfl
     refine (K3.out _ UU_100).mono ?_
     rintro o x100n ⟨r3, rfl, g3, u100n⟩
     obtain ⟨p3, q3, hr3⟩ := g3.len'
     subst hr3
     refine ⟨_, rfl, ?_⟩
     have U100n := UU_100.trans u100n
     replace g1 := g1.old u100n
     replace g2 := g2.old u100n
     replace g3 := g3.mono' UU_100.size
     refine hK.out _ _ trivial (fun _ => ?_)
     clear hK K
     try simp only [Act.put, puA, puB, puC]
     have UU_100 := U100n
     obtain ⟨xw_100, rfl⟩ : ∃ z, z = x100n := ⟨_, rfl⟩
    |refine atA [true, true, true, true, true, true, true, true, false, true, false, false, false, false, false] ?_
     refine rdA [8] ?_
     refine AllReadyH.cons (o := oWd9) rfl (fun K hK => ?_) AllReadyH.nil
     refine stepCall1 ?_ 95 (.tmp 10) #[25] ?_ (.slice a3 n3 c3) ?_ ?_ (ent_sort _ _) ?_
     iterate 4 rfl
     refine (K3.out _ UU_100).mono ?_
     rintro o x100n ⟨r3, rfl, g3, u100n⟩
     obtain ⟨p3, q3, hr3⟩ := g3.len'
     subst hr3
     refine ⟨_, rfl, ?_⟩
     have U100n := UU_100.trans u100n
     replace g1 := g1.old u100n
     replace g2 := g2.old u100n
     replace g3 := g3.mono' UU_100.size
     refine hK.out _ _ trivial (fun _ => ?_)
     clear hK K
     try simp only [Act.put, puA, puB, puC]
     have UU_100 := U100n
     obtain ⟨xw_100, rfl⟩ : ∃ z, z = x100n := ⟨_, rfl⟩
   all_goals
    refine atA [true, true, true, true, true, true, true, true, true, true, false, false, false, false, false] ?_
    refine rdA [10] ?_
    refine AllReadyH.cons (o := oWd10) rfl (fun K hK => ?_) AllReadyH.nil
    refine stepStoreFL ?_ (.tmp 12) (.tmp 5) ?_ m 3 p1 L1.length q1 ?_ ?_ (HT0.out _ UU_100).t3 ?_
    iterate 4 rfl
    refine hK.out _ _ trivial (fun _ => ?_)
    clear hK K
    try simp only [Act.put, puA, puB, puC]
   all_goals
    refine atA [true, true, true, true, true, true, true, true, true, true, true, false, false, false, false] ?_
    refine tkA (i := 11) (oi := oWd11) trivial ?_
    try simp only [Act.put, puA, puB, puC]
    refine rdA [12] ?_
    refine AllReadyH.cons (o := oWd12) rfl (fun K hK => ?_) AllReadyH.nil
    refine stepStoreSL ?_ (.tmp 13) (.tmp 8) ?_ m 4 p2 L2.length q2 ?_ ?_ ((HT0.out _ UU_100).set _ _).t4 ?_
    iterate 4 rfl
    refine hK.out _ _ trivial (fun _ => ?_)
    clear hK K
    try simp only [Act.put, puA, puB, puC]
   all_goals
    refine atA [true, true, true, true, true, true, true, true, true, true, true, true, true, false, false] ?_
    refine tkA (i := 13) (oi := oWd13) trivial ?_
    try simp only [Act.put, puA, puB, puC]
    refine rdA [14] ?_
    refine AllReadyH.cons (o := oWd14) rfl (fun K hK => ?_) AllReadyH.nil
    refine stepStoreFL ?_ (.tmp 14) (.tmp 11) ?_ m 5 p3 L3.length q3 ?_ ?_ (((HT0.out _ UU_100).set _ _).set _ _).t5 ?_
    iterate 4 rfl
    refine hK.out _ _ trivial (fun _ => ?_)
    clear hK K
    try simp only [Act.put, puA, puB, puC]
   all_goals
    refine atA [true, true, true, true, true, true, true, true, true, true, true, true, true, true, true] ?_
    refine wpAnyH_done (by kernel_rfl) ?_ _
    refine NoPanic.normal ?_
    go_wp2_with fail
    go_meet
    case rel => exact ⟨_, _, _, _, _, _, SubAt.set3 (HS1.out _ UU_100) _ _ _, g1.set3 hmb _ _ _, g2.set3 hmb _ _ _, g3.set3 hmb _ _ _, HUm.out _ _ _ (HUm.out _ _ _ (HUm.out _ _ _ (U0.trans UU_100))), HRet.out _ UU_100 _ _ _⟩
 case rest =>
  obtain ⟨p1, p2, p3, q1, q2, q3, ⟨h0, h1, h2, h3, h4, h5⟩, g1, g2, g3, hu, ⟨r0, r1, r2, r3, r4, r5⟩, f0, f1, f2', f3, f4, f5⟩ := hcut
  have hb2 : m + 1 < w0.heap.size := by omega
  have G1 := hid g1
  have G2 := hid g2
  have G3 := hid g3
  have HU := hid hu
  clear g1 g2 g3 hu K1 K2 K3 HR1 HRet HS0 HS1 HT0 HUm
  have hwm : w.heap.size = m := HMm.out
  go_wp2
  refine bodyPost_ret (v := .agg #[.int .i64 s1, .int .i64 s2, .int .i64 s3, .slice p1 L1.length q1, .slice p2 L2.length q2, .slice p3 L3.length q3]) (by simp [results, Tryz.results67, go_sem, *]) rfl ⟨p1, p2, p3, q1, q2, q3, by rfl, ?_, ?_, ?_, ?_⟩
  ·exact ((((((G1.out.set1 hb2 _ _).set1 hb2 _ _).set1 hb2 _ _).set1 hb2 _ _).set1 hb2 _ _).set1 hb2 _ _).mono' (by omega)
  ·exact OwnS.mono (ownsRow_setCell_below (ownsRow_setCell_below (ownsRow_setCell_below (ownsRow_setCell_below (ownsRow_setCell_below (ownsRow_setCell_below G2.out hb2 _) hb2 _) hb2 _) hb2 _) hb2 _) hb2 _) (by omega)
  ·exact ((((((G3.out.set1 hb2 _ _).set1 hb2 _ _).set1 hb2 _ _).set1 hb2 _ _).set1 hb2 _ _).set1 hb2 _ _).mono' (by omega)
  ·have hx : w.heap.size ≤ m + 1 := by omega
   exact (((((HU.out.setCell hx _).setCell hx _).setCell hx _).setCell hx _).setCell hx _).setCell hx _
end Go.Proofs.YtajoodkapiifcaaGreat
namespace Go.Proofs.YtajoodkapiifcaaGreat
set_option linter.unusedSimpArgs false
open Go.RowKit
set_option linter.unusedVariables false
attribute [local go_sem] run_bits run_frombits run_store_float eqF
def canC (m c k z : Bool) : Int := if m = true then 43 else if c = true then 3 else if k = true then 40 else if z = true then 41 else 0
def CanPost (P : Option Addr → Option Addr → Option Addr → Nat → Nat → Nat → World → Prop) (s1 s2 s3 : Int) (m1 m2 m3 : Nat) (cc : Int) (w : World) (e : Ending) (w' : World) : Prop := ∃ (p1 p2 p3 : Option Addr) (q1 q2 q3 : Nat), (if cc = 0 then e = .returned (.tuple #[.agg #[.int .i64 s1, .int .i64 s2, .int .i64 s3, .slice p1 m1 q1, .slice p2 m2 q2, .slice p3 m3 q3], .int .i64 0]) else e = .returned (.tuple #[.agg #[.int .i64 0, .int .i64 0, .int .i64 0, .slice none 0 0, .slice none 0 0, .slice none 0 0], .int .i64 (cc)])) ∧ P p1 p2 p3 q1 q2 q3 w' ∧ Old w w'
end Go.Proofs.YtajoodkapiifcaaGreat
namespace Go.Proofs.YtajoodkapiifcaaGreat
set_option linter.unusedSimpArgs false
open Go.RowKit
set_option linter.unusedVariables false
attribute [local go_sem] run_bits run_frombits run_store_float eqF
set_option maxHeartbeats 1000000 in
set_option maxRecDepth 20000 in
theorem refNans_any (v : Value) (n : Nat) (x : Nat → Nat) (w : World) (hv : FRow w v n x) :
    Calls Tryz.prog 51 #[v] w fun e w' => e = .returned (.bool (Fl.anyG (fun i => Fl.nan (x i)) n)) ∧ Old w w' := by
 obtain ⟨hm, a, c, rfl, hc⟩ := hv
 have HC := hid hc
 generalize hg : (fun i => Fl.nan (x i)) = g
 have HG := hid hg
 clear hc hg
 go_enter Tryz.func51, Tryz.ntmps51
 go_wp2
 go_loopw [3] (fun i wr => ∃ j : Nat, j ≤ n ∧ i = .int .i64 (j : Nat) ∧ Fl.anyG g j = false ∧ Old w wr) (fun i _ => n - (intOf i).toNat)
 case atStart => exact ⟨0, Nat.zero_le _, rfl, rfl, Old.refl _⟩
 case round =>
  obtain ⟨j, hj, rfl, h0, hu⟩ := hrel
  by_cases hlt : j < n
  ·obtain ⟨b, off, ha, hW, c0⟩ := HC.out j hlt
   subst ha
   have x0 := hu.keep c0
   have HK := fun W => refNan_any (x j) hW W
   have hgj : Fl.nan (x j) = g j := by rw [← HG.out]
   rw [hgj] at HK
   have HN := hid HK
   have l1 : (0 : Int) ≤ (j : Int) := by omega
   have l2 : (j : Int) < (n : Int) := by omega
   have H0 := hid h0
   clear c0 h0 hgj HK HC HG
   generalize x j = X at *
   cases hg : g j
   ·rw [hg] at HN
    have HS := hid (Fl.anyG_step g j H0.out hg)
    clear hg
    go_wp2_with (go_at_call 80; refine (HN.out _).mono ?_; rintro o w5 ⟨rfl, hw⟩; have hw2 := hw.symm; subst hw2)
    go_roundw
    case rel => exact ⟨j + 1, hlt, by go_num, HS.out, hu⟩
    case measure => simp [intOf]; omega
   ·have HT := hid (Fl.anyG_true g n j hlt hg)
    rw [hg] at HN
    clear hg
    go_wp2_with (go_at_call 80; refine (HN.out _).mono ?_; rintro o w5 ⟨rfl, hw⟩; have hw2 := hw.symm; subst hw2)
    go_ret
    exact ⟨ret_b HT.out.symm, hu⟩
  ·obtain rfl : j = n := by omega
   have H0 := hid h0
   clear h0
   go_wp2
   go_ret
   exact ⟨ret_b H0.out.symm, hu⟩
def chkC (m c k : Bool) : Int := if m = true then 43 else if c = true then 3 else if k = true then 40 else 0
set_option maxHeartbeats 4000000 in
set_option maxRecDepth 20000 in
theorem refCheck_early (s1 s2 s3 : Int) (p1 p2 p3 : Option Addr) (m1 m2 m3 q1 q2 q3 : Nat) (w : World) (h : misB s1 s2 s3 = true ∨ (misB s1 s2 s3 = false ∧ crowdB m1 m2 m3 = true)) :
    Calls Tryz.prog 28 #[.agg #[.int .i64 s1, .int .i64 s2, .int .i64 s3, .slice p1 m1 q1, .slice p2 m2 q2, .slice p3 m3 q3]] w fun e w' => e = .returned (.int .i64 (if misB s1 s2 s3 = true then 43 else 3)) ∧ Old w w' := by
 rcases h with h | ⟨h, hc⟩
 ·rw [if_pos h]
  have h2 : s1 < 1 ∨ 1099511627776 < s1 ∨ s2 < 1 ∨ 1099511627776 < s2 ∨ s3 < 0 ∨ 1099511627776 < s3 := by
   unfold misB outB at h; simp at h; omega
  clear h
  by_cases t1 : s1 < 1
  ·go_enter Tryz.func28, Tryz.ntmps28
   go_wp2
   go_ret
   exact ⟨rfl, (Old.refl w).alloc _⟩
  by_cases t2 : 1099511627776 < s1
  ·go_enter Tryz.func28, Tryz.ntmps28
   go_wp2
   go_ret
   exact ⟨rfl, (Old.refl w).alloc _⟩
  by_cases t3 : s2 < 1
  ·go_enter Tryz.func28, Tryz.ntmps28
   go_wp2
   go_ret
   exact ⟨rfl, (Old.refl w).alloc _⟩
  by_cases t4 : 1099511627776 < s2
  ·go_enter Tryz.func28, Tryz.ntmps28
   go_wp2
   go_ret
   exact ⟨rfl, (Old.refl w).alloc _⟩
  by_cases t5 : s3 < 0
  ·go_enter Tryz.func28, Tryz.ntmps28
   go_wp2
   go_ret
   exact ⟨rfl, (Old.refl w).alloc _⟩
  have t6 : 1099511627776 < s3 := by omega
  go_enter Tryz.func28, Tryz.ntmps28
  go_wp2
  go_ret
  exact ⟨rfl, (Old.refl w).alloc _⟩
 ·rw [if_neg (by rw [h]; simp)]
  have h2 : ¬ s1 < 1 ∧ ¬ 1099511627776 < s1 ∧ ¬ s2 < 1 ∧ ¬ 1099511627776 < s2 ∧ ¬ s3 < 0 ∧ ¬ 1099511627776 < s3 := by
   unfold misB outB at h; simp at h; omega
  obtain ⟨t1, t2, t3, t4, t5, t6⟩ := h2
  have h3 : 16 < m1 ∨ 8 < m2 ∨ 16 < m3 := by unfold crowdB at hc; simp at hc; omega
  clear h hc
  by_cases u1 : 16 < m1
  ·have v1 : (16 : Int) < (m1 : Int) := by omega
   go_enter Tryz.func28, Tryz.ntmps28
   go_wp2
   go_ret
   exact ⟨rfl, (Old.refl w).alloc _⟩
  have v1 : ¬ (16 : Int) < (m1 : Int) := by omega
  by_cases u2 : 8 < m2
  ·have v2 : (8 : Int) < (m2 : Int) := by omega
   go_enter Tryz.func28, Tryz.ntmps28
   go_wp2
   go_ret
   exact ⟨rfl, (Old.refl w).alloc _⟩
  have v2 : ¬ (8 : Int) < (m2 : Int) := by omega
  have v3 : (16 : Int) < (m3 : Int) := by omega
  go_enter Tryz.func28, Tryz.ntmps28
  go_wp2
  go_ret
  exact ⟨rfl, (Old.refl w).alloc _⟩
theorem spo_of {r : Nat × Nat} (h : Fl.RV r) : Fl.rL (Fl.spo r).a (Fl.spo r).b (Fl.spo r).p (Fl.spo r).q = r.1 ∧ Fl.rH (Fl.spo r).a (Fl.spo r).b (Fl.spo r).p (Fl.spo r).q = r.2 := by
 obtain ⟨e1, e2, e3⟩ := Fl.cs_of_form _ _ _ (Fl.spo_form h)
 have a := Fl.of_V h.1
 have b := Fl.of_V h.2.1
 unfold Fl.rL Fl.rH Fl.spo
 dsimp only
 rw [e1, e2, e3]
 exact ⟨a.2.1, b.2.1⟩
set_option maxHeartbeats 8000000 in
set_option maxRecDepth 20000 in
theorem refCheck_late (s1 s2 s3 : Int) (p1 p2 p3 : Option Addr) (L1 L3 : List Nat) (D : List (Nat × Nat)) (q1 q2 q3 : Nat) (w : World) (hm : misB s1 s2 s3 = false) (hc : crowdB L1.length D.length L3.length = false)
    (h1 : FRow w (.slice p1 L1.length q1) L1.length (atN L1)) (h2 : SRow w (.slice p2 D.length q2) D.length (atS (D.map Fl.spo))) (h3 : FRow w (.slice p3 L3.length q3) L3.length (atN L3))
    (hD : Fl.NL D) (e1 : Fl.sortL (atN L1) L1.length = L1) (e3 : Fl.sortL (atN L3) L3.length = L3) (hW1 : ∀ y ∈ L1, Fl.W y) (hW3 : ∀ y ∈ L3, Fl.W y) :
    Calls Tryz.prog 28 #[.agg #[.int .i64 s1, .int .i64 s2, .int .i64 s3, .slice p1 L1.length q1, .slice p2 D.length q2, .slice p3 L3.length q3]] w fun e w' => e = .returned (.int .i64 (if (Fl.anyG (fun i => Fl.nan (atN L1 i)) L1.length || Fl.anyG (fun i => Fl.nan (atN L3 i)) L3.length) = true then 40 else 0)) ∧ Old w w' := by
 have h4 : ¬ s1 < 1 ∧ ¬ 1099511627776 < s1 ∧ ¬ s2 < 1 ∧ ¬ 1099511627776 < s2 ∧ ¬ s3 < 0 ∧ ¬ 1099511627776 < s3 := by
  unfold misB outB at hm; simp at hm; omega
 obtain ⟨t1, t2, t3, t4, t5, t6⟩ := h4
 have h5 : ¬ 16 < L1.length ∧ ¬ 8 < D.length ∧ ¬ 16 < L3.length := by unfold crowdB at hc; simp at hc; omega
 have b1 : L1.length ≤ 16 := by omega
 have b2 : D.length ≤ 8 := by omega
 have b3 : L3.length ≤ 16 := by omega
 have v1 : ¬ (16 : Int) < (L1.length : Int) := by omega
 have v2 : ¬ (8 : Int) < (D.length : Int) := by omega
 have v3 : ¬ (16 : Int) < (L3.length : Int) := by omega
 have K1 := hid (fun W (hW : Old w W) => refNans_any _ _ _ W (h1.old hW))
 have K3 := hid (fun W (hW : Old w W) => refNans_any _ _ _ W (h3.old hW))
 have S1 := hid (show ∀ W, Old w W → Calls Tryz.prog 54 #[.slice p1 L1.length q1] W fun e w' => ∃ v' : Value, e = .returned v' ∧ FRow w' v' L1.length (atN L1) ∧ Old W w' from fun W hW => by
  refine (sortR_any _ _ _ (by omega) W (h1.old hW)).mono ?_
  rintro e w' ⟨v', rfl, ho, hu⟩
  rw [e1] at ho
  exact ⟨v', rfl, ho.row hW1 (by omega), hu⟩)
 have S3 := hid (show ∀ W, Old w W → Calls Tryz.prog 54 #[.slice p3 L3.length q3] W fun e w' => ∃ v' : Value, e = .returned v' ∧ FRow w' v' L3.length (atN L3) ∧ Old W w' from fun W hW => by
  refine (sortR_any _ _ _ (by omega) W (h3.old hW)).mono ?_
  rintro e w' ⟨v', rfl, ho, hu⟩
  rw [e3] at ho
  exact ⟨v', rfl, ho.row hW3 (by omega), hu⟩)
 have N2 := hid (show ∀ W, Old w W → Calls Tryz.prog 56 #[.slice p2 D.length q2] W fun e w' => ∃ v' : Value, e = .returned v' ∧ OwnG W.heap.size w' v' D ∧ Old W w' from fun W hW => by
  have q := refNorm_any _ _ _ (by omega) W (h2.old hW)
  have hk := Fl.dfold_ok _ D rfl hD.2
  rw [Fl.cdl_spo D hD.2, Fl.nl_unique _ _ hk.1 hD hk.2.1] at q
  exact q)
 have X2 := hid (fun v base W (h : OwnG base W v D) => spans_any v base D W h hD.2 (by omega))
 have HRow := hid (show ∀ base W v, OwnS base W v (D.map Fl.spo) → SRow W v D.length (atS (D.map Fl.spo)) from fun base W v h => by have q := h.row (fun s hs => by obtain ⟨r, hr, rfl⟩ := List.mem_map.1 hs; exact Fl.spo_W (hD.2 r hr)) (by rw [List.length_map]; omega); rw [List.length_map] at q; exact q)
 have R1 := hid h1
 have R2 := hid h2
 have R3 := hid h3
 have HDv := hid hD.2
 generalize hk1 : Fl.anyG (fun i => Fl.nan (atN L1 i)) L1.length = k1 at *
 generalize hk3 : Fl.anyG (fun i => Fl.nan (atN L3 i)) L3.length = k3 at *
 clear hk1 hk3 hm hc h5 h1 h2 h3 hD e1 e3 hW1 hW3
 have s0 : SubAt w.heap.size s1 s2 s3 (.slice p1 L1.length q1) (.slice p2 D.length q2) (.slice p3 L3.length q3) (w.alloc (.cells #[.int .i64 s1, .int .i64 s2, .int .i64 s3, .slice p1 L1.length q1, .slice p2 D.length q2, .slice p3 L3.length q3] 28)) := by simp [SubAt]
 have HS := hid s0
 clear s0
 generalize hn1 : L1.length = n1 at *
 generalize hn3 : L3.length = n3 at *
 clear hn1 hn3
 cases k1
 ·cases k3
  ·go_enter Tryz.func28, Tryz.ntmps28
   go_wp2_with (first | (go_at_call_of 51 (Value.slice p1 n1 q1); refine (K1.out _ ((Old.refl w).alloc _)).mono ?_; rintro o w5 ⟨rfl, u5⟩; have U5 := hid (((Old.refl w).alloc _).trans u5); have B5 := hid (SubAt.old u5 HS.out); obtain ⟨_, _, _, f3, f4, f5⟩ := B5.out; clear u5) | (go_at_call_of 51 (Value.slice p3 n3 q3); refine (K3.out _ U5.out).mono ?_; rintro o w6 ⟨rfl, u6⟩; have U6 := hid (U5.out.trans u6); have B6 := hid (SubAt.old u6 B5.out); clear u6))
   go_loopw [3] (fun i wr => ∃ j : Nat, j ≤ D.length ∧ i = .int .i64 (j : Nat) ∧ Old w6 wr) (fun i _ => D.length - (intOf i).toNat)
   case atStart => exact ⟨0, Nat.zero_le _, rfl, Old.refl _⟩
   case round =>
    obtain ⟨j, hj, rfl, hu⟩ := hrel
    have HU := hid (U6.out.trans hu)
    obtain ⟨g0, g1, g2, g3, g4, g5⟩ := SubAt.old hu B6.out
    have BR : Hid (SubAt w.heap.size s1 s2 s3 (.slice p1 n1 q1) (.slice p2 D.length q2) (.slice p3 n3 q3) wr) := ⟨g0, g1, g2, g3, g4, g5⟩
    by_cases hlt : j < D.length
    ·obtain ⟨_, a, c, hv, hcx⟩ := R2.out.old HU.out
     cases hv
     obtain ⟨b, off, ha, hWa, hWb, x0, x1, x2, x3⟩ := hcx j hlt
     subst ha
     have hjm : j < (D.map Fl.spo).length := by rw [List.length_map]; exact hlt
     rw [atS_get _ j hjm, List.getElem_map] at hWa hWb x0 x1 x2 x3
     have hrv := HDv.out D[j] (List.getElem_mem hlt)
     obtain ⟨y1, y2⟩ := spo_of hrv
     have HO0 := fun W => rOf_any (Fl.spo D[j]).a (Fl.spo D[j]).b hWa hWb (Fl.spo D[j]).p (Fl.spo D[j]).q W
     rw [y1, y2] at HO0
     have HE0 := fun W => rEmpty_any D[j].1 D[j].2 W
     rw [show decide (D[j].2 < D[j].1) = false from decide_eq_false (by have := hrv.2.2; omega)] at HE0
     have HO := hid HO0
     have HE := hid HE0
     have l1 : (0 : Int) ≤ (j : Int) := by omega
     have l2 : (j : Int) < (D.length : Int) := by omega
     clear HO0 HE0 y1 y2 hcx hWa hWb hrv
     generalize D[j].1 = RL at *
     generalize D[j].2 = RH at *
     generalize (Fl.spo D[j]).a = sa at *
     generalize (Fl.spo D[j]).b = sb at *
     generalize (Fl.spo D[j]).p = sp at *
     generalize (Fl.spo D[j]).q = sq at *
     go_wp2_with (first | (go_at_call 53; refine (HO.out _).mono ?_; rintro o w7 ⟨rfl, u7⟩; have U7 := hid u7.old; clear u7) | (go_at_call 52; refine (HE.out _).mono ?_; rintro o w8 ⟨rfl, u8⟩; have U8 := hid (U7.out.trans u8.old); clear u8))
     go_roundw
     case rel => exact ⟨j + 1, hlt, by go_num, hu.trans U8.out⟩
     case measure => simp [intOf]; omega
    ·obtain rfl : j = D.length := by omega
     go_wp2_with fail
     go_region_held3 (SubAt w.heap.size s1 s2 s3 (.slice p1 n1 q1) (.slice p2 D.length q2) (.slice p3 n3 q3)) (first | assumption | exact BR.out | (refine SubAt.old ?_ BR.out; assumption)) (first | (go_at_call_of 54 (Value.slice p1 n1 q1); refine (S1.out _ (HU.out.drew)).mono ?_; rintro o wa ⟨va, rfl, ra, ua⟩; have Ua : Old wr wa := ((Old.refl _).drew).trans ua) | (go_at_call_of 29 (Value.slice p1 n1 q1); refine (sameF _ _ n1 (atN L1) _ (R1.out.old (HU.out.trans Ua)) ra).mono ?_; rintro o wb ⟨rfl, ub⟩; have Ub : Old wr wb := Ua.trans ub) | (go_at_call_of 54 (Value.slice p3 n3 q3); refine (S3.out _ (HU.out.trans Ub)).mono ?_; rintro o wd ⟨vd, rfl, rd, ud⟩; have Ud : Old wr wd := Ub.trans ud) | (go_at_call_of 29 (Value.slice p3 n3 q3); refine (sameF _ _ n3 (atN L3) _ (R3.out.old (HU.out.trans Ud)) rd).mono ?_; rintro o we ⟨rfl, ue⟩; have Ue : Old wr we := Ud.trans ue) | (go_at_call 56; refine (N2.out _ (HU.out.trans Ue)).mono ?_; rintro o wf ⟨vf, rfl, gf, uf⟩; have Uf : Old wr wf := Ue.trans uf) | (go_at_call 55; refine (X2.out _ _ _ gf).mono ?_; rintro o wg ⟨vg, rfl, gg, ug⟩; have Ug : Old wr wg := Uf.trans ug) | (go_at_call 30; refine (same_rows _ _ D.length (atS (D.map Fl.spo)) _ (R2.out.old (HU.out.trans Ug)) (HRow.out _ _ _ gg)).mono ?_; rintro o wh ⟨rfl, uh⟩; have Uh : Old wr wh := Ug.trans uh))
     all_goals go_wp2
     all_goals go_ret
     all_goals exact ⟨rfl, HU.out.trans Uh⟩
  ·go_enter Tryz.func28, Tryz.ntmps28
   go_wp2_with (first | (go_at_call_of 51 (Value.slice p1 n1 q1); refine (K1.out _ ((Old.refl w).alloc _)).mono ?_; rintro o w5 ⟨rfl, u5⟩; have U5 := hid (((Old.refl w).alloc _).trans u5); have B5 := hid (SubAt.old u5 HS.out); obtain ⟨_, _, _, f3, f4, f5⟩ := B5.out; clear u5) | (go_at_call_of 51 (Value.slice p3 n3 q3); refine (K3.out _ U5.out).mono ?_; rintro o w6 ⟨rfl, u6⟩; have U6 := hid (U5.out.trans u6); have B6 := hid (SubAt.old u6 B5.out); clear u6))
   go_ret
   exact ⟨rfl, U6.out⟩
 ·go_enter Tryz.func28, Tryz.ntmps28
  go_wp2_with (first | (go_at_call_of 51 (Value.slice p1 n1 q1); refine (K1.out _ ((Old.refl w).alloc _)).mono ?_; rintro o w5 ⟨rfl, u5⟩; have U5 := hid (((Old.refl w).alloc _).trans u5); have B5 := hid (SubAt.old u5 HS.out); obtain ⟨_, _, _, f3, f4, f5⟩ := B5.out; clear u5) | (go_at_call_of 51 (Value.slice p3 n3 q3); refine (K3.out _ U5.out).mono ?_; rintro o w6 ⟨rfl, u6⟩; have U6 := hid (U5.out.trans u6); have B6 := hid (SubAt.old u6 B5.out); clear u6))
  go_ret
  exact ⟨rfl, U5.out⟩
end Go.Proofs.YtajoodkapiifcaaGreat
namespace Go.Proofs.YtajoodkapiifcaaGreat
set_option linter.unusedSimpArgs false
open Go.RowKit
set_option linter.unusedVariables false
attribute [local go_sem] run_bits run_frombits run_store_float eqF
set_option maxHeartbeats 4000000 in
set_option maxRecDepth 20000 in
theorem refSame_eq (s1 s2 s3 : Int) (a1 a2 a3 p1 p2 p3 : Option Addr) (n1 n2 n3 c1 c2 c3 q1 q2 q3 : Nat) (x1 x3 : Nat → Nat) (f2 : Nat → Sp) (w : World)
    (h1 : FRow w (.slice a1 n1 c1) n1 x1) (h2 : SRow w (.slice a2 n2 c2) n2 f2) (h3 : FRow w (.slice a3 n3 c3) n3 x3) (g1 : FRow w (.slice p1 n1 q1) n1 x1) (g2 : SRow w (.slice p2 n2 q2) n2 f2) (g3 : FRow w (.slice p3 n3 q3) n3 x3) :
    Calls Tryz.prog 13 #[.agg #[.int .i64 s1, .int .i64 s2, .int .i64 s3, .slice a1 n1 c1, .slice a2 n2 c2, .slice a3 n3 c3], .agg #[.int .i64 s1, .int .i64 s2, .int .i64 s3, .slice p1 n1 q1, .slice p2 n2 q2, .slice p3 n3 q3]] w fun e w' => e = .returned (.bool true) ∧ Old w w' := by
 have K1 := hid (fun W (hW : Old w W) => sameF _ _ n1 x1 W (h1.old hW) (g1.old hW))
 have K3 := hid (fun W (hW : Old w W) => sameF _ _ n3 x3 W (h3.old hW) (g3.old hW))
 have K2 := hid (fun W (hW : Old w W) => same_rows _ _ n2 f2 W (h2.old hW) (g2.old hW))
 clear h1 h2 h3 g1 g2 g3
 have sa : SubAt w.heap.size s1 s2 s3 (.slice a1 n1 c1) (.slice a2 n2 c2) (.slice a3 n3 c3) ((w.alloc (.cells #[.int .i64 s1, .int .i64 s2, .int .i64 s3, .slice a1 n1 c1, .slice a2 n2 c2, .slice a3 n3 c3] 28)).alloc (.cells #[.int .i64 s1, .int .i64 s2, .int .i64 s3, .slice p1 n1 q1, .slice p2 n2 q2, .slice p3 n3 q3] 28)) := by simp [SubAt]
 have sb : SubAt (w.heap.size + 1) s1 s2 s3 (.slice p1 n1 q1) (.slice p2 n2 q2) (.slice p3 n3 q3) ((w.alloc (.cells #[.int .i64 s1, .int .i64 s2, .int .i64 s3, .slice a1 n1 c1, .slice a2 n2 c2, .slice a3 n3 c3] 28)).alloc (.cells #[.int .i64 s1, .int .i64 s2, .int .i64 s3, .slice p1 n1 q1, .slice p2 n2 q2, .slice p3 n3 q3] 28)) := by simp [SubAt]
 have HA := hid sa
 have HB := hid sb
 clear sa sb
 go_enter Tryz.func13, Tryz.ntmps13
 go_upto_region 1 with fail
 generalize hw0 : ((w.alloc (.cells #[.int .i64 s1, .int .i64 s2, .int .i64 s3, .slice a1 n1 c1, .slice a2 n2 c2, .slice a3 n3 c3] 28)).alloc (.cells #[.int .i64 s1, .int .i64 s2, .int .i64 s3, .slice p1 n1 q1, .slice p2 n2 q2, .slice p3 n3 q3] 28)) = w0 at *
 have U0 : Old w w0 := by rw [← hw0]; exact ((Old.refl w).alloc _).alloc _
 clear hw0
 obtain ⟨e0, e1, e2, e3, e4, e5⟩ := HA.out
 obtain ⟨f0, f1, f2', f3, f4, f5⟩ := HB.out
 go_wp2_with (first | (go_at_call_of 29 (Value.slice a1 n1 c1); refine (K1.out _ U0).mono ?_; rintro o wa ⟨rfl, ua⟩; obtain ⟨x0, x1', x2, x3', x4, x5⟩ := SubAt.old ua HA.out; obtain ⟨y0, y1, y2, y3, y4, y5⟩ := SubAt.old ua HB.out; have Ua := hid ua; clear ua) | (go_at_call_of 29 (Value.slice a3 n3 c3); refine (K3.out _ (U0.trans Ua.out)).mono ?_; rintro o wb ⟨rfl, ub⟩; have Ub := hid (Ua.out.trans ub); obtain ⟨x0', x1'', x2', x3'', x4', x5'⟩ := SubAt.old Ub.out HA.out; obtain ⟨y0', y1', y2', y3', y4', y5'⟩ := SubAt.old Ub.out HB.out; clear ub) | (go_at_call 30; refine (K2.out _ (U0.trans Ub.out)).mono ?_; rintro o wd ⟨rfl, ud⟩; have Ud := hid (Ub.out.trans ud); clear ud))
 go_ret
 exact ⟨rfl, U0.trans Ud.out⟩
end Go.Proofs.YtajoodkapiifcaaGreat
namespace Go.Proofs.YtajoodkapiifcaaGreat
set_option linter.unusedSimpArgs false
open Go.RowKit
set_option linter.unusedVariables false
attribute [local go_sem] run_bits run_frombits run_store_float eqF
structure TB (m : Nat) (s1 s2 s3 : Int) (v1 v2 v3 x y z : Value) (W : World) : Prop where
 s : SubAt m s1 s2 s3 v1 v2 v3 W
 r : SubAt (m + 1) 0 0 0 (.slice none 0 0) (.slice none 0 0) (.slice none 0 0) W
 o : SubAt (m + 2) s1 s2 s3 x y z W
 fr : ∀ j, j < 6 → W.frozen? ⟨m + 1, j, none⟩ = false
 fo : ∀ j, j < 6 → W.frozen? ⟨m + 2, j, none⟩ = false
theorem SubAt.cellJ {m : Nat} {s1 s2 s3 : Int} {v1 v2 v3 : Value} {w : World} (h : SubAt m s1 s2 s3 v1 v2 v3 w) (j : Nat) (hj : j < 6) : ∃ z, w.cell? ⟨m, j, none⟩ = some z := by
 match j, hj with
 | 0, _ => exact ⟨_, h.1⟩
 | 1, _ => exact ⟨_, h.2.1⟩
 | 2, _ => exact ⟨_, h.2.2.1⟩
 | 3, _ => exact ⟨_, h.2.2.2.1⟩
 | 4, _ => exact ⟨_, h.2.2.2.2.1⟩
 | 5, _ => exact ⟨_, h.2.2.2.2.2⟩
theorem TB.old {m : Nat} {s1 s2 s3 : Int} {v1 v2 v3 x y z : Value} {W W' : World} (h : TB m s1 s2 s3 v1 v2 v3 x y z W) (u : Old W W') : TB m s1 s2 s3 v1 v2 v3 x y z W' :=
 ⟨SubAt.old u h.s, SubAt.old u h.r, SubAt.old u h.o, fun j hj => by obtain ⟨q, hq⟩ := h.r.cellJ j hj; exact u.keepF hq (h.fr j hj), fun j hj => by obtain ⟨q, hq⟩ := h.o.cellJ j hj; exact u.keepF hq (h.fo j hj)⟩
theorem SubAt.otherB {m k o : Nat} {s1 s2 s3 : Int} {v1 v2 v3 : Value} {w : World} (h : SubAt m s1 s2 s3 v1 v2 v3 w) (hk : k ≠ m) (u : Value) : SubAt m s1 s2 s3 v1 v2 v3 (w.setCell ⟨k, o, none⟩ u) := by
 have F : ∀ j, (w.setCell ⟨k, o, none⟩ u).cell? ⟨m, j, none⟩ = w.cell? ⟨m, j, none⟩ := fun j => World.cell?_setCell_far w ⟨k, o, none⟩ ⟨m, j, none⟩ u hk
 exact ⟨by rw [F]; exact h.1, by rw [F]; exact h.2.1, by rw [F]; exact h.2.2.1, by rw [F]; exact h.2.2.2.1, by rw [F]; exact h.2.2.2.2.1, by rw [F]; exact h.2.2.2.2.2⟩
theorem SubAt.setF {m : Nat} {s1 s2 s3 : Int} {x y z : Value} {w : World} (h : SubAt m s1 s2 s3 x y z w) (u : Value) : SubAt m s1 s2 s3 u y z (w.setCell ⟨m, 3, none⟩ u) ∧ SubAt m s1 s2 s3 x u z (w.setCell ⟨m, 4, none⟩ u) ∧ SubAt m s1 s2 s3 x y u (w.setCell ⟨m, 5, none⟩ u) := by
 have F : ∀ (o j : Nat), o ≠ j → (w.setCell ⟨m, o, none⟩ u).cell? ⟨m, j, none⟩ = w.cell? ⟨m, j, none⟩ := fun o j hn => World.cell?_setCell_other _ _ _ _ (fun q => hn (by cases q; rfl))
 obtain ⟨h0, h1, h2, h3, h4, h5⟩ := h
 refine ⟨⟨?_, ?_, ?_, ?_, ?_, ?_⟩, ⟨?_, ?_, ?_, ?_, ?_, ?_⟩, ⟨?_, ?_, ?_, ?_, ?_, ?_⟩⟩
 ·rw [F 3 0 (by decide)]; exact h0
 ·rw [F 3 1 (by decide)]; exact h1
 ·rw [F 3 2 (by decide)]; exact h2
 ·exact World.cell?_setCell_same _ _ _ h3
 ·rw [F 3 4 (by decide)]; exact h4
 ·rw [F 3 5 (by decide)]; exact h5
 ·rw [F 4 0 (by decide)]; exact h0
 ·rw [F 4 1 (by decide)]; exact h1
 ·rw [F 4 2 (by decide)]; exact h2
 ·rw [F 4 3 (by decide)]; exact h3
 ·exact World.cell?_setCell_same _ _ _ h4
 ·rw [F 4 5 (by decide)]; exact h5
 ·rw [F 5 0 (by decide)]; exact h0
 ·rw [F 5 1 (by decide)]; exact h1
 ·rw [F 5 2 (by decide)]; exact h2
 ·rw [F 5 3 (by decide)]; exact h3
 ·rw [F 5 4 (by decide)]; exact h4
 ·exact World.cell?_setCell_same _ _ _ h5
theorem TB.set {m : Nat} {s1 s2 s3 : Int} {v1 v2 v3 x y z : Value} {W : World} (h : TB m s1 s2 s3 v1 v2 v3 x y z W) (u : Value) : TB m s1 s2 s3 v1 v2 v3 u y z (W.setCell ⟨m + 2, 3, none⟩ u) ∧ TB m s1 s2 s3 v1 v2 v3 x u z (W.setCell ⟨m + 2, 4, none⟩ u) ∧ TB m s1 s2 s3 v1 v2 v3 x y u (W.setCell ⟨m + 2, 5, none⟩ u) :=
 ⟨⟨h.s.otherB (by omega) u, h.r.otherB (by omega) u, (h.o.setF u).1, fun j hj => by simpa using h.fr j hj, fun j hj => by simpa using h.fo j hj⟩,
  ⟨h.s.otherB (by omega) u, h.r.otherB (by omega) u, (h.o.setF u).2.1, fun j hj => by simpa using h.fr j hj, fun j hj => by simpa using h.fo j hj⟩,
  ⟨h.s.otherB (by omega) u, h.r.otherB (by omega) u, (h.o.setF u).2.2, fun j hj => by simpa using h.fr j hj, fun j hj => by simpa using h.fo j hj⟩⟩
theorem refCheck_form (s1 s2 s3 : Int) (p1 p2 p3 : Option Addr) (L1 L3 : List Nat) (D : List (Nat × Nat)) (q1 q2 q3 : Nat) (w : World)
    (h1 : FRow w (.slice p1 L1.length q1) L1.length (atN L1)) (h2 : SRow w (.slice p2 D.length q2) D.length (atS (D.map Fl.spo))) (h3 : FRow w (.slice p3 L3.length q3) L3.length (atN L3))
    (hD : Fl.NL D) (e1 : Fl.sortL (atN L1) L1.length = L1) (e3 : Fl.sortL (atN L3) L3.length = L3) (hW1 : ∀ y ∈ L1, Fl.W y) (hW3 : ∀ y ∈ L3, Fl.W y) :
    Calls Tryz.prog 28 #[.agg #[.int .i64 s1, .int .i64 s2, .int .i64 s3, .slice p1 L1.length q1, .slice p2 D.length q2, .slice p3 L3.length q3]] w fun e w' => e = .returned (.int .i64 (chkC (misB s1 s2 s3) (crowdB L1.length D.length L3.length) (Fl.anyG (fun i => Fl.nan (atN L1 i)) L1.length || Fl.anyG (fun i => Fl.nan (atN L3 i)) L3.length))) ∧ Old w w' := by
 cases hm : misB s1 s2 s3
 ·cases hc : crowdB L1.length D.length L3.length
  ·have H := refCheck_late s1 s2 s3 p1 p2 p3 L1 L3 D q1 q2 q3 w hm hc h1 h2 h3 hD e1 e3 hW1 hW3
   unfold chkC; simpa using H
  ·have H := refCheck_early s1 s2 s3 p1 p2 p3 L1.length D.length L3.length q1 q2 q3 w (.inr ⟨hm, hc⟩)
   rw [hm] at H
   unfold chkC; simpa using H
 ·have H := refCheck_early s1 s2 s3 p1 p2 p3 L1.length D.length L3.length q1 q2 q3 w (.inl hm)
  rw [hm] at H
  unfold chkC; simpa using H
end Go.Proofs.YtajoodkapiifcaaGreat
namespace Go.Proofs.YtajoodkapiifcaaGreat
open Go.RowKit Go.Lib
set_option linter.unusedVariables false
set_option linter.unusedSimpArgs false
set_option maxRecDepth 20000
def spEq (s t : Sp) : Bool := (s.p == t.p) && (s.q == t.q) && (decide (s.a = t.a) && decide (s.b = t.b))
namespace Fl
def spU (f g : Nat → Sp) : Nat → Bool | 0 => true | n + 1 => spU f g n && spEq (f n) (g n)
theorem spU_false (f g : Nat → Sp) : ∀ n k, k < n → spEq (f k) (g k) = false → spU f g n = false
 | n + 1, k, h, e => by
  show (spU f g n && spEq (f n) (g n)) = false
  by_cases q : k = n
  ·subst q; rw [e, Bool.and_false]
  ·rw [spU_false f g n k (by omega) e]; rfl
end Fl
theorem FRow.nlen {w : World} {v : Value} {n : Nat} {x : Nat → Nat} (h : FRow w v n x) : n ≤ 9223372036854775807 ∧ ∃ a c, v = .slice a n c := by
 obtain ⟨h1, a, c, e, _⟩ := h
 exact ⟨h1, a, c, e⟩
theorem SRow.nlen {w : World} {v : Value} {n : Nat} {f : Nat → Sp} (h : SRow w v n f) : ∃ a c, v = .slice a n c := by
 obtain ⟨h1, a, c, e, _⟩ := h
 exact ⟨a, c, e⟩
abbrev X82 (b o b' o' : Nat) (s t : Sp) (w : World) : Prop := (w.cell? ⟨b, o, none⟩ = some (.float .f64 s.a) ∧ w.cell? ⟨b, o + 1, none⟩ = some (.float .f64 s.b) ∧ w.cell? ⟨b, o + 2, none⟩ = some (.bool s.p) ∧ w.cell? ⟨b, o + 3, none⟩ = some (.bool s.q)) ∧ w.cell? ⟨b', o', none⟩ = some (.float .f64 t.a) ∧ w.cell? ⟨b', o' + 1, none⟩ = some (.float .f64 t.b) ∧ w.cell? ⟨b', o' + 2, none⟩ = some (.bool t.p) ∧ w.cell? ⟨b', o' + 3, none⟩ = some (.bool t.q)
theorem X82.old {b o b' o' : Nat} {s t : Sp} {w w' : World} (u : Old w w') (h : X82 b o b' o' s t w) : X82 b o b' o' s t w' := ⟨⟨u.keep h.1.1, u.keep h.1.2.1, u.keep h.1.2.2.1, u.keep h.1.2.2.2⟩, u.keep h.2.1, u.keep h.2.2.1, u.keep h.2.2.2.1, u.keep h.2.2.2.2⟩
attribute [local go_sem] run_bits run_frombits run_store_float eqF
set_option maxHeartbeats 400000 in
theorem sameKeys_ne (a b : Option Addr) (n m c d : Nat) (h : n ≠ m) (w : World) : Calls Tryz.prog 29 #[.slice a n c, .slice b m d] w fun e w' => e = .returned (.bool false) ∧ w' = w := by
 have t : ((n : Int) != (m : Int)) = true := by rw [bne_iff_ne]; omega
 clear h
 go_enter Tryz.func29, Tryz.ntmps29
 go_wp2
 go_ret
 exact ⟨rfl, rfl⟩
theorem sameKeysG (v1 v2 : Value) (n m : Nat) (x y : Nat → Nat) (w : World) (h1 : FRow w v1 n x) (h2 : FRow w v2 m y) :
    Calls Tryz.prog 29 #[v1, v2] w fun e w' => e = .returned (.bool (decide (n = m) && Fl.sameU x y n)) ∧ Old w w' := by
 by_cases e : n = m
 ·subst e
  rw [decide_eq_true rfl, Bool.true_and]
  have hb := h1.nlen.1
  rcases h1.cases with ⟨rfl, a, c, rfl⟩ | ⟨hn, b, off, c, rfl, hc⟩
  ·obtain ⟨_, a', c', rfl⟩ := h2.nlen
   exact (sameKeys_none a a' c c' w).mono fun e w' h => ⟨h.1, by rw [h.2]; exact Old.refl _⟩
  ·rcases h2.cases with ⟨h0, _⟩ | ⟨_, b', off', c', rfl, hc'⟩
   ·omega
   ·exact (sameKeys_any b off c b' off' c' n x y (by unfold maxLen; omega) w (fun i hi => (hc i hi).2) (fun i hi => (hc' i hi).2)).mono fun e w' h => ⟨h.1, h.2.old⟩
 ·rw [decide_eq_false e, Bool.false_and]
  obtain ⟨_, a, c, rfl⟩ := h1.nlen
  obtain ⟨_, a', c', rfl⟩ := h2.nlen
  exact (sameKeys_ne a a' n m c c' e w).mono fun e w' h => ⟨h.1, by rw [h.2]; exact Old.refl _⟩
set_option maxHeartbeats 400000 in
theorem sameSpans_ne (a b : Option Addr) (n m c d : Nat) (h : n ≠ m) (w : World) : Calls Tryz.prog 30 #[.slice a n c, .slice b m d] w fun e w' => e = .returned (.bool false) ∧ w' = w := by
 have t : ((n : Int) != (m : Int)) = true := by rw [bne_iff_ne]; omega
 clear h
 go_enter Tryz.func30, Tryz.ntmps30
 go_wp2
 go_ret
 exact ⟨rfl, rfl⟩
set_option maxHeartbeats 1000000 in
theorem sameSpans_eq (v1 v2 : Value) (n : Nat) (f g : Nat → Sp) (w : World) (h1 : SRow w v1 n f) (h2 : SRow w v2 n g) :
    Calls Tryz.prog 30 #[v1, v2] w fun e w' => e = .returned (.bool (Fl.spU f g n)) ∧ Old w w' := by
 obtain ⟨hm, a, c, rfl, hc⟩ := h1
 obtain ⟨_, a', c', rfl, hc'⟩ := h2
 have HC := hid hc
 have HC' := hid hc'
 clear hc hc'
 go_enter Tryz.func30, Tryz.ntmps30
 go_wp2
 go_loopw [5] (fun i wr => ∃ j : Nat, j ≤ n ∧ i = .int .i64 (j : Nat) ∧ Fl.spU f g j = true ∧ Old w wr) (fun i _ => n - (intOf i).toNat)
 case atStart => exact ⟨0, Nat.zero_le _, rfl, rfl, Old.refl _⟩
 case round =>
  obtain ⟨j, hj, rfl, hs, hu⟩ := hrel
  have HSU := hid hs
  clear hs
  by_cases hlt : j < n
  ·obtain ⟨b, off, ha, _, _, c0, c1, c2, c3⟩ := HC.out j hlt
   obtain ⟨b', off', ha', _, _, d0, d1, d2, d3⟩ := HC'.out j hlt
   subst ha ha'
   have hX : X82 b (off + j * 4) b' (off' + j * 4) (f j) (g j) wr := ⟨⟨hu.keep c0, hu.keep c1, hu.keep c2, hu.keep c3⟩, hu.keep d0, hu.keep d1, hu.keep d2, hu.keep d3⟩
   have HK0 := fun W => sameSpan_any (f j).a (f j).b (g j).a (g j).b (f j).p (f j).q (g j).p (g j).q W
   have l1 : (0 : Int) ≤ (j : Int) := by omega
   have l2 : (j : Int) < (n : Int) := by omega
   clear c0 c1 c2 c3 d0 d1 d2 d3
   have HSt := hid (show Fl.spU f g (j + 1) = (Fl.spU f g j && spEq (f j) (g j)) from rfl)
   have HFl := hid (fun (e : spEq (f j) (g j) = false) => Fl.spU_false f g n j hlt e)
   have HQ := hid (show ((f j).p == (g j).p && (f j).q == (g j).q && (decide ((f j).a = (g j).a) && decide ((f j).b = (g j).b))) = spEq (f j) (g j) from rfl)
   rw [HQ.out] at HK0
   have HK := hid HK0
   clear HK0 HQ
   generalize hs1 : f j = s1 at *
   generalize hs2 : g j = s2 at *
   clear hs1 hs2
   cases hq : spEq s1 s2
   ·have HF := hid (HFl.out hq)
    rw [hq] at HK
    clear hq HFl HSt
    go_wp2_with fail
    go_region_held3 (X82 b (off + j * 4) b' (off' + j * 4) s1 s2) (first | assumption | exact hX | (refine X82.old ?_ hX; assumption)) (first | (go_at_call 58; refine (HK.out _).mono ?_; rintro o w5 ⟨rfl, u5⟩; have U5 : Old wr w5 := ((Old.refl _).drew).trans u5.old))
    all_goals go_wp2
    go_ret
    exact ⟨ret_b HF.out.symm, Old.trans hu U5⟩
   ·have HF := hid (show Fl.spU f g (j + 1) = true by rw [HSt.out, HSU.out, hq, Bool.and_true])
    rw [hq] at HK
    clear hq HFl HSt
    go_wp2_with fail
    go_region_held3 (X82 b (off + j * 4) b' (off' + j * 4) s1 s2) (first | assumption | exact hX | (refine X82.old ?_ hX; assumption)) (first | (go_at_call 58; refine (HK.out _).mono ?_; rintro o w5 ⟨rfl, u5⟩; have U5 : Old wr w5 := ((Old.refl _).drew).trans u5.old))
    all_goals go_wp2
    go_roundw
    case rel => exact ⟨j + 1, hlt, by go_num, HF.out, Old.trans hu U5⟩
    case measure => simp [intOf]; omega
  ·obtain rfl : j = n := by omega
   go_wp2
   go_ret
   exact ⟨ret_b HSU.out.symm, hu⟩
theorem sameSpansG (v1 v2 : Value) (n m : Nat) (f g : Nat → Sp) (w : World) (h1 : SRow w v1 n f) (h2 : SRow w v2 m g) :
    Calls Tryz.prog 30 #[v1, v2] w fun e w' => e = .returned (.bool (decide (n = m) && Fl.spU f g n)) ∧ Old w w' := by
 by_cases e : n = m
 ·subst e
  rw [decide_eq_true rfl, Bool.true_and]
  exact sameSpans_eq v1 v2 n f g w h1 h2
 ·rw [decide_eq_false e, Bool.false_and]
  obtain ⟨a, c, rfl⟩ := h1.nlen
  obtain ⟨a', c', rfl⟩ := h2.nlen
  exact (sameSpans_ne a a' n m c c' e w).mono fun e w' h => ⟨h.1, by rw [h.2]; exact Old.refl _⟩
end Go.Proofs.YtajoodkapiifcaaGreat
