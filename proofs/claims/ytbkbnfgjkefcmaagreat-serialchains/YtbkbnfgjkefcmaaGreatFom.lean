/- What flo.Sort returns at every row of numbers: their forms, in order, each once: just what the document's Sort has; conditions: at most 17592186044000 numbers. -/
import Derived.Test.YtbkbnfgjkefcmaaGreatSom
import Derived.Test.YtbkbnfgjkefcmaaGreatCfm
import Derived.Laws.MakeOwn
namespace Go.Proofs.YtbkbnfgjkefcmaaGreat
open Go.Shelf Go.RowKit Go.Lib Go.Sort
set_option linter.unusedVariables false
attribute [local go_sem] run_bits run_frombits run_store_float eqF
def FL (x : Nat → Nat) (k : Nat) : List Nat := (List.range k).map fun i => Fl.canon (x i)
theorem FL_len (x : Nat → Nat) (k : Nat) : (FL x k).length = k := by simp [FL]
theorem FL_succ (x : Nat → Nat) (k : Nat) : FL x (k + 1) = FL x k ++ [Fl.canon (x k)] := by simp [FL, List.range_succ]
/-- The forms of the numbers of a row. -/
def forms (x : Nat → Nat) (n : Nat) (hx : ∀ i, i < n → Fl.W (x i)) : List Form := List.ofFn (fun i : Fin n => (⟨Fl.canon (x i.1), Fl.canon_lt _ (hx i.1 i.2), Fl.canon_canon _⟩ : Form))
theorem forms_len0 (x : Nat → Nat) (n : Nat) (hx : ∀ i, i < n → Fl.W (x i)) : (forms x n hx).length = n := by unfold forms; exact List.length_ofFn
theorem forms_len (x : Nat → Nat) (n : Nat) (hx : ∀ i, i < n → Fl.W (x i)) : (forms x n hx).length = n := by unfold forms; exact List.length_ofFn
theorem forms_at (x : Nat → Nat) (n : Nat) (hx : ∀ i, i < n → Fl.W (x i)) (i : Nat) (h : i < (forms x n hx).length) : ((forms x n hx)[i]).1 = Fl.canon (x i) := by
  have e : (forms x n hx)[i] = (⟨Fl.canon (x i), Fl.canon_lt _ (hx i (by rw [← forms_len0 x n hx]; exact h)), Fl.canon_canon _⟩ : Form) := List.getElem_ofFn h
  rw [e]
def zz (L : List Form) : Nat → Nat := fun i => (L.toArray[i]!).1
theorem zz_get (L : List Form) (i : Nat) (h : i < L.length) : zz L i = (L[i]).1 := by
  unfold zz
  rw [getElem!_pos L.toArray i (by simpa using h)]
  simp
theorem forms_get (x : Nat → Nat) (n : Nat) (hx : ∀ i, i < n → Fl.W (x i)) (i : Nat) (h : i < n) : zz (forms x n hx) i = Fl.canon (x i) := by
  rw [zz_get _ _ (by rw [forms_len]; exact h)]
  exact forms_at x n hx i _
theorem zz_form (L : List Form) (i : Nat) : Fl.W (zz L i) ∧ Fl.canon (zz L i) = zz L i := (L.toArray[i]!).2
/-- In order, each once: the document's Sort. -/
theorem sorted_is (x : Nat → Nat) (n : Nat) (hx : ∀ i, i < n → Fl.W (x i)) : Fl.dt (zz ((forms x n hx).mergeSort fun a b => !(ltOf cfF) b a)) n = Fl.sortL x n := by
  obtain ⟨a1, a2, a3⟩ := Fl.sortL_all x n hx n (Nat.le_refl _)
  have hlen : ((forms x n hx).mergeSort fun a b => !(ltOf cfF) b a).length = n := by rw [List.length_mergeSort, forms_len]
  have hsort : ((forms x n hx).mergeSort fun a b => !(ltOf cfF) b a).Pairwise (fun a b => (!(ltOf cfF) b a) = true) := by
    apply List.pairwise_mergeSort
    · intro a b c h1 h2; rw [ltF] at *; simp at *; omega
    · intro a b; rw [ltF, ltF]; simp; omega
  have hmem : ∀ f, f ∈ ((forms x n hx).mergeSort fun a b => !(ltOf cfF) b a) ↔ f ∈ forms x n hx := fun f => List.mem_mergeSort
  generalize (forms x n hx).mergeSort (fun a b => !(ltOf cfF) b a) = M at *
  apply Fl.asc_eq
  · refine Fl.dt_asc _ n (fun i hi => ?_) (fun i j hi hj h => ?_) n (Nat.le_refl _)
    · have h := List.pairwise_iff_getElem.1 hsort i (i + 1) (by omega) (by omega) (by omega)
      rw [ltF] at h
      rw [zz_get _ _ (by omega), zz_get _ _ (by omega)]
      simp at h; exact h
    · rw [zz_get _ _ (by omega), zz_get _ _ (by omega)] at h ⊢
      exact congrArg Subtype.val (form_eq _ _ h)
  · exact a1
  · intro z
    rw [Fl.dt_mem, a3 z]
    constructor
    · rintro ⟨i, hi, rfl⟩
      rw [zz_get _ _ (by omega)]
      have hm := (hmem M[i]).1 (List.getElem_mem _)
      obtain ⟨j, hj, e⟩ := List.mem_iff_getElem.1 hm
      refine ⟨j, by rw [forms_len] at hj; exact hj, ?_⟩
      rw [← e]; exact forms_at x n hx j _
    · rintro ⟨j, hj, rfl⟩
      have hm := (hmem ((forms x n hx)[j]'(by rw [forms_len]; exact hj))).2 (List.getElem_mem _)
      obtain ⟨i, hi, e⟩ := List.mem_iff_getElem.1 hm
      refine ⟨i, by omega, ?_⟩
      rw [zz_get _ _ hi, e]; exact (forms_at x n hx j _).symm
/-- CompactFunc at one number or more. -/
theorem compact_all (g n cap : Nat) (x : Nat → Nat) (hn : 1 ≤ n) (hnc : n ≤ cap) (hm : cap ≤ maxLen) (w : World) (h : RowW w g n x) (hW : ∀ i, i < n → Fl.W (x i) ∧ Fl.canon (x i) = x i) :
    Calls Tryz.prog 105 #[.slice (some ⟨g, 0, none⟩) n cap, .func (.func 106) #[] #[]] w fun e w' => e = .returned (.slice (some ⟨g, 0, none⟩) (Fl.dt x n).length cap) ∧ (∀ i, i < (Fl.dt x n).length → w'.cell? ⟨g, i, none⟩ = (Fl.dt x n)[i]?.map (Value.float .f64)) ∧ (∀ i, i < n → w'.frozen? ⟨g, i, none⟩ = false) ∧ Only g w w' := by
  by_cases h2 : 2 ≤ n
  · exact compact_any g n cap x h2 hnc hm w h hW
  · obtain rfl : n = 1 := by omega
    refine (compact_short (some ⟨g, 0, none⟩) 1 cap _ (by omega) w).mono ?_
    rintro e w' ⟨rfl, rfl⟩
    have e1 : Fl.dt x 1 = [x 0] := by simp [Fl.dt]
    rw [e1]
    refine ⟨rfl, fun i hi => ?_, fun i hi => (h i hi).2, Only.refl _ _⟩
    obtain rfl : i = 0 := by simpa using hi
    exact (h 0 (by omega)).1
theorem sortWorld_old {w : World} {g m : Nat} {d : Array Form} {os : Array Obj} : (sortWorld encF w g 0 m d os).os = w.os ∧ (sortWorld encF w g 0 m d os).tape = w.tape ∧ (sortWorld encF w g 0 m d os).output = w.output ∧ w.heap.size ≤ (sortWorld encF w g 0 m d os).heap.size ∧ ∀ k, k < w.heap.size → k ≠ g → (sortWorld encF w g 0 m d os).heap[k]? = w.heap[k]? := by
  refine ⟨rfl, rfl, rfl, ?_, fun k hk hne => ?_⟩
  · unfold sortWorld; simp
  · unfold sortWorld
    rw [heap_grow_old _ _ (by simpa using hk)]
    unfold putRow mapBlock
    simp [Array.getElem?_modify]
    intro e; exact absurd e.symm hne
set_option maxHeartbeats 2000000 in
set_option maxRecDepth 20000 in
theorem floSort_some (b off n cap : Nat) (x : Nat → Nat) (hm : n ≤ 17592186044000) (hn : 0 < n) (w : World) (hc : ∀ i, i < n → Fl.W (x i) ∧ w.cell? ⟨b, off + i, none⟩ = some (.float .f64 (x i))) :
    Calls Tryz.prog 96 #[.slice (some ⟨b, off, none⟩) n cap] w fun e w' => ∃ g c2, e = .returned (.slice (some ⟨g, 0, none⟩) (Fl.sortL x n).length c2) ∧ w.heap.size ≤ g ∧ (∀ i, i < (Fl.sortL x n).length → w'.cell? ⟨g, i, none⟩ = (Fl.sortL x n)[i]?.map (Value.float .f64) ∧ w'.frozen? ⟨g, i, none⟩ = false) ∧ Old w w' := by
  obtain ⟨i0, hi, hz0, hz1, hz2⟩ := info_parts infoFloat
  have HX := hid hc
  clear hc
  go_enter Tryz.func96, Tryz.ntmps96
  go_wp2_with (refine wpList_make_own w rfl (.const (.int .i64 0)) (.tmp 7) 28 rfl w.heap.size 43 i0 (.float .f64 0) 1 Tryz.underlying28 hi hz0 hz1 .i64 .i64 _ n rfl rfl (by omega) (by rw [hz2]; omega) (by unfold maxLen; omega) (Nat.le_refl _) ?_; intro w1 ho1 hg1; have u1 : Old w w1 := Below.grown (Below.refl _ _) hg1 (Nat.le_refl _) (fun k hk => by cases hk); have O1 : Hid (OwnF w.heap.size w1 _ (FL x 0)) := ho1; have U1 := hid u1; clear ho1 hg1 u1)
  go_loopw [3, 11] (fun o i wr => ∃ k : Nat, k ≤ n ∧ i = .int .i64 (k : Nat) ∧ OwnF w.heap.size wr o (FL x k) ∧ Old w wr) (fun _ i _ => n - (intOf i).toNat)
  case atStart => exact ⟨0, Nat.zero_le _, rfl, O1.out, U1.out⟩
  case round =>
    obtain ⟨k, hk, rfl, ho, hu⟩ := hrel
    have HO := hid ho
    have HU := hid hu
    clear ho hu
    by_cases hlt : k < n
    · obtain ⟨hw, hcell⟩ := HX.out k hlt
      have hcr := HU.out.keep hcell
      have HCn := hid (fun W => canon_any (x k) hw W)
      have hlen := FL_len x k
      have HFs := hid (FL_succ x k)
      clear hcell HX O1 U1
      generalize x k = X at *
      go_wp2_with (first | (go_at_call 102; refine (HCn.out _).mono ?_; rintro e w' ⟨rfl, hw⟩; have hw2 := hw.symm; subst hw2) | (at_builtin; refine wp_appF rfl (.tmp 15) (.tmp 18) rfl w.heap.size _ (FL x k) _ 1 (Fl.canon X) rfl rfl (OwnF.up HO.out ((Old.refl _).alloc _)) (cell_one _ _ _ (by simp)) (by omega) (by have := HU.out.size; simp; omega) ?_; intro v8 w8 o8 u8; have O8 := hid o8; have V8 := hid (below_up' HU.out ((Old.refl _).alloc _) u8); clear o8 u8))
      go_roundw
      case rel => exact ⟨k + 1, hlt, by go_num, by rw [HFs.out]; exact O8.out, V8.out⟩
      case measure => simp [intOf]; omega
    · obtain rfl : n = k := by omega
      have h2 := HO.out
      unfold OwnF at h2
      rcases h2.2 with ⟨_, e⟩ | ⟨g, c2, cur, hv, hbg, hg, hnc, hcm, hcs, htk⟩
      · rw [FL_len] at e; omega
      subst hv
      rw [FL_len] at hnc
      have hgl := lt_of_block hg
      have hx : ∀ i, i < n → Fl.W (x i) := fun i hi => (HX.out i hi).1
      have hcell : ∀ i, i < n → wr.cell? ⟨g, i, none⟩ = some (.float .f64 (Fl.canon (x i))) := fun i hi => by
        rw [h2.cellAt i (by rw [FL_len]; omega)]
        simp [fls, FL, hi]
      have hfz : ∀ i, wr.frozen? ⟨g, i, none⟩ = false := h2.frozenAt
      have hsz : (forms x n hx).toArray.size = n := by rw [List.size_toArray, forms_len]
      have hH : Holds encF wr g 0 (forms x n hx).toArray := fun j hj => by
        rw [hsz] at hj
        rw [Nat.zero_add]
        refine ⟨?_, hfz j⟩
        rw [hcell j hj]
        show some (Value.float .f64 (Fl.canon (x j))) = some (Value.float .f64 (zz (forms x n hx) j))
        rw [forms_get x n hx j hj]
      have HS := hid (sort_forms g 0 c2 (forms x n hx).toArray wr hH hgl (by rw [hsz]; omega))
      rw [hsz] at HS
      have hM : ((forms x n hx).mergeSort fun a b => !(ltOf cfF) b a).length = n := by rw [List.length_mergeSort, forms_len]
      have HSo := hid (sorted_is x n hx)
      have HC := hid (fun (m : Nat) (os : Array Obj) => compact_all g n c2 (zz ((forms x n hx).mergeSort fun a b => !(ltOf cfF) b a)) (by omega) hnc hcm (sortWorld encF wr g 0 m ((forms x n hx).mergeSort fun a b => !(ltOf cfF) b a).toArray os) (fun i hi => by
        have h := holds_sortWorld encF wr g 0 m (forms x n hx).toArray ((forms x n hx).mergeSort fun a b => !(ltOf cfF) b a).toArray os hgl hH (by rw [hsz, List.size_toArray, hM]) i (by rw [List.size_toArray, hM]; exact hi)
        rw [Nat.zero_add] at h
        exact h) (fun i hi => zz_form _ i))
      rw [HSo.out] at HC
      rw [FL_len]
      have hslen := hid (Fl.sortL_len x n)
      clear HX h2 hg hcs htk hcell hfz hH hM hsz HO O1 U1
      generalize ((forms x n hx).mergeSort fun a b => !(ltOf cfF) b a) = M at *
      go_wp2_with (first | (go_at_call 104; refine HS.out.mono ?_; rintro e w2 ⟨rfl, m, os, rfl⟩) | (go_at_call 105; refine (HC.out m os).mono ?_; rintro e w3 ⟨rfl, hc3, hf3, ho3⟩; have HC3 := hid hc3; have HF3 := hid hf3; have HO3 := hid ho3; clear hc3 hf3 ho3))
      go_ret
      refine ⟨g, c2, rfl, hbg, fun i hi => ⟨HC3.out i hi, HF3.out i (by have := hslen.out; omega)⟩, ?_⟩
      obtain ⟨s1, s2, s3, s4, s5⟩ := sortWorld_old (w := wr) (g := g) (m := m) (d := M.toArray) (os := os)
      have hus := HU.out.size
      exact ⟨HO3.out.os.trans (s1.trans HU.out.os), HO3.out.tape.trans (s2.trans HU.out.tape), HO3.out.output.trans (s3.trans HU.out.output), by rw [HO3.out.size]; omega, fun i hi => (HO3.out.block i (by omega)).trans ((s5 i (by omega) (by omega)).trans (HU.out.block i hi))⟩
end Go.Proofs.YtbkbnfgjkefcmaaGreat
