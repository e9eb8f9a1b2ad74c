/- The library's sort of spans with span.Cmp, by its contract, laid at this dump; no condition. -/
import Derived.Test.YthjfkmjeppdcnaaGreatClB
import Derived.Test.YthjfkmjeppdcnaaGreatClC
import Derived.Shelf.SlSortCmp.NoneTotal
import Derived.Shelf.Lay
import Derived.Ground.SlsfProg
import Derived.Lib.RowBridge
import Derived.Lib.SortBridge
import Derived.Sort.Grow
import Derived.Test.YthjfkmjeppdcnaaGreatSqa
namespace Go.Proofs
set_option linter.unusedSimpArgs false
open Go.Shelf
shelf_lay_g SlLaysF0.n6 Slsf 6 at Tryz 120 as YthjfkmjeppdcnaaGreat.sortLaid
end Go.Proofs
namespace Go.Proofs.YthjfkmjeppdcnaaGreat
open Go.Shelf Go.RowKit Go.Lib Go.Sort
set_option linter.unusedVariables false
theorem Up.grows {w w' : World} (u : Up w w') : ∃ q os, w' = grow (w.drewN q) os := by
 refine ⟨w'.drawn - w.drawn, w'.heap.extract w.heap.size w'.heap.size, ?_⟩
 have hs := u.size
 have hd := u.drawn
 have hh : w'.heap = w.heap ++ w'.heap.extract w.heap.size w'.heap.size := by
  apply Array.ext_getElem?
  intro i
  by_cases hi : i < w.heap.size
  ·rw [Array.getElem?_append_left hi]; exact u.block i hi
  ·rw [Array.getElem?_append_right (by omega), Array.getElem?_extract]
   by_cases hj : i < w'.heap.size
   ·rw [if_pos (by omega)]; congr 1; omega
   ·rw [if_neg (by omega)]; exact Array.getElem?_eq_none (by omega)
 have h1 := u.os; have h2 := u.tape; have h3 := u.output
 cases w; cases w'
 simp only [grow, World.drewN] at *
 subst h1 h2 h3
 rw [← hh]
 congr 1
 omega
def RF : Type := { r : Nat × Nat // Fl.RV r }
instance : Inhabited RF := ⟨⟨(9223372036854775808, 9223372036854775808), by unfold Fl.RV Fl.V; omega⟩⟩
def encR (x : RF) : List Value := spc (Fl.spo x.1)
def cfR (x y : RF) : Int := Fl.fc (Fl.of x.1.1) (Fl.of x.1.2) false (Fl.of y.1.1) (Fl.of y.1.2) false
theorem ltR (x y : RF) : ltOf cfR x y = decide (x.1.1 < y.1.1 ∨ x.1.1 = y.1.1 ∧ x.1.2 < y.1.2) := by
 have a := (Fl.of_V x.2.1).2.1
 have b := (Fl.of_V x.2.2.1).2.1
 have c := (Fl.of_V y.2.1).2.1
 have d := (Fl.of_V y.2.2.1).2.1
 unfold ltOf cfR
 have e0 : Fl.fc (Fl.of x.1.1) (Fl.of x.1.2) false (Fl.of y.1.1) (Fl.of y.1.2) false = if x.1.1 < y.1.1 then -1 else if y.1.1 < x.1.1 then 1 else if x.1.2 < y.1.2 then -1 else if y.1.2 < x.1.2 then 1 else 0 := by
  unfold Fl.fc; rw [a, b, c, d]; rfl
 rw [e0, decide_eq_decide]
 (repeat' split) <;> omega
theorem swoR : SWO (ltOf cfR) where
 irrefl x := by rw [ltR]; simp
 trans x y z h1 h2 := by rw [ltR] at *; simp at *; omega
 ntrans x y z h1 h2 := by rw [ltR] at *; simp at *; omega
theorem totR (x y : RF) (h1 : ltOf cfR x y = false) (h2 : ltOf cfR y x = false) : x = y := by
 rw [ltR] at *; simp at *
 exact Subtype.ext (Prod.ext (by omega) (by omega))
theorem enter_scmp : ∀ args w, (callFunc 121 args).run Tryz.prog w = .ok (.enter 121 args) w := enters_of Tryz.func121 (by kernel_rfl) rfl
theorem cmpLaysR (blk off size : Nat) (w : World) : CmpLays Tryz.prog 121 #[] encR 4 cfR blk off size w := fun _ _ _ _ x y =>
 (cmp_at (Fl.spo_form x.2) (Fl.spo_form y.2) _ _ _ _ _ _ _ _ (fun w => canon_form _ _ _ (Fl.spo_form x.2) w) (fun w => canon_form _ _ _ (Fl.spo_form y.2) w) _).mono fun e w' h => ⟨h.1, h.2.grows⟩
theorem isAggS (w : World) : (isAgg 93).run Tryz.prog w = .ok true w := by kernel_rfl
theorem sizeS (w : World) : (Go.sizeOf 93).run Tryz.prog w = .ok 4 w := by kernel_rfl
theorem sort_spans (blk off cap : Nat) (d : Array RF) (w : World) (hH : HoldsK encR 4 w blk off d) (hblk : blk < w.heap.size) (hsz : d.size < 4611686018427387904) :
    Calls Tryz.prog 120 #[.slice (some ⟨blk, off, none⟩) d.size cap, .func (.func 121) #[] #[]] w fun e w' => e = .returned (.tuple #[]) ∧ ∃ n os, w' = sortWorldK encR 4 w blk off n (d.toList.mergeSort fun x y => !(ltOf cfR) y x).toArray os := by
 have hS := AnyQ.slices_SortFunc_total sortLaid 4 isAggS sizeS encR (fun _ => rfl) (fun x v hv => by simp [encR, spc] at hv; rcases hv with rfl | rfl | rfl | rfl <;> rfl) cfR swoR 121 #[] blk off cap d w enter_scmp (cmpLaysR blk off d.size w) hH hblk hsz totR
 exact hS
theorem sort_none (p : Option Addr) (c : Nat) (fv : Value) (w : World) : Calls Tryz.prog 120 #[.slice p 0 c, fv] w fun e w' => e = .returned (.tuple #[]) ∧ w' = w :=
 AnyF.slices_SortFunc_none (P := Tryz.prog) (ρ := sortLaid_ren) sortLaid p c fv w
theorem sortWorldK_old {w : World} {g m : Nat} {d : Array RF} {os : Array Obj} : (sortWorldK encR 4 w g 0 m d os).os = w.os ∧ (sortWorldK encR 4 w g 0 m d os).tape = w.tape ∧ (sortWorldK encR 4 w g 0 m d os).output = w.output ∧ w.heap.size ≤ (sortWorldK encR 4 w g 0 m d os).heap.size ∧ ∀ k, k < w.heap.size → k ≠ g → (sortWorldK encR 4 w g 0 m d os).heap[k]? = w.heap[k]? := by
 refine ⟨rfl, rfl, rfl, ?_, fun k hk hne => ?_⟩
 ·unfold sortWorldK putRowK; simp
 ·unfold sortWorldK putRowK
  rw [heap_grow_old _ _ (by simpa using hk)]
  unfold putRow mapBlock
  simp [Array.getElem?_modify]
  intro e; exact absurd e.symm hne
def rfs (L : List (Nat × Nat)) (h : ∀ r ∈ L, Fl.RV r) : List RF := L.attachWith Fl.RV h
theorem rfs_len (L : List (Nat × Nat)) (h : ∀ r ∈ L, Fl.RV r) : (rfs L h).length = L.length := by unfold rfs; exact List.length_attachWith ..
theorem rfs_val (L : List (Nat × Nat)) (h : ∀ r ∈ L, Fl.RV r) : (rfs L h).map (·.1) = L := by
 have e := List.attachWith_map_val (f := fun x : Nat × Nat => x) h
 unfold rfs
 exact e.trans (List.map_id' L)
def srt (L : List (Nat × Nat)) (h : ∀ r ∈ L, Fl.RV r) : List (Nat × Nat) := ((rfs L h).mergeSort fun x y => !(ltOf cfR) y x).map (·.1)
theorem srt_mem (L : List (Nat × Nat)) (h : ∀ r ∈ L, Fl.RV r) (r : Nat × Nat) : r ∈ srt L h ↔ r ∈ L := by
 unfold srt
 rw [List.mem_map]
 constructor
 ·rintro ⟨x, hx, rfl⟩
  have := List.mem_mergeSort.1 hx
  rw [← rfs_val L h]; exact List.mem_map.2 ⟨x, this, rfl⟩
 ·intro hr
  rw [← rfs_val L h] at hr
  obtain ⟨x, hx, e⟩ := List.mem_map.1 hr
  exact ⟨x, List.mem_mergeSort.2 hx, e⟩
theorem srt_len (L : List (Nat × Nat)) (h : ∀ r ∈ L, Fl.RV r) : (srt L h).length = L.length := by
 unfold srt; rw [List.length_map, List.length_mergeSort, rfs_len]
theorem srt_sorted (L : List (Nat × Nat)) (h : ∀ r ∈ L, Fl.RV r) : (srt L h).Pairwise (fun a b => a.1 ≤ b.1) := by
 unfold srt
 rw [List.pairwise_map]
 have := List.pairwise_mergeSort (le := fun x y => !(ltOf cfR) y x) (fun x y z h1 h2 => by
  simp only [Bool.not_eq_true'] at *
  exact swoR.ntrans _ _ _ h2 h1) (fun x y => by
  rw [ltR, ltR]; simp; omega) (rfs L h)
 refine this.imp fun {a b} k => ?_
 rw [ltR] at k; simp at k; omega
end Go.Proofs.YthjfkmjeppdcnaaGreat
namespace Go.Proofs.YthjfkmjeppdcnaaGreat
set_option linter.unusedSimpArgs false
open Go.Shelf Go.RowKit Go.Lib Go.Sort
set_option linter.unusedVariables false
attribute [local go_sem] run_bits run_frombits run_store_float eqF
theorem holdsK_cells {w : World} {g : Nat} {d : Array RF} (h : HoldsK encR 4 w g 0 d) (i : Nat) (hi : i < d.size) : SpIn w g (i * 4) (Fl.spo (d[i]!).1) := by
 have H : ∀ r, r < 4 → w.cell? ⟨g, i * 4 + r, none⟩ = some ((encR d[i]!)[r]!) := fun r hr => by
  have k := (h (i * 4 + r) (by rw [size_flatK]; omega)).1
  rw [Nat.zero_add, get_flatK _ _ _ _ (by omega)] at k
  rw [k, show (i * 4 + r) / 4 = i by omega, show (i * 4 + r) % 4 = r by omega]
  rfl
 exact ⟨H 0 (by omega), H 1 (by omega), H 2 (by omega), H 3 (by omega)⟩
theorem cells_holdsK {w : World} {g : Nat} {d : Array RF} (h : ∀ i, i < d.size → SpIn w g (i * 4) (Fl.spo (d[i]!).1)) (hf : ∀ o, w.frozen? ⟨g, o, none⟩ = false) : HoldsK encR 4 w g 0 d := by
 intro j hj
 rw [size_flatK] at hj
 rw [Nat.zero_add, get_flatK _ _ _ _ hj]
 refine ⟨?_, hf j⟩
 have hi : j / 4 < d.size := by omega
 have k := h (j / 4) hi
 have e : j = j / 4 * 4 + j % 4 := by omega
 generalize j / 4 = q at *
 have hr : j % 4 < 4 := Nat.mod_lt _ (by decide)
 generalize j % 4 = r at *
 subst e
 match r, hr with
 | 0, _ => exact k.1
 | 1, _ => exact k.2.1
 | 2, _ => exact k.2.2.1
 | 3, _ => exact k.2.2.2
theorem arr_get (L : List RF) (i : Nat) (h : i < L.length) : (L.toArray[i]!) = L[i] := by
 rw [getElem!_pos L.toArray i (by simpa using h)]; simp
theorem rfs_get (L : List (Nat × Nat)) (h : ∀ r ∈ L, Fl.RV r) (i : Nat) (hi : i < L.length) : ((rfs L h)[i]'(by rw [rfs_len]; exact hi)).1 = L[i] := by
 have e : ((rfs L h).map (·.1))[i]'(by rw [rfs_val]; exact hi) = L[i] := by simp only [rfs_val]
 rw [List.getElem_map] at e; exact e
set_option maxHeartbeats 2000000 in
set_option maxRecDepth 20000 in
theorem rising_any (v : Value) (n : Nat) (f : Nat → Sp) (hn : n ≤ 5864062014805) (w : World) (hv : SRow w v n f) :
    Calls Tryz.prog 86 #[v] w fun e w' => ∃ (v' : Value) (S : List (Nat × Nat)), e = .returned v' ∧ SRow w' v' S.length (atS (S.map Fl.spo)) ∧ (∀ r, r ∈ S ↔ r ∈ Fl.cdl f n) ∧ S.length ≤ n ∧ S.Pairwise (fun a b => a.1 ≤ b.1) ∧ Old w w' := by
 have o0 : FloatKind.f64.format.order 0 0 = some .eq := by decide +kernel
 obtain ⟨hm, a, c, rfl, hc⟩ := hv
 have HC := hid hc
 have HW := hid (fun i (hi : i < n) => by obtain ⟨_, _, _, h1, h2, _⟩ := hc i hi; exact (⟨h1, h2⟩ : Fl.W (f i).a ∧ Fl.W (f i).b))
 clear hc
 go_enter Tryz.func86, Tryz.ntmps86
 go_wp2
 go_loopw [3, 9] (fun o i wr => ∃ k : Nat, k ≤ n ∧ i = .int .i64 (k : Nat) ∧ OwnS w.heap.size wr o ((Fl.cdl f k).map Fl.spo) ∧ Old w wr) (fun _ i _ => n - (intOf i).toNat)
 case atStart => exact ⟨0, Nat.zero_le _, rfl, OwnS.nil _ _, Old.refl _⟩
 case round =>
  obtain ⟨k, hk, rfl, ho, hu⟩ := hrel
  have HO := hid ho
  have HU := hid hu
  clear ho hu
  by_cases hlt : k < n
  ·obtain ⟨b, off, ha, hW1, hW2, c0, c1, c2, c3⟩ := HC.out k hlt
   subst ha
   have x0 := HU.out.keep c0
   have x1 := HU.out.keep c1
   have x2 := HU.out.keep c2
   have x3 := HU.out.keep c3
   have HK := fun W => canonS_any (f k).a (f k).b hW1 hW2 (f k).p (f k).q W
   have l1 : (0 : Int) ≤ (k : Int) := by omega
   have l2 : (k : Int) < (n : Int) := by omega
   have HL := hid (Fl.cdl_len f k)
   have hce := Fl.csE_true (f k).a (f k).b (f k).p (f k).q
   have HSP := hid (Fl.spo_cs (f k) hW1 hW2)
   cases hE : Fl.csE (f k).a (f k).b (f k).p (f k).q
   ·have HD : Hid (Fl.cdl f (k + 1) = Fl.cdl f k ++ [(Fl.code (Fl.csU (f k).a (f k).b (f k).p (f k).q), Fl.code (Fl.csV (f k).a (f k).b (f k).p (f k).q))]) := by
      show Fl.cdl f k ++ Fl.cd (f k) = _; unfold Fl.cd; rw [hE]; rfl
    rw [hE] at HK
    have H := hid HK
    clear c0 c1 c2 c3 hce hE HK hW1 hW2
    generalize Fl.csU (f k).a (f k).b (f k).p (f k).q = u at *
    generalize Fl.csV (f k).a (f k).b (f k).p (f k).q = v at *
    generalize (f k).a = a1 at *
    generalize (f k).b = b1 at *
    generalize (f k).p = p1 at *
    generalize (f k).q = q1 at *
    go_wp2_with (go_at_call 90; refine (H.out _).mono ?_; rintro e w1 ⟨rfl, hb1⟩; have UR := hid (((Old.refl wr).alloc _).trans hb1.old); have U1 := hid (HU.out.trans UR.out))
    go_region_held3 (SpAt w1.heap.size u v false false) (first | (apply SpAt.up; (first | assumption | exact Up.drew (Up.refl _)); assumption) | (simp [SpAt, *])) (first | (go_at_call 91; refine (none_any _).mono ?_; rintro e w2 ⟨rfl, hb2⟩))
    all_goals have zs := U1.out.size
    all_goals have zr := UR.out.size
    all_goals have UH := hid (show Old wr w2 from (by repeat (first | exact Old.refl _ | assumption | exact UR.out | refine Old.drew ?_ | refine Old.drewN ?_ _ | refine Old.alloc ?_ _ | refine Old.setCell ?_ ?_ _ | exact Nat.le_refl _ | exact Nat.le_add_right _ _ | (dsimp only; omega) | refine Old.trans ?_ (Up.old ‹Up _ _›))))
    all_goals have zw := UH.out.size
    all_goals have zv := HU.out.size
    all_goals go_wp2_with (first | (at_builtin; refine wp_appS rfl (.tmp 18) (.tmp 20) rfl w.heap.size _ (List.map Fl.spo (Fl.cdl f k)) [⟨u, v, false, false⟩] _ 0 1 rfl rfl (OwnS.old HO.out (UH.out.alloc _)) (spIn_new _ ⟨u, v, false, false⟩ _ rfl) (by have := HL.out; simp; omega) (by simp; omega) ?_; intro v8 w8 o8 u8; have O8 := hid o8; have V8 := hid (Old.below ((HU.out.trans UH.out).alloc _) u8); clear o8 u8))
    all_goals go_roundw
    case rel => exact ⟨k + 1, hlt, by go_num, by rw [HD.out, List.map_append, List.map_singleton, HSP.out]; exact O8.out, V8.out⟩
    case measure => simp [intOf]; omega
   ·obtain ⟨hu0, hv0⟩ := hce hE
    have HD : Hid (Fl.cdl f (k + 1) = Fl.cdl f k) := by
     show Fl.cdl f k ++ Fl.cd (f k) = _; unfold Fl.cd; rw [hE]; simp
    rw [hE, hu0, hv0] at HK
    have H := hid HK
    clear c0 c1 c2 c3 hce hE HK hW1 hW2 HSP hu0 hv0
    generalize (f k).a = a1 at *
    generalize (f k).b = b1 at *
    generalize (f k).p = p1 at *
    generalize (f k).q = q1 at *
    go_wp2_with (go_at_call 90; refine (H.out _).mono ?_; rintro e w1 ⟨rfl, hb1⟩; have UR := hid (((Old.refl wr).alloc _).trans hb1.old); have U1 := hid (HU.out.trans UR.out))
    go_region_held3 (SpAt w1.heap.size 0 0 true true) (first | (apply SpAt.up; (first | assumption | exact Up.drew (Up.refl _)); assumption) | (simp [SpAt, *])) (first | (go_at_call 91; refine (none_any _).mono ?_; rintro e w2 ⟨rfl, hb2⟩))
    all_goals have zs := U1.out.size
    all_goals have zr := UR.out.size
    all_goals have UH := hid (show Old wr w2 from (by repeat (first | exact Old.refl _ | assumption | exact UR.out | refine Old.drew ?_ | refine Old.drewN ?_ _ | refine Old.alloc ?_ _ | refine Old.setCell ?_ ?_ _ | exact Nat.le_refl _ | exact Nat.le_add_right _ _ | (dsimp only; omega) | refine Old.trans ?_ (Up.old ‹Up _ _›))))
    all_goals go_wp2
    all_goals go_roundw
    case rel => exact ⟨k + 1, hlt, by go_num, by rw [HD.out]; exact OwnS.old HO.out UH.out, HU.out.trans UH.out⟩
    case measure => simp [intOf]; omega
  ·obtain rfl : k = n := by omega
   have hR := Fl.cdl_RV f k HW.out
   have HR := hid hR
   have HL := hid (Fl.cdl_len f k)
   by_cases h0 : (Fl.cdl f k).length = 0
   ·have hnil := List.eq_nil_of_length_eq_zero h0
    obtain ⟨a', c', hv'⟩ := HO.out.len
    rw [List.length_map, h0] at hv'
    subst hv'
    have HN := hid (fun W => sort_none a' c' (.func (.func 121) #[] #[]) W)
    go_wp2_with (go_at_call 120; refine (HN.out _).mono ?_; rintro o w5 ⟨rfl, rfl⟩)
    go_ret
    exact ⟨_, [], rfl, ⟨Nat.zero_le _, _, _, rfl, fun i hi => absurd hi (by simp)⟩, fun r => by rw [hnil], Nat.zero_le _, List.Pairwise.nil, HU.out⟩
   ·obtain ⟨g, cap, hv', hg1, hg2, hnc, hcm, hcell, hfz⟩ := HO.out.shape (by rw [List.length_map]; omega)
    rw [List.length_map] at hv' hnc
    subst hv'
    have hsz : (rfs (Fl.cdl f k) hR).toArray.size = (Fl.cdl f k).length := by rw [List.size_toArray, rfs_len]
    have hH : HoldsK encR 4 wr g 0 (rfs (Fl.cdl f k) hR).toArray := by
     refine cells_holdsK (fun i hi => ?_) hfz
     rw [hsz] at hi
     have hi2 : i < (List.map Fl.spo (Fl.cdl f k)).length := by rw [List.length_map]; exact hi
     have q := hcell i hi2
     rw [List.getElem_map] at q
     rw [arr_get _ i (by rw [rfs_len]; exact hi), rfs_get _ _ i hi]; exact q
    have HS := sort_spans g 0 cap (rfs (Fl.cdl f k) hR).toArray wr hH hg2 (by rw [hsz]; have := HL.out; omega)
    rw [hsz] at HS
    have HSS := hid HS
    have HH := hid hH
    have HZ := hid hsz
    have HG := hid (And.intro hg1 hg2)
    clear HS hcell hfz hH hsz hg1 hg2 HC
    go_wp2_with (go_at_call 120; refine HSS.out.mono ?_; rintro o w5 ⟨rfl, m5, os5, hw5⟩; have H5 := hid hw5; clear hw5)
    go_ret
    have hlen : (srt (Fl.cdl f k) hR).length = (Fl.cdl f k).length := srt_len _ _
    have hM : ((rfs (Fl.cdl f k) hR).mergeSort fun x y => !(ltOf cfR) y x).length = (Fl.cdl f k).length := by rw [List.length_mergeSort, rfs_len]
    have hK := holdsK_sortWorldK encR 4 wr g 0 m5 (rfs (Fl.cdl f k) hR).toArray ((rfs (Fl.cdl f k) hR).mergeSort fun x y => !(ltOf cfR) y x).toArray os5 HG.out.2 HH.out (by rw [List.size_toArray, List.size_toArray, hM, rfs_len])
    have e5 : w5 = sortWorldK encR 4 wr g 0 m5 ((rfs (Fl.cdl f k) hR).mergeSort fun x y => !(ltOf cfR) y x).toArray os5 := H5.out
    rw [← e5] at hK
    refine ⟨_, srt (Fl.cdl f k) hR, rfl, ?_, srt_mem _ _, by rw [hlen]; exact HL.out, srt_sorted _ _, ?_⟩
    ·refine ⟨by rw [hlen]; have := HL.out; omega, some ⟨g, 0, none⟩, cap, by rw [hlen]; rfl, fun i hi => ⟨g, 0, rfl, ?_⟩⟩
     have hi2 : i < (List.map Fl.spo (srt (Fl.cdl f k) hR)).length := by rw [List.length_map]; exact hi
     rw [atS_get _ i hi2, List.getElem_map]
     have rv := hR _ ((srt_mem _ hR _).1 (List.getElem_mem hi))
     refine ⟨(Fl.spo_W rv).1, (Fl.spo_W rv).2, ?_⟩
     have q := holdsK_cells hK i (by rw [List.size_toArray, hM, ← hlen]; exact hi)
     rw [arr_get _ i (by rw [hM, ← hlen]; exact hi)] at q
     rw [Nat.zero_add]
     have e : (srt (Fl.cdl f k) hR)[i] = (((rfs (Fl.cdl f k) hR).mergeSort fun x y => !(ltOf cfR) y x)[i]'(by rw [hM, ← hlen]; exact hi)).1 := by unfold srt; exact List.getElem_map ..
     rw [e]; exact q
    ·have so := sortWorldK_old (w := wr) (g := g) (m := m5) (d := ((rfs (Fl.cdl f k) hR).mergeSort fun x y => !(ltOf cfR) y x).toArray) (os := os5)
     rw [← e5] at so
     exact HU.out.below ⟨so.1, so.2.1, so.2.2.1, so.2.2.2.1, fun q hq => so.2.2.2.2 q (by have := HU.out.size; omega) (by have := HG.out.1; omega)⟩
end Go.Proofs.YthjfkmjeppdcnaaGreat
namespace Go.Proofs.YthjfkmjeppdcnaaGreat
abbrev oNm0 : Oper := { dst := some 28, op := .move (.tmp 3), type := 31, pos := "span.go:101", after := #[], guard := none }
abbrev oNm1 : Oper := { dst := some 29, op := .move (.tmp 6), type := 3, pos := "span.go:101", after := #[], guard := none }
abbrev oNm2 : Oper := { dst := some 30, op := .binOp .sub 3 (.tmp 29) (.const (.int IntKind.i64 1)) 3, type := 3, pos := "span.go:101", after := #[⟨1, .data⟩], guard := none }
abbrev oNm3 : Oper := { dst := some 31, op := .move (.tmp 3), type := 31, pos := "span.go:101", after := #[], guard := none }
abbrev oNm4 : Oper := { dst := some 32, op := .move (.tmp 6), type := 3, pos := "span.go:101", after := #[], guard := none }
abbrev oNm5 : Oper := { dst := some 33, op := .binOp .sub 3 (.tmp 32) (.const (.int IntKind.i64 1)) 3, type := 3, pos := "span.go:101", after := #[⟨4, .data⟩], guard := none }
abbrev oNm6 : Oper := { dst := some 34, op := .indexAddr 31 (.tmp 31) (.tmp 33), type := 0, pos := "span.go:101", after := #[⟨3, .data⟩, ⟨5, .data⟩], guard := none }
abbrev oNm7 : Oper := { dst := some 35, op := .fieldAddr 93 (.tmp 34) 1, type := 0, pos := "span.go:101", after := #[⟨6, .data⟩], guard := none }
abbrev oNm8 : Oper := { dst := some 37, op := .fieldAddr 93 (.tmp 5) 1, type := 0, pos := "span.go:101", after := #[], guard := none }
abbrev oNm9 : Oper := { dst := some 36, op := .load 29 (.tmp 35), type := 29, pos := "span.go:101", after := #[⟨7, .data⟩], guard := none }
abbrev oNm10 : Oper := { dst := some 38, op := .load 29 (.tmp 37), type := 29, pos := "span.go:101", after := #[⟨9, .data⟩], guard := none }
abbrev oNm11 : Oper := { dst := some 39, op := .buildSlice 30 2 #[(0, .tmp 36), (1, .tmp 38)], type := 30, pos := "span.go:101", after := #[⟨8, .data⟩, ⟨10, .data⟩], guard := none }
abbrev oNm12 : Oper := { dst := some 40, op := .call { callee := Callee.value (.func 88), args := #[.tmp 39], argTypes := #[30] }, type := 29, pos := "span.go:101", after := #[⟨11, .data⟩], guard := none }
abbrev oNm13 : Oper := { dst := some 41, op := .indexAddr 31 (.tmp 28) (.tmp 30), type := 0, pos := "span.go:101", after := #[⟨0, .data⟩, ⟨2, .data⟩, ⟨0, .phase⟩, ⟨1, .phase⟩, ⟨2, .phase⟩, ⟨3, .phase⟩, ⟨4, .phase⟩, ⟨5, .phase⟩, ⟨6, .phase⟩, ⟨7, .phase⟩, ⟨8, .phase⟩, ⟨9, .phase⟩, ⟨10, .phase⟩, ⟨11, .phase⟩, ⟨12, .phase⟩], guard := none }
abbrev oNm14 : Oper := { dst := some 42, op := .fieldAddr 93 (.tmp 41) 1, type := 0, pos := "span.go:101", after := #[⟨13, .data⟩, ⟨0, .phase⟩, ⟨1, .phase⟩, ⟨2, .phase⟩, ⟨3, .phase⟩, ⟨4, .phase⟩, ⟨5, .phase⟩, ⟨6, .phase⟩, ⟨7, .phase⟩, ⟨8, .phase⟩, ⟨9, .phase⟩, ⟨10, .phase⟩, ⟨11, .phase⟩, ⟨12, .phase⟩], guard := none }
abbrev oNm15 : Oper := { dst := none, op := .store 29 (.tmp 42) (.tmp 40), type := 0, pos := "span.go:101", after := #[⟨14, .data⟩, ⟨12, .data⟩, ⟨12, .chain⟩, ⟨0, .phase⟩, ⟨1, .phase⟩, ⟨2, .phase⟩, ⟨3, .phase⟩, ⟨4, .phase⟩, ⟨5, .phase⟩, ⟨6, .phase⟩, ⟨7, .phase⟩, ⟨8, .phase⟩, ⟨9, .phase⟩, ⟨10, .phase⟩, ⟨11, .phase⟩, ⟨12, .phase⟩], guard := none }
set_option linter.unusedSimpArgs false
open Go.RowKit
set_option linter.unusedVariables false
attribute [local go_sem] run_bits run_frombits run_store_float eqF
theorem infoFloat1 : (Tryz.prog.info? 29).map (·.size) = some 1 := by kernel_rfl
theorem stepLoadF {ops : Array Oper} {o : Oper} {a : Act} {w : World} {K : Act → World → Prop} {Q : Exit → Act → World → Prop} {E : Prop} (hg : o.guard = none) (x : Operand) (hop : o.op = Op.load 29 x) (b off v : Nat)
    (hx : a.eval x = .pointer (some ⟨b, off, none⟩)) (hc : w.cell? ⟨b, off, none⟩ = some (.float .f64 v)) (hK : K (a.put o.dst (.float .f64 v)) w) :
    if Region.wanted o (yielded ops a.tmps) = true then Oper.wp Tryz.prog o a w K Q else E := by
 have hw : Region.wanted o (yielded ops a.tmps) = true := by simp [Region.wanted, hg]
 rw [if_pos hw]
 obtain ⟨d, p, t, ps, af, gd⟩ := o
 subst hop
 unfold Oper.wp execOp
 simp only [hx]
 go_simp
 exact hK
theorem stepStoreF {ops : Array Oper} {o : Oper} {a : Act} {w : World} {K : Act → World → Prop} {Q : Exit → Act → World → Prop} {E : Prop} (hg : o.guard = none) (x y : Operand) (hop : o.op = Op.store 29 x y) (m off v : Nat)
    (hx : a.eval x = .pointer (some ⟨m, off, none⟩)) (hy : a.eval y = .float .f64 v) (ht : w.there m off 1)
    (hK : K (a.put o.dst undef) (w.setCell ⟨m, off, none⟩ (.float .f64 v))) :
    if Region.wanted o (yielded ops a.tmps) = true then Oper.wp Tryz.prog o a w K Q else E := by
 have hw : Region.wanted o (yielded ops a.tmps) = true := by simp [Region.wanted, hg]
 rw [if_pos hw]
 obtain ⟨h1, h2⟩ := ht 0 (by omega)
 rw [Nat.add_zero] at h1 h2
 obtain ⟨z, hz⟩ := Option.isSome_iff_exists.1 h1
 obtain ⟨d, p, t, ps, af, gd⟩ := o
 subst hop
 unfold Oper.wp execOp
 simp only [hx, hy]
 go_simp
 exact hK
theorem OwnS.setHi {base : Nat} {w : World} {g cap n : Nat} {I : List Sp} {s : Sp} (hn : n = (I ++ [s]).length) (h : OwnS base w (.slice (some ⟨g, 0, none⟩) n cap) (I ++ [s])) (x : Nat) :
    OwnS base (w.setCell ⟨g, I.length * 4 + 1, none⟩ (.float .f64 x)) (.slice (some ⟨g, 0, none⟩) n cap) (I ++ [⟨s.a, x, s.p, s.q⟩]) := by
 subst hn
 unfold OwnS at *
 have k := (World.ownsRow.stored h (I.length * 4 + 1) (.float .f64 x)).1
 have e : (spcs (I ++ [s])).set (I.length * 4 + 1) (.float .f64 x) = spcs (I ++ [⟨s.a, x, s.p, s.q⟩]) := by
  rw [← spcs_app, ← spcs_app, List.set_append_right _ _ (by rw [spcs_len]; omega), spcs_len, show I.length * 4 + 1 - I.length * 4 = 1 by omega]
  rfl
 rw [e] at k
 simpa using k
abbrev E5 (g J lu lv fb u v : Nat) (w : World) : Prop := (w.cell? ⟨g, J * 4, none⟩ = some (.float .f64 lu) ∧ w.cell? ⟨g, J * 4 + 1, none⟩ = some (.float .f64 lv) ∧ w.cell? ⟨g, J * 4 + 2, none⟩ = some (.bool false) ∧ w.cell? ⟨g, J * 4 + 3, none⟩ = some (.bool false)) ∧ SpAt fb u v false false w
theorem E5.old {g J lu lv fb u v : Nat} {w w' : World} (x : Old w w') (h : E5 g J lu lv fb u v w) : E5 g J lu lv fb u v w' := ⟨⟨x.keep h.1.1, x.keep h.1.2.1, x.keep h.1.2.2.1, x.keep h.1.2.2.2⟩, x.keep h.2.1, x.keep h.2.2.1, x.keep h.2.2.2.1, x.keep h.2.2.2.2⟩
set_option maxHeartbeats 4000000 in
set_option maxRecDepth 20000 in
theorem norm_any (v : Value) (n : Nat) (f : Nat → Sp) (hn : n ≤ 5864062014805) (w : World) (hv : SRow w v n f) :
    Calls Tryz.prog 56 #[v] w fun e w' => ∃ v' : Value, e = .returned v' ∧ OwnS w.heap.size w' v' ((Fl.dfold (Fl.cdl f n)).map Fl.spo) ∧ Old w w' := by
 have HR := hid (rising_any v n f hn w hv)
 obtain ⟨hm, a, c, rfl, hc⟩ := hv
 have HW := hid (Fl.cdl_RV f n fun i (hi : i < n) => by obtain ⟨_, _, _, h1, h2, _⟩ := hc i hi; exact (⟨h1, h2⟩ : Fl.W (f i).a ∧ Fl.W (f i).b))
 clear hc
 go_enter Tryz.func56, Tryz.ntmps56
 go_wp2_with (go_at_call 86; refine HR.out.mono ?_; rintro e w1 ⟨v1, S, rfl, hs, hmem, hlen, hp, hu1⟩; obtain ⟨hm1, a1, c1, rfl, hc1⟩ := hs)
 have HC := hid hc1
 have HP := hid hp
 have HM := hid hmem
 have HU1 := hid hu1
 have HRV := hid (fun r hr => HW.out r ((hmem r).1 hr))
 clear hc1 hp hmem hu1 HR
 go_loopw [3, 10] (fun o i wr => ∃ k : Nat, k ≤ S.length ∧ i = .int .i64 (k : Nat) ∧ OwnS w1.heap.size wr o ((Fl.nfold (S.take k)).map Fl.spo) ∧ Old w1 wr) (fun _ i _ => S.length - (intOf i).toNat)
 case atStart => exact ⟨0, Nat.zero_le _, rfl, OwnS.nil _ _, Old.refl _⟩
 case round =>
  obtain ⟨k, hk, rfl, ho, hu⟩ := hrel
  have HU := hid hu
  clear hu
  by_cases hlt : k < S.length
  ·have hrv := HRV.out S[k] (List.getElem_mem hlt)
   have hNF := Fl.nfold_ok _ (S.take k) rfl (fun r hr => HRV.out r (List.mem_of_mem_take hr)) (HP.out.sublist (List.take_sublist _ _))
   have hST : Fl.nfold (S.take (k + 1)) = Fl.nstep (Fl.nfold (S.take k)) S[k] := by rw [List.take_succ_eq_append_getElem hlt, Fl.nfold_snoc]
   have HST := hid hST
   have hNl : (Fl.nfold (S.take k)).length ≤ k := by have := hNF.2.2.2.1; simp at this; omega
   obtain ⟨b, off, ha, hW1, hW2, c0⟩ := HC.out k hlt
   subst ha
   have hk2 : k < (List.map Fl.spo S).length := by rw [List.length_map]; exact hlt
   rw [atS_get _ k hk2, List.getElem_map] at c0
   obtain ⟨x0, x1, x2, x3⟩ := c0.old HU.out
   have hgx : ∀ l : Nat × Nat, Fl.RV l → decide (Fl.code (Fl.nextB (Fl.of l.2)) < Fl.code (Fl.of S[k].1)) = decide (Fl.nx l.2 < S[k].1) := fun l hl => Fl.gap_nx hl hrv
   have HGX := hid hgx
   have hmx : ∀ l : Nat × Nat, Fl.RV l → Fl.mx (Fl.of l.2) (Fl.of S[k].2) = Fl.of (max l.2 S[k].2) := fun l hl => Fl.mx_of hl.2.1 hrv.2.1
   have HMX := hid hmx
   have hof := Fl.of_V hrv.1
   have hof2 := Fl.of_V hrv.2.1
   have HF : Hid (Fl.spo S[k] = ⟨Fl.of S[k].1, Fl.of S[k].2, false, false⟩) := rfl
   have hl1 : (0 : Int) ≤ (k : Int) := by omega
   have hl2 : (k : Int) < (S.length : Int) := by omega
   have HNL := hid hNF.1
   clear c0 hgx hmx hST hW1 hW2 hNF
   simp only [Fl.spo] at x0 x1 x2 x3
   generalize hN : Fl.nfold (S.take k) = N at *
   have HN := hid hN
   clear hN
   generalize hfk : S[k] = fk at *
   have HFK := hid hfk
   clear hfk
   obtain ⟨f1, f2⟩ := fk
   dsimp only at *
   generalize Fl.of f1 = u at *
   generalize Fl.of f2 = v at *
   rcases Fl.list_ends N with hN | ⟨I, l, hN⟩
   ·subst hN
    have HO := hid ho
    obtain ⟨a', c', hv'⟩ := ho.len
    rw [show (List.map Fl.spo ([] : List (Nat × Nat))).length = 0 from rfl] at hv'
    subst hv'
    clear ho
    go_wp2_with fail
    go_quiet (fail)
    have zr := HU.out.size
    go_wp2_with (first | (at_builtin; refine wp_appS rfl (.tmp 43) (.tmp 45) rfl w1.heap.size _ [] [⟨u, v, false, false⟩] _ 0 1 rfl rfl (OwnS.old HO.out (by repeat (first | exact Old.refl _ | assumption | refine Old.drew ?_ | refine Old.drewN ?_ _ | refine Old.alloc ?_ _ | refine Old.setCell ?_ ?_ _ | exact Nat.le_refl _ | exact Nat.le_add_right _ _ | (dsimp only; omega) | refine Old.trans ?_ (Up.old ‹Up _ _›)))) (spIn_new _ ⟨u, v, false, false⟩ _ (by simp)) (by simp) (by simp; omega) ?_; intro v8 w8 o8 u8; have O8 := hid o8; have V8 := hid (Old.below (HU.out.trans (show Old wr _ from (by repeat (first | exact Old.refl _ | assumption | refine Old.drew ?_ | refine Old.drewN ?_ _ | refine Old.alloc ?_ _ | refine Old.setCell ?_ ?_ _ | exact Nat.le_refl _ | exact Nat.le_add_right _ _ | (dsimp only; omega) | refine Old.trans ?_ (Up.old ‹Up _ _›))))) u8); clear o8 u8))
    go_roundw
    case rel => exact ⟨k + 1, hlt, by go_num, by rw [HST.out, Fl.nstep_nil]; simp only [List.map_singleton]; rw [HF.out]; exact O8.out, V8.out⟩
    case measure => simp [intOf]; omega
   ·subst hN
    have hil := Fl.nl_init HNL.out
    have HL := hid hil.2.1
    have hlv := Fl.of_V hil.2.1.2.1
    have hg1 := HGX.out l hil.2.1
    have HMx := hid (HMX.out l hil.2.1)
    have hmap : List.map Fl.spo (I ++ [l]) = List.map Fl.spo I ++ [Fl.spo l] := by simp
    rw [hmap] at ho
    have HO := hid ho
    obtain ⟨g, cap, hv', hgb, hgl, hnc, hcm, hcell, hfz⟩ := ho.shape (by simp)
    have hJ0 : (List.map Fl.spo I ++ [Fl.spo l]).length = I.length + 1 := by simp
    have hJl : I.length + 1 ≤ k := by simpa using hNl
    have hla := hcell I.length (by simp)
    rw [hJ0] at hv'
    subst hv'
    have hle : (List.map Fl.spo I ++ [Fl.spo l])[I.length]'(by simp) = Fl.spo l := by rw [List.getElem_append_right (by simp)]; simp
    rw [hle] at hla
    obtain ⟨y0, y1, y2, y3⟩ := hla
    simp only [Fl.spo] at y0 y1 y2 y3
    have HFz := hid (hfz (I.length * 4 + 1))
    have HJ : Hid (I.length = (List.map Fl.spo I).length) := by show _ = _; simp
    have HSl : Hid (Fl.spo l = ⟨Fl.of l.1, Fl.of l.2, false, false⟩) := rfl
    clear hcell hfz hle hmap ho hil
    have HGap := fun W => gap_any (Fl.of l.1) (Fl.of l.2) u v hlv.1 hof.1 false false false false W
    rw [hg1] at HGap
    have HMo := hid (fun m c W => most2 (Fl.of l.2) v m c hlv.1 hof2.1 hlv.2.2.1 hof2.2.2.1 W)
    generalize Fl.of l.1 = lu at *
    generalize hlv' : Fl.of l.2 = lv at *
    have HLV := hid hlv'
    clear hlv'
    have l3 : ((I.length + 1 : Nat) : Int) - 1 = (I.length : Int) := by omega
    have l4 : (0 : Int) ≤ (I.length : Int) := by omega
    have l5 : (I.length : Int) < ((I.length + 1 : Nat) : Int) := by omega
    have l6 : (0 : Int) < ((I.length + 1 : Nat) : Int) := by omega
    have l7 : I.length ≤ 5864062014805 := by omega
    have l8 : IntKind.i64.wrap (I.length : Int) = (I.length : Int) := IntWalk.i64_in _ (by omega)
    have l9 : IntKind.i64.wrap (((I.length + 1 : Nat) : Int) - 1) = (I.length : Int) := by rw [l3]; exact l8
    have l10 : (I.length : Int) < (I.length : Int) + 1 := by omega
    generalize hJ : I.length = J at *
    have HJJ := hid hJ
    clear hJ
    have zr := HU.out.size
    by_cases hgap : Fl.nx l.2 < f1
    ·rw [decide_eq_true hgap] at HGap
     have HG := hid HGap
     have HST2 := hid (Fl.nstep_gap I l (f1, f2) hgap)
     clear HGap hg1
     go_wp2_with fail
     have hE : E5 g J lu lv wr.heap.size u v (wr.alloc (.cells #[.float .f64 u, .float .f64 v, .bool false, .bool false] 93)) := ⟨⟨((Old.refl wr).alloc _).keep y0, ((Old.refl wr).alloc _).keep y1, ((Old.refl wr).alloc _).keep y2, ((Old.refl wr).alloc _).keep y3⟩, by simp [SpAt]⟩
     go_region_held3 (E5 g J lu lv wr.heap.size u v) (first | assumption | exact hE | (refine E5.old ?_ hE; assumption)) (first | (go_at_call 87; refine (HG.out _).mono ?_; rintro e w2 ⟨rfl, hb2⟩; have UX : Old (wr.alloc (.cells #[.float .f64 u, .float .f64 v, .bool false, .bool false] 93)) w2 := ((Old.refl _).drew).trans hb2.old))
     have hE2 : E5 g J lu lv wr.heap.size u v w2 := by assumption
     have UH := hid (((Old.refl wr).alloc _).trans UX)
     have zw := UH.out.size
     go_wp2_with (first | (at_builtin; refine wp_appS rfl (.tmp 43) (.tmp 45) rfl w1.heap.size _ (List.map Fl.spo I ++ [Fl.spo l]) [⟨u, v, false, false⟩] _ 0 1 rfl rfl (OwnS.old HO.out (UH.out.alloc _)) (spIn_new _ ⟨u, v, false, false⟩ _ (by simp)) (by rw [hJ0]; simp; omega) (by simp; omega) ?_; intro v8 w8 o8 u8; have O8 := hid o8; have V8 := hid (Old.below ((HU.out.trans UH.out).alloc _) u8); clear o8 u8))
     go_roundw
     case rel => exact ⟨k + 1, hlt, by go_num, by rw [HST.out, HST2.out, List.map_append, List.map_append, List.map_singleton, List.map_singleton, HF.out]; exact O8.out, V8.out⟩
     case measure => simp [intOf]; omega
    ·rw [decide_eq_false hgap] at HGap
     have HG := hid HGap
     have HST2 := hid (Fl.nstep_in I l (f1, f2) hgap)
     clear HGap hg1
     go_wp2_with fail
     have hE : E5 g J lu lv wr.heap.size u v (wr.alloc (.cells #[.float .f64 u, .float .f64 v, .bool false, .bool false] 93)) := ⟨⟨((Old.refl wr).alloc _).keep y0, ((Old.refl wr).alloc _).keep y1, ((Old.refl wr).alloc _).keep y2, ((Old.refl wr).alloc _).keep y3⟩, by simp [SpAt]⟩
     go_region_held3 (E5 g J lu lv wr.heap.size u v) (first | assumption | exact hE | (refine E5.old ?_ hE; assumption)) (first | (go_at_call 87; refine (HG.out _).mono ?_; rintro e w2 ⟨rfl, hb2⟩; have UX : Old (wr.alloc (.cells #[.float .f64 u, .float .f64 v, .bool false, .bool false] 93)) w2 := ((Old.refl _).drew).trans hb2.old))
     have hE2 : E5 g J lu lv wr.heap.size u v w2 := by assumption
     have UH := hid (((Old.refl wr).alloc _).trans UX)
     have zw := UH.out.size
     have HFin : Hid (∀ W, Old w2 W → OwnS w1.heap.size (W.setCell ⟨g, J * 4 + 1, none⟩ (.float .f64 (Fl.mx lv v))) (.slice (some ⟨g, 0, none⟩) (J + 1) cap) ((Fl.nfold (S.take (k + 1))).map Fl.spo)) := fun W hW => by
      have h1 := OwnS.setHi (n := J + 1) (by rw [hJ0]) (OwnS.old HO.out (UH.out.trans hW)) (Fl.mx lv v)
      rw [← HJ.out] at h1
      rw [HST.out, HST2.out, List.map_append, List.map_singleton]
      have e : Fl.spo (l.1, max l.2 f2) = ⟨(Fl.spo l).a, Fl.mx lv v, (Fl.spo l).p, (Fl.spo l).q⟩ := by rw [HMx.out]; rfl
      rw [e]; exact h1
     have HTh : Hid (∀ W, Old w2 W → W.there g (J * 4 + 1) 1) := fun W hW j hj => by
      obtain rfl : j = 0 := by omega
      rw [Nat.add_zero]
      refine ⟨by rw [hW.keep hE2.1.2.1]; rfl, hW.keepF hE2.1.2.1 (UH.out.keepF y1 HFz.out)⟩
     have HFo : Hid (∀ W, Old w2 W → Old w1 (W.setCell ⟨g, J * 4 + 1, none⟩ (.float .f64 (Fl.mx lv v)))) := fun W hW => ((HU.out.trans UH.out).trans hW).setCell hgb _
     go_wp2_with fail
     focus
      refine wp_region_noPanic ?_
      refine wp_region_held_drew (S := fun _ => True) (by kernel_rfl) ?_ (fun hHeld => ?_)
      ·exact trivial
      try simp only [Act.put, puA, puB, puC]
      clear hHeld
      all_goals
       refine atA [false, false, false, false, false, false, false, false, false, false, false, false, false, false, false, false] ?_
       refine tkA (i := 0) (oi := oNm0) trivial ?_
       try simp only [Act.put, puA, puB, puC]
       refine tkA (i := 1) (oi := oNm1) trivial ?_
       try simp only [Act.put, puA, puB, puC]
       refine tkA (i := 2) (oi := oNm2) trivial ?_
       try simp only [Act.put, puA, puB, puC]
       refine tkA (i := 3) (oi := oNm3) trivial ?_
       try simp only [Act.put, puA, puB, puC]
       refine tkA (i := 4) (oi := oNm4) trivial ?_
       try simp only [Act.put, puA, puB, puC]
       refine tkA (i := 5) (oi := oNm5) trivial ?_
       try simp only [Act.put, puA, puB, puC]
       refine tkA (i := 6) (oi := oNm6) trivial ?_
       try simp only [Act.put, puA, puB, puC]
       refine tkA (i := 7) (oi := oNm7) trivial ?_
       try simp only [Act.put, puA, puB, puC]
       refine tkA (i := 9) (oi := oNm8) trivial ?_
       try simp only [Act.put, puA, puB, puC]
       refine rdA [8, 10] ?_
       refine AllReadyH.cons (o := oNm9) rfl (fun K hK => ?_) (AllReadyH.cons (o := oNm10) rfl (fun K hK => ?_) AllReadyH.nil)
       refine stepLoadF ?_ (.tmp 35) ?_ g (J * 4 + 1) lv ?_ hE2.1.2.1 ?_
       iterate 3 rfl
       refine hK.out _ _ trivial (fun _ => ?_)
       clear hK K
       try simp only [Act.put, puA, puB, puC]
       rotate_left
       refine stepLoadF ?_ (.tmp 37) ?_ wr.heap.size 1 v ?_ hE2.2.2.1 ?_
       iterate 3 rfl
       refine hK.out _ _ trivial (fun _ => ?_)
       clear hK K
       try simp only [Act.put, puA, puB, puC]
       rotate_left
      all_goals first
       |refine atA [true, true, true, true, true, true, true, true, true, true, false, false, false, false, false, false] ?_
        refine rdA [10] ?_
        refine AllReadyH.cons (o := oNm10) rfl (fun K hK => ?_) AllReadyH.nil
        refine stepLoadF ?_ (.tmp 37) ?_ wr.heap.size 1 v ?_ hE2.2.2.1 ?_
        iterate 3 rfl
        refine hK.out _ _ trivial (fun _ => ?_)
        clear hK K
        try simp only [Act.put, puA, puB, puC]
       |refine atA [true, true, true, true, true, true, true, true, false, true, true, false, false, false, false, false] ?_
        refine rdA [8] ?_
        refine AllReadyH.cons (o := oNm9) rfl (fun K hK => ?_) AllReadyH.nil
        refine stepLoadF ?_ (.tmp 35) ?_ g (J * 4 + 1) lv ?_ hE2.1.2.1 ?_
        iterate 3 rfl
        refine hK.out _ _ trivial (fun _ => ?_)
        clear hK K
        try simp only [Act.put, puA, puB, puC]
      all_goals
       refine atA [true, true, true, true, true, true, true, true, true, true, true, false, false, false, false, false] ?_
       refine rdA [11] ?_
       refine AllReadyH.cons (o := oNm11) rfl (fun K hK => ?_) AllReadyH.nil
       refine stepBuild2 ?_ (.tmp 36) (.tmp 38) ?_ lv v ?_ ?_ ?_
       iterate 4 rfl
       intro m100n x100n hm100n hx100n
       obtain ⟨r2, b100n⟩ := R2.new (u := lv) (v := v) hm100n hx100n
       clear hm100n hx100n
       have U100n : Old w2 x100n := ((Old.refl w2).drew).trans b100n.old
       refine hK.out _ _ trivial (fun _ => ?_)
       clear hK K
       try simp only [Act.put, puA, puB, puC]
       have UU_100 := U100n
       obtain ⟨mm_100, rfl⟩ : ∃ z, z = m100n := ⟨_, rfl⟩
       obtain ⟨xw_100, rfl⟩ : ∃ z, z = x100n := ⟨_, rfl⟩
      all_goals
       refine atA [true, true, true, true, true, true, true, true, true, true, true, true, false, false, false, false] ?_
       refine rdA [12] ?_
       refine AllReadyH.cons (o := oNm12) rfl (fun K hK => ?_) AllReadyH.nil
       refine stepCall1 ?_ 88 (.tmp 39) #[30] ?_ (.slice (some ⟨mm_100, 0, none⟩) 2 2) ?_ ?_ (enter_most _ _) ?_
       iterate 4 rfl
       refine (HMo.out _ _ _ r2.1 r2.2).mono ?_
       rintro o y100n ⟨rfl, rfl⟩
       refine ⟨_, rfl, ?_⟩
       refine hK.out _ _ trivial (fun _ => ?_)
       clear hK K
       try simp only [Act.put, puA, puB, puC]
      all_goals
       refine atA [true, true, true, true, true, true, true, true, true, true, true, true, true, false, false, false] ?_
       refine tkA (i := 13) (oi := oNm13) trivial ?_
       try simp only [Act.put, puA, puB, puC]
       refine tkA (i := 14) (oi := oNm14) trivial ?_
       try simp only [Act.put, puA, puB, puC]
       refine rdA [15] ?_
       refine AllReadyH.cons (o := oNm15) rfl (fun K hK => ?_) AllReadyH.nil
       refine stepStoreF ?_ (.tmp 42) (.tmp 40) ?_ g (J * 4 + 1) (Fl.mx lv v) ?_ ?_ (HTh.out _ UU_100) ?_
       iterate 4 rfl
       refine hK.out _ _ trivial (fun _ => ?_)
       clear hK K
       try simp only [Act.put, puA, puB, puC]
      all_goals
       refine atA [true, true, true, true, true, true, true, true, true, true, true, true, true, true, true, true] ?_
       refine wpAnyH_done (by kernel_rfl) ?_ _
       refine NoPanic.normal ?_
       go_wp2
       go_roundw
       case rel => exact ⟨k + 1, hlt, by go_num, HFin.out _ UU_100, HFo.out _ UU_100⟩
       case measure => simp [intOf]; omega
  ·obtain rfl : k = S.length := by omega
   have h2 := ho
   rw [List.take_length] at h2
   rw [Fl.nfold_dfold S (Fl.cdl f n) HRV.out HP.out fun r => (HM.out r).symm] at h2
   obtain ⟨a', c', hv'⟩ := h2.len
   subst hv'
   have H2 := hid h2
   clear h2 ho
   go_wp2
   go_ret
   exact ⟨_, rfl, H2.out.mono HU1.out.size, HU1.out.trans HU.out⟩
end Go.Proofs.YthjfkmjeppdcnaaGreat
