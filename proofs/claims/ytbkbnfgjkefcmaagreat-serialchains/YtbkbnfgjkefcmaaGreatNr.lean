/- span.rising: the forms of the spans that have keys, in order; conditions: the lengths fit. -/
import Derived.Test.YtbkbnfgjkefcmaaGreatSt
namespace Go.Proofs.YtbkbnfgjkefcmaaGreat
open Go.Shelf Go.RowKit Go.Lib Go.Sort
set_option linter.unusedVariables false
attribute [local go_sem] run_bits run_frombits run_store_float eqF
theorem holdsK_cells {w : World} {g : Nat} {d : Array RF} (h : HoldsK encR 4 w g 0 d) (i : Nat) (hi : i < d.size) : SpIn w g (i * 4) (Fl.spo (d[i]!).1) := by
  have H : ∀ r, r < 4 → w.cell? ⟨g, i * 4 + r, none⟩ = some ((encR d[i]!)[r]!) := fun r hr => by
    have k := (h (i * 4 + r) (by rw [size_flatK]; omega)).1
    rw [Nat.zero_add, get_flatK _ _ _ _ (by omega)] at k
    rw [k, show (i * 4 + r) / 4 = i by omega, show (i * 4 + r) % 4 = r by omega]
    rfl
  exact ⟨H 0 (by omega), H 1 (by omega), H 2 (by omega), H 3 (by omega)⟩
theorem cells_holdsK {w : World} {g : Nat} {d : Array RF} (h : ∀ i, i < d.size → SpIn w g (i * 4) (Fl.spo (d[i]!).1)) (hf : ∀ o, w.frozen? ⟨g, o, none⟩ = false) : HoldsK encR 4 w g 0 d := by
  intro j hj
  rw [size_flatK] at hj
  rw [Nat.zero_add, get_flatK _ _ _ _ hj]
  refine ⟨?_, hf j⟩
  have hi : j / 4 < d.size := by omega
  have k := h (j / 4) hi
  have e : j = j / 4 * 4 + j % 4 := by omega
  generalize j / 4 = q at *
  have hr : j % 4 < 4 := Nat.mod_lt _ (by decide)
  generalize j % 4 = r at *
  subst e
  match r, hr with
  | 0, _ => exact k.1
  | 1, _ => exact k.2.1
  | 2, _ => exact k.2.2.1
  | 3, _ => exact k.2.2.2
theorem arr_get (L : List RF) (i : Nat) (h : i < L.length) : (L.toArray[i]!) = L[i] := by
  rw [getElem!_pos L.toArray i (by simpa using h)]; simp
theorem rfs_get (L : List (Nat × Nat)) (h : ∀ r ∈ L, Fl.RV r) (i : Nat) (hi : i < L.length) : ((rfs L h)[i]'(by rw [rfs_len]; exact hi)).1 = L[i] := by
  have e : ((rfs L h).map (·.1))[i]'(by rw [rfs_val]; exact hi) = L[i] := by simp only [rfs_val]
  rw [List.getElem_map] at e; exact e
set_option maxHeartbeats 2000000 in
set_option maxRecDepth 20000 in
theorem rising_any (v : Value) (n : Nat) (f : Nat → Sp) (hn : n ≤ 5864062014805) (w : World) (hv : SRow w v n f) :
    Calls Tryz.prog 107 #[v] w fun e w' => ∃ (v' : Value) (S : List (Nat × Nat)), e = .returned v' ∧ SRow w' v' S.length (atS (S.map Fl.spo)) ∧ (∀ r, r ∈ S ↔ r ∈ Fl.cdl f n) ∧ S.length ≤ n ∧ S.Pairwise (fun a b => a.1 ≤ b.1) ∧ Old w w' := by
  have o0 : FloatKind.f64.format.order 0 0 = some .eq := by decide +kernel
  obtain ⟨hm, a, c, rfl, hc⟩ := hv
  have HC := hid hc
  have HW := hid (fun i (hi : i < n) => by obtain ⟨_, _, _, h1, h2, _⟩ := hc i hi; exact (⟨h1, h2⟩ : Fl.W (f i).a ∧ Fl.W (f i).b))
  clear hc
  go_enter Tryz.func107, Tryz.ntmps107
  go_wp2
  go_loopw [3, 9] (fun o i wr => ∃ k : Nat, k ≤ n ∧ i = .int .i64 (k : Nat) ∧ OwnS w.heap.size wr o ((Fl.cdl f k).map Fl.spo) ∧ Old w wr) (fun _ i _ => n - (intOf i).toNat)
  case atStart => exact ⟨0, Nat.zero_le _, rfl, OwnS.nil _ _, Old.refl _⟩
  case round =>
    obtain ⟨k, hk, rfl, ho, hu⟩ := hrel
    have HO := hid ho
    have HU := hid hu
    clear ho hu
    by_cases hlt : k < n
    · obtain ⟨b, off, ha, hW1, hW2, c0, c1, c2, c3⟩ := HC.out k hlt
      subst ha
      have x0 := HU.out.keep c0
      have x1 := HU.out.keep c1
      have x2 := HU.out.keep c2
      have x3 := HU.out.keep c3
      have HK := fun W => canonS_any (f k).a (f k).b hW1 hW2 (f k).p (f k).q W
      have l1 : (0 : Int) ≤ (k : Int) := by omega
      have l2 : (k : Int) < (n : Int) := by omega
      have HL := hid (Fl.cdl_len f k)
      have hce := Fl.csE_true (f k).a (f k).b (f k).p (f k).q
      have HSP := hid (Fl.spo_cs (f k) hW1 hW2)
      cases hE : Fl.csE (f k).a (f k).b (f k).p (f k).q
      · have HD : Hid (Fl.cdl f (k + 1) = Fl.cdl f k ++ [(Fl.code (Fl.csU (f k).a (f k).b (f k).p (f k).q), Fl.code (Fl.csV (f k).a (f k).b (f k).p (f k).q))]) := by
          show Fl.cdl f k ++ Fl.cd (f k) = _; unfold Fl.cd; rw [hE]; rfl
        rw [hE] at HK
        have H := hid HK
        clear c0 c1 c2 c3 hce hE HK hW1 hW2
        generalize Fl.csU (f k).a (f k).b (f k).p (f k).q = u at *
        generalize Fl.csV (f k).a (f k).b (f k).p (f k).q = v at *
        generalize (f k).a = a1 at *
        generalize (f k).b = b1 at *
        generalize (f k).p = p1 at *
        generalize (f k).q = q1 at *
        go_wp2_with (go_at_call 78; refine (H.out _).mono ?_; rintro e w1 ⟨rfl, hb1⟩; have UR := hid (((Old.refl wr).alloc _).trans hb1.old); have U1 := hid (HU.out.trans UR.out))
        go_region_held3 (SpAt w1.heap.size u v false false) (first | (apply SpAt.up; (first | assumption | exact Up.drew (Up.refl _)); assumption) | (simp [SpAt, *])) (first | (go_at_call 79; refine (none_any _).mono ?_; rintro e w2 ⟨rfl, hb2⟩))
        all_goals have zs := U1.out.size
        all_goals have zr := UR.out.size
        all_goals have UH := hid (show Old wr w2 from (by repeat (first | exact Old.refl _ | assumption | exact UR.out | refine Old.drew ?_ | refine Old.drewN ?_ _ | refine Old.alloc ?_ _ | refine Old.setCell ?_ ?_ _ | exact Nat.le_refl _ | exact Nat.le_add_right _ _ | (dsimp only; omega) | refine Old.trans ?_ (Up.old ‹Up _ _›))))
        all_goals have zw := UH.out.size
        all_goals have zv := HU.out.size
        all_goals go_wp2_with (first | (at_builtin; refine wp_appS rfl (.tmp 18) (.tmp 20) rfl w.heap.size _ (List.map Fl.spo (Fl.cdl f k)) [⟨u, v, false, false⟩] _ 0 1 rfl rfl (OwnS.old HO.out (UH.out.alloc _)) (spIn_new _ ⟨u, v, false, false⟩ _ rfl) (by have := HL.out; simp; omega) (by simp; omega) ?_; intro v8 w8 o8 u8; have O8 := hid o8; have V8 := hid (Old.below ((HU.out.trans UH.out).alloc _) u8); clear o8 u8))
        all_goals go_roundw
        case rel => exact ⟨k + 1, hlt, by go_num, by rw [HD.out, List.map_append, List.map_singleton, HSP.out]; exact O8.out, V8.out⟩
        case measure => simp [intOf]; omega
      · obtain ⟨hu0, hv0⟩ := hce hE
        have HD : Hid (Fl.cdl f (k + 1) = Fl.cdl f k) := by
          show Fl.cdl f k ++ Fl.cd (f k) = _; unfold Fl.cd; rw [hE]; simp
        rw [hE, hu0, hv0] at HK
        have H := hid HK
        clear c0 c1 c2 c3 hce hE HK hW1 hW2 HSP hu0 hv0
        generalize (f k).a = a1 at *
        generalize (f k).b = b1 at *
        generalize (f k).p = p1 at *
        generalize (f k).q = q1 at *
        go_wp2_with (go_at_call 78; refine (H.out _).mono ?_; rintro e w1 ⟨rfl, hb1⟩; have UR := hid (((Old.refl wr).alloc _).trans hb1.old); have U1 := hid (HU.out.trans UR.out))
        go_region_held3 (SpAt w1.heap.size 0 0 true true) (first | (apply SpAt.up; (first | assumption | exact Up.drew (Up.refl _)); assumption) | (simp [SpAt, *])) (first | (go_at_call 79; refine (none_any _).mono ?_; rintro e w2 ⟨rfl, hb2⟩))
        all_goals have zs := U1.out.size
        all_goals have zr := UR.out.size
        all_goals have UH := hid (show Old wr w2 from (by repeat (first | exact Old.refl _ | assumption | exact UR.out | refine Old.drew ?_ | refine Old.drewN ?_ _ | refine Old.alloc ?_ _ | refine Old.setCell ?_ ?_ _ | exact Nat.le_refl _ | exact Nat.le_add_right _ _ | (dsimp only; omega) | refine Old.trans ?_ (Up.old ‹Up _ _›))))
        all_goals go_wp2
        all_goals go_roundw
        case rel => exact ⟨k + 1, hlt, by go_num, by rw [HD.out]; exact OwnS.old HO.out UH.out, HU.out.trans UH.out⟩
        case measure => simp [intOf]; omega
    · obtain rfl : k = n := by omega
      have hR := Fl.cdl_RV f k HW.out
      have HR := hid hR
      have HL := hid (Fl.cdl_len f k)
      by_cases h0 : (Fl.cdl f k).length = 0
      · have hnil := List.eq_nil_of_length_eq_zero h0
        obtain ⟨a', c', hv'⟩ := HO.out.len
        rw [List.length_map, h0] at hv'
        subst hv'
        have HN := hid (fun W => sort_none a' c' (.func (.func 117) #[] #[]) W)
        go_wp2_with (go_at_call 116; refine (HN.out _).mono ?_; rintro o w5 ⟨rfl, rfl⟩)
        go_ret
        exact ⟨_, [], rfl, ⟨Nat.zero_le _, _, _, rfl, fun i hi => absurd hi (by simp)⟩, fun r => by rw [hnil], Nat.zero_le _, List.Pairwise.nil, HU.out⟩
      · obtain ⟨g, cap, hv', hg1, hg2, hnc, hcm, hcell, hfz⟩ := HO.out.shape (by rw [List.length_map]; omega)
        rw [List.length_map] at hv' hnc
        subst hv'
        have hsz : (rfs (Fl.cdl f k) hR).toArray.size = (Fl.cdl f k).length := by rw [List.size_toArray, rfs_len]
        have hH : HoldsK encR 4 wr g 0 (rfs (Fl.cdl f k) hR).toArray := by
          refine cells_holdsK (fun i hi => ?_) hfz
          rw [hsz] at hi
          have hi2 : i < (List.map Fl.spo (Fl.cdl f k)).length := by rw [List.length_map]; exact hi
          have q := hcell i hi2
          rw [List.getElem_map] at q
          rw [arr_get _ i (by rw [rfs_len]; exact hi), rfs_get _ _ i hi]; exact q
        have HS := sort_spans g 0 cap (rfs (Fl.cdl f k) hR).toArray wr hH hg2 (by rw [hsz]; have := HL.out; omega)
        rw [hsz] at HS
        have HSS := hid HS
        have HH := hid hH
        have HZ := hid hsz
        have HG := hid (And.intro hg1 hg2)
        clear HS hcell hfz hH hsz hg1 hg2 HC
        go_wp2_with (go_at_call 116; refine HSS.out.mono ?_; rintro o w5 ⟨rfl, m5, os5, hw5⟩; have H5 := hid hw5; clear hw5)
        go_ret
        have hlen : (srt (Fl.cdl f k) hR).length = (Fl.cdl f k).length := srt_len _ _
        have hM : ((rfs (Fl.cdl f k) hR).mergeSort fun x y => !(ltOf cfR) y x).length = (Fl.cdl f k).length := by rw [List.length_mergeSort, rfs_len]
        have hK := holdsK_sortWorldK encR 4 wr g 0 m5 (rfs (Fl.cdl f k) hR).toArray ((rfs (Fl.cdl f k) hR).mergeSort fun x y => !(ltOf cfR) y x).toArray os5 HG.out.2 HH.out (by rw [List.size_toArray, List.size_toArray, hM, rfs_len])
        have e5 : w5 = sortWorldK encR 4 wr g 0 m5 ((rfs (Fl.cdl f k) hR).mergeSort fun x y => !(ltOf cfR) y x).toArray os5 := H5.out
        rw [← e5] at hK
        refine ⟨_, srt (Fl.cdl f k) hR, rfl, ?_, srt_mem _ _, by rw [hlen]; exact HL.out, srt_sorted _ _, ?_⟩
        · refine ⟨by rw [hlen]; have := HL.out; omega, some ⟨g, 0, none⟩, cap, by rw [hlen]; rfl, fun i hi => ⟨g, 0, rfl, ?_⟩⟩
          have hi2 : i < (List.map Fl.spo (srt (Fl.cdl f k) hR)).length := by rw [List.length_map]; exact hi
          rw [atS_get _ i hi2, List.getElem_map]
          have rv := hR _ ((srt_mem _ hR _).1 (List.getElem_mem hi))
          refine ⟨(Fl.spo_W rv).1, (Fl.spo_W rv).2, ?_⟩
          have q := holdsK_cells hK i (by rw [List.size_toArray, hM, ← hlen]; exact hi)
          rw [arr_get _ i (by rw [hM, ← hlen]; exact hi)] at q
          rw [Nat.zero_add]
          have e : (srt (Fl.cdl f k) hR)[i] = (((rfs (Fl.cdl f k) hR).mergeSort fun x y => !(ltOf cfR) y x)[i]'(by rw [hM, ← hlen]; exact hi)).1 := by unfold srt; exact List.getElem_map ..
          rw [e]; exact q
        · have so := sortWorldK_old (w := wr) (g := g) (m := m5) (d := ((rfs (Fl.cdl f k) hR).mergeSort fun x y => !(ltOf cfR) y x).toArray) (os := os5)
          rw [← e5] at so
          exact HU.out.below ⟨so.1, so.2.1, so.2.2.1, so.2.2.2.1, fun q hq => so.2.2.2.2 q (by have := HU.out.size; omega) (by have := HG.out.1; omega)⟩
end Go.Proofs.YtbkbnfgjkefcmaaGreat
