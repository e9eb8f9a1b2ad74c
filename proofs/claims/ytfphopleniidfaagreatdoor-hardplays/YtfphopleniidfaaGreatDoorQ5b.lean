/- The document's part, over, SameBytes, name, Step and Find of layer 5; conditions: the rows lie in memory. -/
import Derived.Test.YtfphopleniidfaaGreatDoorQ5a
namespace Go.Proofs.YtfphopleniidfaaGreatDoor
open Go.RowKit Go.Lib
set_option linter.unusedVariables false
set_option linter.unusedSimpArgs false
set_option maxRecDepth 20000
theorem Rw.cellAt {w : World} {a : Option Addr} {n c : Nat} {L : List Nat} (h : Rw w (.slice a n c) L) (hn : n = L.length) : ∀ i, i < n → ∃ b off, a = some ⟨b, off, none⟩ ∧ n ≤ c ∧ c ≤ 9223372036854775807 ∧ w.cell? ⟨b, off + i, none⟩ = some (.int .u8 ((L.getD i 0 : Nat) : Int)) := fun i hi => by
  subst hn
  obtain ⟨b, off, cap, e, hc, h1, h2⟩ := h.cells (by omega)
  obtain ⟨e1, -, e3⟩ := Value.slice.inj e
  subst e1 e3
  unfold maxLen at h2
  exact ⟨b, off, rfl, h1, by omega, hc i _ (by simp [bv, hi, List.getD_eq_getElem?_getD])⟩
def prt (L : List Nat) (f t : Nat) : List Nat := (L.take t).drop f
theorem prt_len (L : List Nat) (f t : Nat) : (prt L f t).length = min t L.length - f := by unfold prt; simp
theorem prt_take (L : List Nat) (f t k : Nat) (h : k < min t L.length - f) : (prt L f t).take (k + 1) = (prt L f t).take k ++ [L.getD (f + k) 0] := by
  rw [List.take_add_one]
  congr 1
  unfold prt
  rw [List.getElem?_drop, List.getElem?_take, if_pos (by omega), List.getD_eq_getElem?_getD, List.getElem?_eq_getElem (by omega)]
  rfl
def NewRow (w : World) (M : List Nat) (e : Ending) (w' : World) : Prop := ∃ a c, e = .returned (.slice a (List.length M) c) ∧ Own w' (.slice a M.length c) M ∧ Old w w' ∧ ∀ g, (Value.slice a M.length c).ownBlock = some g → w.heap.size ≤ g
theorem Own.emptyB (w : World) (g : Nat) (hg : w.heap.size = g) : Own (w.alloc (.cells #[] 5)) (.slice (some ⟨g, 0, none⟩) 0 0) [] := by
  subst hg
  exact own_of (L := []) (cap := 0) (alloc_at w (.cells #[] 5)) (by simp) (by unfold maxLen; omega) rfl rfl (fun x h => by cases h)
set_option maxHeartbeats 2000000 in
set_option maxRecDepth 20000 in
theorem part_any (pa : Option Addr) (pc : Nat) (L : List Nat) (f t : Nat) (w : World) (h : Rw w (.slice pa L.length pc) L) (hl : L.length ≤ 65536) (hf : f ≤ 1000000) (ht : t ≤ 1000000) : Calls Tryz.prog 34 #[.slice pa L.length pc, .int .i64 (f : Nat), .int .i64 (t : Nat)] w (NewRow w (prt L f t)) := by
  have HC := hid (h.cellAt rfl)
  have HBy := hid h.byt
  have HPL := hid (prt_len L f t)
  have HPT := hid (prt_take L f t)
  obtain ⟨n, hn⟩ : ∃ n, n = L.length := ⟨_, rfl⟩
  have HN := hid hn
  rw [← hn] at HC HPL HPT hl ⊢
  obtain ⟨m, hm⟩ : ∃ m, m = min t n - f := ⟨_, rfl⟩
  have HM := hid hm
  rw [← hm] at HPL HPT
  have l7 : (f : Int) ≤ 1000000 := by omega
  have l8 : (t : Int) ≤ 1000000 := by omega
  have l9 : (n : Int) ≤ 65536 := by omega
  clear h hf ht hn hm
  have hE := Own.emptyB w w.heap.size rfl
  have HE := hid hE
  have HU := hid (show Old w (w.alloc (.cells #[] 5)) from (Old.refl w).alloc _)
  clear hE
  go_enter Tryz.func34, Tryz.ntmps34
  go_upto_region 2 with (fail)
  generalize w.alloc (.cells #[] 5) = wa at *
  obtain ⟨g0, hg0⟩ : ∃ g0, g0 = w.heap.size := ⟨_, rfl⟩
  have HG0 := hid (show w.heap.size ≤ g0 from by omega)
  rw [← hg0] at HE ⊢
  clear hg0
  go_wp2
  go_loopw [7, 8] (fun us c wr => ∃ (k : Nat) (a : Option Addr) (cp : Nat), k ≤ m ∧ c = .int .i64 ((f + k : Nat) : Int) ∧ us = .slice a k cp ∧ Own wr (.slice a k cp) ((prt L f t).take k) ∧ (∀ g, (Value.slice a k cp).ownBlock = some g → w.heap.size ≤ g) ∧ Old w wr) (fun _ c _ => f + m - (intOf c).toNat)
  case atStart => exact ⟨0, _, _, Nat.zero_le _, rfl, rfl, by simpa using HE.out, (fun g e => by cases e; exact HG0.out), HU.out⟩
  case round =>
    obtain ⟨k, a, cp, hk, rfl, rfl, hO, hg, hU⟩ := hrel
    have HO := hid hO
    have HG := hid hg
    have HU2 := hid hU
    clear hO hg hU HE HU
    obtain ⟨i, hi⟩ : ∃ i, i = f + k := ⟨_, rfl⟩
    have HI := hid hi
    rw [← hi]
    by_cases hlt : k < m
    · have hin : i < n := by have := HM.out; omega
      have hit : i < t := by have := HM.out; omega
      obtain ⟨b, off, e, hcap, hcm, hcell⟩ := HC.out i hin
      subst e
      have k0 := HU2.out.keep hcell
      have HT := hid (HPT.out k hlt)
      rw [← hi] at HT
      have HL := hid (show ((prt L f t).take k).length = k from by rw [List.length_take, HPL.out]; omega)
      have hil : i < L.length := by rw [← HN.out]; exact hin
      have hx : L.getD i 0 < 256 := by rw [List.getD_eq_getElem?_getD, List.getElem?_eq_getElem hil]; exact HBy.out _ (List.getElem_mem hil)
      have HX := hid hx
      have l2 : (0 : Int) ≤ (i : Int) := by omega
      have l3 : (i : Int) < (n : Int) := by omega
      have l4 : (i : Int) < (t : Int) := by omega
      have l6 : k ≤ 1000000 := by omega
      clear hx hcell hi hil
      generalize L.getD i 0 = y at *
      go_wp2_with (at_builtin; refine wp_appL rfl (.tmp 22) (.tmp 27) rfl _ _ ((prt L f t).take k) [y] rfl rfl (HO.out.old ((Old.refl wr).alloc _)) (Rw.one wr y _ HX.out rfl) (by rw [HL.out]; simp; omega) ?_; intro v5 w5 o5 g5; have O5 := hid o5; have G5 := hid g5; clear o5 g5)
      obtain ⟨a5, c5, e5⟩ := O5.out.len
      have hl5 : ((prt L f t).take k ++ [y]).length = k + 1 := by rw [List.length_append, HL.out]; rfl
      rw [hl5] at e5
      subst e5
      clear hl5
      go_roundw
      case rel =>
        refine ⟨k + 1, a5, c5, hlt, by rw [show f + (k + 1) = i + 1 from by have := HI.out; omega]; go_num, rfl, by rw [HT.out]; exact O5.out, fun g e => ?_, ?_⟩
        · rcases G5.out.2 g e with q | q
          · exact HG.out g q
          · have := HU2.out.size; simp at q; omega
        · exact (G5.out.1).oldOf (HU2.out.alloc _) (fun k hk => HG.out k (Option.mem_toList.1 hk))
      case measure => have := HI.out; simp [intOf]; omega
    · obtain rfl : k = m := by omega
      have HE := hid (show (prt L f t).take k = prt L f t from List.take_of_length_le (by rw [HPL.out]; exact Nat.le_refl _))
      have HF := hid (show NewRow w (prt L f t) (.returned (.slice a k cp)) wr from ⟨a, cp, by rw [HPL.out], by have := HO.out; rw [HE.out] at this; rw [HPL.out]; exact this, HU2.out, by rw [HPL.out]; exact HG.out⟩)
      clear hlt
      by_cases ct : i < t
      · have l4 : (i : Int) < (t : Int) := by omega
        have l3 : ¬ (i : Int) < (n : Int) := by have := HM.out; have := HI.out; omega
        clear hi
        go_wp2
        refine bodyPost_ret (v := .slice a k cp) (by simp [results, Tryz.results34, go_sem]) rfl HF.out
      · have l4 : ¬ (i : Int) < (t : Int) := by omega
        clear hi
        go_wp2
        refine bodyPost_ret (v := .slice a k cp) (by simp [results, Tryz.results34, go_sem]) rfl HF.out
theorem splice_at (L M : List Nat) (k i : Nat) (h : k + M.length ≤ L.length) : (splice L k M)[i]? = if k ≤ i ∧ i < k + M.length then M[i - k]? else L[i]? := by
  unfold splice
  by_cases c1 : i < k
  · rw [if_neg (by omega), List.getElem?_append_left (by rw [List.length_take]; omega), List.getElem?_take, if_pos c1]
  · rw [List.getElem?_append_right (by rw [List.length_take]; omega), List.length_take, Nat.min_eq_left (by omega)]
    by_cases c2 : i < k + M.length
    · rw [if_pos (by omega), List.getElem?_append_left (by omega)]
    · rw [if_neg (by omega), List.getElem?_append_right (by omega), List.getElem?_drop]
      congr 1
      omega
theorem overL_at (L : List Nat) (k : Nat) (M : List Nat) (i : Nat) (hi : i < max L.length (k + M.length)) : (overL L k M)[i]? = some (if k ≤ i ∧ i < k + M.length then M.getD (i - k) 0 else L.getD i 0) := by
  unfold overL
  rw [splice_at _ _ _ _ (by simp; omega)]
  by_cases c : k ≤ i ∧ i < k + M.length
  · rw [if_pos c, if_pos c, List.getD_eq_getElem?_getD, List.getElem?_eq_getElem (by omega)]
    rfl
  · rw [if_neg c, if_neg c]
    by_cases d : i < L.length
    · rw [List.getElem?_append_left d, List.getD_eq_getElem?_getD, List.getElem?_eq_getElem d]; rfl
    · rw [List.getElem?_append_right (by omega), List.getD_eq_getElem?_getD, List.getElem?_eq_none (by omega : L.length ≤ i), List.getElem?_replicate, if_pos (by omega)]; rfl
theorem overL_next (L : List Nat) (k : Nat) (M : List Nat) (i : Nat) (hi : i < max L.length (k + M.length)) (y : Nat) (hy : (if k ≤ i ∧ i < k + M.length then M.getD (i - k) 0 else L.getD i 0) = y) : (overL L k M).take (i + 1) = (overL L k M).take i ++ [y] := by
  rw [List.take_add_one, overL_at L k M i hi, hy]
  rfl
set_option maxHeartbeats 4000000 in
set_option maxRecDepth 20000 in
theorem rover_any (pa qa : Option Addr) (pc qc : Nat) (L M : List Nat) (k : Nat) (w : World) (h : Rw w (.slice pa L.length pc) L) (h2 : Rw w (.slice qa M.length qc) M) (hl : L.length ≤ 65536) (hm : M.length ≤ 65536) (hk : k ≤ 65536) : Calls Tryz.prog 33 #[.slice pa L.length pc, .int .i64 (k : Nat), .slice qa M.length qc] w (NewRow w (overL L k M)) := by
  have HC := hid (h.cellAt rfl)
  have HD := hid (h2.cellAt rfl)
  have HBy := hid (show ∀ i, L.getD i 0 < 256 from fun i => by
    by_cases c : i < L.length
    · rw [List.getD_eq_getElem?_getD, List.getElem?_eq_getElem c]; exact h.byt _ (List.getElem_mem c)
    · rw [List.getD_eq_getElem?_getD, List.getElem?_eq_none (by omega)]; decide)
  have HBz := hid (show ∀ i, M.getD i 0 < 256 from fun i => by
    by_cases c : i < M.length
    · rw [List.getD_eq_getElem?_getD, List.getElem?_eq_getElem c]; exact h2.byt _ (List.getElem_mem c)
    · rw [List.getD_eq_getElem?_getD, List.getElem?_eq_none (by omega)]; decide)
  have HPL := hid (overL_len L k M)
  have HPT := hid (overL_next L k M)
  have HZ := hid (show ∀ i, ¬ i < L.length → L.getD i 0 = 0 from fun i c => by rw [List.getD_eq_getElem?_getD, List.getElem?_eq_none (by omega)]; rfl)
  obtain ⟨n, hn⟩ : ∃ n, n = L.length := ⟨_, rfl⟩
  obtain ⟨m, hm2⟩ : ∃ m, m = M.length := ⟨_, rfl⟩
  rw [← hn] at HC HPL HPT HZ hl ⊢
  rw [← hm2] at HD HPL HPT hm ⊢
  have l7 : (k : Int) ≤ 65536 := by omega
  have l8 : (m : Int) ≤ 65536 := by omega
  have l9 : (n : Int) ≤ 65536 := by omega
  clear h h2 hn hm2
  generalize overL L k M = X at *
  have hE := Own.emptyB w w.heap.size rfl
  have HE := hid hE
  have HU := hid (show Old w (w.alloc (.cells #[] 5)) from (Old.refl w).alloc _)
  clear hE
  go_enter Tryz.func33, Tryz.ntmps33
  go_upto_region 2 with (fail)
  generalize w.alloc (.cells #[] 5) = wa at *
  obtain ⟨g0, hg0⟩ : ∃ g0, g0 = w.heap.size := ⟨_, rfl⟩
  have HG0 := hid (show w.heap.size ≤ g0 from by omega)
  rw [← hg0] at HE ⊢
  clear hg0
  go_wp2
  go_loopw [7, 8] (fun us c wr => ∃ (i : Nat) (a : Option Addr) (cp : Nat), i ≤ max n (k + m) ∧ c = .int .i64 (i : Nat) ∧ us = .slice a i cp ∧ Own wr (.slice a i cp) (X.take i) ∧ (∀ g, (Value.slice a i cp).ownBlock = some g → w.heap.size ≤ g) ∧ Old w wr) (fun _ c _ => max n (k + m) - (intOf c).toNat)
  case atStart => exact ⟨0, _, _, Nat.zero_le _, rfl, rfl, by simpa using HE.out, (fun g e => by cases e; exact HG0.out), HU.out⟩
  case round =>
    obtain ⟨i, a, cp, hi, rfl, rfl, hO, hg, hU⟩ := hrel
    have HO := hid hO
    have HG := hid hg
    have HU2 := hid hU
    have HI := hid hi
    clear hO hg hU HE HU
    have l2 : (0 : Int) ≤ (i : Int) := by omega
    have l5 : (i : Int) ≤ 131072 := by omega
    have HL := hid (show (X.take i).length = i from by rw [List.length_take, HPL.out]; omega)
    clear hi
    by_cases cL : i < n
    · by_cases cA : k ≤ i
      · by_cases cM : i < k + m
        · skip
          have hlt : i < max n (k + m) := by omega
          have l3 : (i : Int) < (n : Int) := by omega
          have l4 : (k : Int) ≤ (i : Int) := by omega
          have l6 : (i : Int) < (k : Int) + (m : Int) := by omega
          obtain ⟨j, hj⟩ : ∃ j, j = i - k := ⟨_, rfl⟩
          have hjm : j < m := by omega
          have HT := hid (HPT.out i hlt (M.getD j 0) (by rw [if_pos (by omega), hj]))
          obtain ⟨b, off, e, hcap, hcm, hcell⟩ := HD.out j hjm
          subst e
          have k0 := HU2.out.keep hcell
          have HX := hid (HBz.out j)
          have l10 : IntKind.i64.wrap ((i : Int) - (k : Int)) = (j : Int) := by rw [IntKind.wrap_i64]; omega
          have l11 : (0 : Int) ≤ (j : Int) := by omega
          have l12 : (j : Int) < (m : Int) := by omega
          clear hcell hj
          generalize M.getD j 0 = y at *
          go_wp2_with (at_builtin; refine wp_appL rfl (.tmp 39) (.tmp 46) rfl _ _ (X.take i) [y] rfl rfl (HO.out.old ((Old.refl wr).alloc _)) (Rw.one wr y _ HX.out rfl) (by rw [HL.out]; simp; omega) ?_; intro v5 w5 o5 g5; have O5 := hid o5; have G5 := hid g5; clear o5 g5)
          obtain ⟨a5, c5, e5⟩ := O5.out.len
          have hl5 : (X.take i ++ [y]).length = i + 1 := by rw [List.length_append, HL.out]; rfl
          rw [hl5] at e5
          subst e5
          clear hl5
          go_roundw
          case rel =>
            refine ⟨i + 1, a5, c5, hlt, by go_num, rfl, by rw [HT.out]; exact O5.out, fun g e => ?_, ?_⟩
            · rcases G5.out.2 g e with q | q
              · exact HG.out g q
              · have := HU2.out.size; simp at q; omega
            · exact (G5.out.1).oldOf (HU2.out.alloc _) (fun k hk => HG.out k (Option.mem_toList.1 hk))
          case measure => simp [intOf]; omega
        · skip
          have hlt : i < max n (k + m) := by omega
          have l3 : (i : Int) < (n : Int) := by omega
          have l4 : (k : Int) ≤ (i : Int) := by omega
          have l6 : ¬ (i : Int) < (k : Int) + (m : Int) := by omega
          have hin : i < n := by omega
          have HT := hid (HPT.out i hlt (L.getD i 0) (by rw [if_neg (by omega)]))
          obtain ⟨b, off, e, hcap, hcm, hcell⟩ := HC.out i hin
          subst e
          have k0 := HU2.out.keep hcell
          have HX := hid (HBy.out i)
          clear hcell
          generalize L.getD i 0 = y at *
          go_wp2_with (at_builtin; refine wp_appL rfl (.tmp 53) (.tmp 58) rfl _ _ (X.take i) [y] rfl rfl (HO.out.old ((Old.refl wr).alloc _)) (Rw.one wr y _ HX.out rfl) (by rw [HL.out]; simp; omega) ?_; intro v5 w5 o5 g5; have O5 := hid o5; have G5 := hid g5; clear o5 g5)
          obtain ⟨a5, c5, e5⟩ := O5.out.len
          have hl5 : (X.take i ++ [y]).length = i + 1 := by rw [List.length_append, HL.out]; rfl
          rw [hl5] at e5
          subst e5
          clear hl5
          go_roundw
          case rel =>
            refine ⟨i + 1, a5, c5, hlt, by go_num, rfl, by rw [HT.out]; exact O5.out, fun g e => ?_, ?_⟩
            · rcases G5.out.2 g e with q | q
              · exact HG.out g q
              · have := HU2.out.size; simp at q; omega
            · exact (G5.out.1).oldOf (HU2.out.alloc _) (fun k hk => HG.out k (Option.mem_toList.1 hk))
          case measure => simp [intOf]; omega
      · skip
        have hlt : i < max n (k + m) := by omega
        have l3 : (i : Int) < (n : Int) := by omega
        have l4 : ¬ (k : Int) ≤ (i : Int) := by omega
        have l6 : (i : Int) < (k : Int) + (m : Int) := by omega
        have hin : i < n := by omega
        have HT := hid (HPT.out i hlt (L.getD i 0) (by rw [if_neg (by omega)]))
        obtain ⟨b, off, e, hcap, hcm, hcell⟩ := HC.out i hin
        subst e
        have k0 := HU2.out.keep hcell
        have HX := hid (HBy.out i)
        clear hcell
        generalize L.getD i 0 = y at *
        go_wp2_with (at_builtin; refine wp_appL rfl (.tmp 53) (.tmp 58) rfl _ _ (X.take i) [y] rfl rfl (HO.out.old ((Old.refl wr).alloc _)) (Rw.one wr y _ HX.out rfl) (by rw [HL.out]; simp; omega) ?_; intro v5 w5 o5 g5; have O5 := hid o5; have G5 := hid g5; clear o5 g5)
        obtain ⟨a5, c5, e5⟩ := O5.out.len
        have hl5 : (X.take i ++ [y]).length = i + 1 := by rw [List.length_append, HL.out]; rfl
        rw [hl5] at e5
        subst e5
        clear hl5
        go_roundw
        case rel =>
          refine ⟨i + 1, a5, c5, hlt, by go_num, rfl, by rw [HT.out]; exact O5.out, fun g e => ?_, ?_⟩
          · rcases G5.out.2 g e with q | q
            · exact HG.out g q
            · have := HU2.out.size; simp at q; omega
          · exact (G5.out.1).oldOf (HU2.out.alloc _) (fun k hk => HG.out k (Option.mem_toList.1 hk))
        case measure => simp [intOf]; omega
    · by_cases cM : i < k + m
      · by_cases cA : k ≤ i
        · skip
          have hlt : i < max n (k + m) := by omega
          have l3 : ¬ (i : Int) < (n : Int) := by omega
          have l4 : (k : Int) ≤ (i : Int) := by omega
          have l6 : (i : Int) < (k : Int) + (m : Int) := by omega
          obtain ⟨j, hj⟩ : ∃ j, j = i - k := ⟨_, rfl⟩
          have hjm : j < m := by omega
          have HT := hid (HPT.out i hlt (M.getD j 0) (by rw [if_pos (by omega), hj]))
          obtain ⟨b, off, e, hcap, hcm, hcell⟩ := HD.out j hjm
          subst e
          have k0 := HU2.out.keep hcell
          have HX := hid (HBz.out j)
          have l10 : IntKind.i64.wrap ((i : Int) - (k : Int)) = (j : Int) := by rw [IntKind.wrap_i64]; omega
          have l11 : (0 : Int) ≤ (j : Int) := by omega
          have l12 : (j : Int) < (m : Int) := by omega
          clear hcell hj
          generalize M.getD j 0 = y at *
          go_wp2_with (at_builtin; refine wp_appL rfl (.tmp 39) (.tmp 46) rfl _ _ (X.take i) [y] rfl rfl (HO.out.old ((Old.refl wr).alloc _)) (Rw.one wr y _ HX.out rfl) (by rw [HL.out]; simp; omega) ?_; intro v5 w5 o5 g5; have O5 := hid o5; have G5 := hid g5; clear o5 g5)
          obtain ⟨a5, c5, e5⟩ := O5.out.len
          have hl5 : (X.take i ++ [y]).length = i + 1 := by rw [List.length_append, HL.out]; rfl
          rw [hl5] at e5
          subst e5
          clear hl5
          go_roundw
          case rel =>
            refine ⟨i + 1, a5, c5, hlt, by go_num, rfl, by rw [HT.out]; exact O5.out, fun g e => ?_, ?_⟩
            · rcases G5.out.2 g e with q | q
              · exact HG.out g q
              · have := HU2.out.size; simp at q; omega
            · exact (G5.out.1).oldOf (HU2.out.alloc _) (fun k hk => HG.out k (Option.mem_toList.1 hk))
          case measure => simp [intOf]; omega
        · skip
          have hlt : i < max n (k + m) := by omega
          have l3 : ¬ (i : Int) < (n : Int) := by omega
          have l4 : ¬ (k : Int) ≤ (i : Int) := by omega
          have l6 : (i : Int) < (k : Int) + (m : Int) := by omega
          have HT := hid (HPT.out i hlt 0 (by rw [if_neg (by omega)]; exact HZ.out i (by omega)))
          have HX := hid (show 0 < 256 from by decide)
          go_wp2_with (at_builtin; refine wp_appL rfl (.tmp 24) (.tmp 25) rfl _ _ (X.take i) [0] rfl rfl (HO.out.old ((Old.refl wr).alloc _)) (Rw.one wr 0 _ HX.out rfl) (by rw [HL.out]; simp; omega) ?_; intro v5 w5 o5 g5; have O5 := hid o5; have G5 := hid g5; clear o5 g5)
          obtain ⟨a5, c5, e5⟩ := O5.out.len
          have hl5 : (X.take i ++ [0]).length = i + 1 := by rw [List.length_append, HL.out]; rfl
          rw [hl5] at e5
          subst e5
          clear hl5
          go_roundw
          case rel =>
            refine ⟨i + 1, a5, c5, hlt, by go_num, rfl, by rw [HT.out]; exact O5.out, fun g e => ?_, ?_⟩
            · rcases G5.out.2 g e with q | q
              · exact HG.out g q
              · have := HU2.out.size; simp at q; omega
            · exact (G5.out.1).oldOf (HU2.out.alloc _) (fun k hk => HG.out k (Option.mem_toList.1 hk))
          case measure => simp [intOf]; omega
      · have hil : i = max n (k + m) := by have := HI.out; omega
        have l3 : ¬ (i : Int) < (n : Int) := by omega
        have l6 : ¬ (i : Int) < (k : Int) + (m : Int) := by omega
        have HF := hid (show NewRow w X (.returned (.slice a i cp)) wr from by
          have e : X.length = i := by rw [HPL.out, hil]
          have e2 : X.take i = X := List.take_of_length_le (by rw [e]; exact Nat.le_refl _)
          have o := HO.out
          rw [e2] at o
          exact ⟨a, cp, by rw [e], by rw [e]; exact o, HU2.out, by rw [e]; exact HG.out⟩)
        clear hil cL cM
        go_wp2
        refine bodyPost_ret (v := .slice a i cp) (by simp [results, Tryz.results33, go_sem]) rfl HF.out
theorem first_dif : ∀ (A B : List Nat), A.length = B.length → A ≠ B → ∃ j, j < A.length ∧ (∀ i, i < j → gd B i = gd A i) ∧ gd A j ≠ gd B j
  | [], [], _, h => (h rfl).elim
  | [], b :: B, h, _ => by simp at h
  | a :: A, [], h, _ => by simp at h
  | a :: A, b :: B, hl, h => by
    by_cases e : a = b
    · subst e
      obtain ⟨j, h1, h2, h3⟩ := first_dif A B (by simpa using hl) (fun q => h (by rw [q]))
      refine ⟨j + 1, by simp; omega, fun i hi => ?_, by simpa [gd] using h3⟩
      cases i with
      | zero => simp [gd]
      | succ i => have := h2 i (by omega); simpa [gd] using this
    · exact ⟨0, by simp, fun i hi => by omega, by simpa [gd] using e⟩
set_option maxHeartbeats 400000 in
set_option maxRecDepth 20000 in
theorem sameBytes_len (a b : Option Addr) (n m c d : Nat) (h : n ≠ m) (w : World) : Calls Tryz.prog 17 #[.slice a n c, .slice b m d] w fun e w' => e = .returned (.bool false) ∧ w' = w := by
  have t : ((n : Int) != (m : Int)) = true := by rw [bne_iff_ne]; omega
  clear h
  go_enter Tryz.func17, Tryz.ntmps17
  go_wp2
  go_ret
  exact ⟨rfl, rfl⟩
set_option maxHeartbeats 400000 in
set_option maxRecDepth 20000 in
theorem sameBytes_dif (b1 o1 c1 b2 o2 c2 n : Nat) (x y : Nat → Nat) (hm : n ≤ maxLen) (w : World) (hx : ∀ i, i < n → w.cell? ⟨b1, o1 + i, none⟩ = some (.int .u8 (x i : Int))) (hy : ∀ i, i < n → w.cell? ⟨b2, o2 + i, none⟩ = some (.int .u8 (y i : Int))) (j : Nat) (hj : j < n) (he : ∀ i, i < j → y i = x i) (hd : x j ≠ y j) :
    Calls Tryz.prog 17 #[.slice (some ⟨b1, o1, none⟩) n c1, .slice (some ⟨b2, o2, none⟩) n c2] w fun e w' => e = .returned (.bool false) ∧ Old w w' := by
  unfold maxLen at hm
  have HX := hid hx
  have HY := hid hy
  have HE := hid he
  have hd2 : ((x j : Int) != (y j : Int)) = true := by rw [bne_iff_ne]; omega
  have hd3 : ((x j : Int) == (y j : Int)) = false := by rw [beq_eq_false_iff_ne]; omega
  clear hx hy he
  go_enter Tryz.func17, Tryz.ntmps17
  go_wp2
  go_loopw [5] (fun i wx => ∃ k m : Nat, k ≤ j ∧ i = .int .i64 k ∧ wx = w.drewN m) (fun i _ => n - (intOf i).toNat)
  case atStart => exact ⟨0, 0, Nat.zero_le _, rfl, rfl⟩
  case round =>
    obtain ⟨k, m, hk, rfl, rfl⟩ := hrel
    have l1 : (0 : Int) ≤ (k : Int) := by omega
    have l2 : (k : Int) < (n : Int) := by omega
    have hlt0 : k < n := by omega
    by_cases hlt : k < j
    · have cx := HX.out k hlt0
      have cy := HY.out k hlt0
      rw [HE.out k hlt] at cy
      have t : ((x k : Int) != (x k : Int)) = false := by simp
      clear hd2 hd3 hd
      go_wp2
      go_quiet (fail)
      go_wp2
      exact ⟨⟨k + 1, _, hlt, by go_num, rfl⟩, by simp [intOf]; omega⟩
    · obtain rfl : j = k := by omega
      have cx := HX.out j hlt0
      have cy := HY.out j hlt0
      go_wp2
      go_quiet (fail)
      go_wp2
      go_ret
      exact ⟨rfl, ((Old.refl w).drewN _).drewN _⟩
theorem sameG (v u : Value) (A B : List Nat) (w : World) (h1 : Rw w v A) (h2 : Rw w u B) : Calls Tryz.prog 17 #[v, u] w fun e w' => e = .returned (.bool (decide (A = B))) ∧ Old w w' := by
  by_cases e : A = B
  · subst e
    rw [decide_eq_true rfl]
    exact sameL v u A w h1 h2
  · rw [decide_eq_false e]
    by_cases hl : A.length = B.length
    · obtain ⟨j, j1, j2, j3⟩ := first_dif A B hl e
      unfold Rw at h1 h2
      rw [← hl] at h2
      rcases h1 with ⟨z, _⟩ | ⟨hn, hm, b, off, cap, rfl, hc, _⟩
      · omega
      · rcases h2 with ⟨z, _⟩ | ⟨_, _, b2, off2, cap2, rfl, hc2, _⟩
        · omega
        · exact (sameBytes_dif _ _ _ _ _ _ _ _ _ hm w (fun i hi => (hc i hi).2) (fun i hi => (hc2 i hi).2) j j1 j2 j3)
    · obtain ⟨a, c, rfl⟩ := h1.len
      obtain ⟨a', c', rfl⟩ := h2.len
      exact (sameBytes_len a a' _ _ c c' hl w).mono fun e w' h => ⟨h.1, by rw [h.2]; exact Old.refl _⟩
set_option maxHeartbeats 400000 in
set_option maxRecDepth 20000 in
theorem rname_any (s : ByteArray) (w : World) : Calls Tryz.prog 48 #[.string s] w fun e w' => e = .returned (.bool (!misN s)) ∧ w' = w := by
  obtain ⟨n, hn⟩ : ∃ n, n = s.size := ⟨_, rfl⟩
  by_cases c0 : n = 0
  · have e : misN s = true := by unfold misN; rw [← hn, c0]; rfl
    have l1 : ¬ (0 : Int) < (s.size : Int) := by omega
    rw [e]
    clear c0 hn e
    go_enter Tryz.func48, Tryz.ntmps48
    go_wp2
    go_ret
    exact ⟨rfl, rfl⟩
  · by_cases c1 : 16 < n
    · have e : misN s = true := by unfold misN; rw [← hn]; simp [c1]
      have l1 : (0 : Int) < (s.size : Int) := by omega
      have l2 : ¬ (s.size : Int) ≤ 16 := by omega
      rw [e]
      clear c0 c1 hn e
      go_enter Tryz.func48, Tryz.ntmps48
      go_wp2
      go_ret
      exact ⟨rfl, rfl⟩
    · have e : misN s = false := by unfold misN; rw [← hn]; simp [c0, c1]
      have l1 : (0 : Int) < (s.size : Int) := by omega
      have l2 : (s.size : Int) ≤ 16 := by omega
      rw [e]
      clear c0 c1 hn e
      go_enter Tryz.func48, Tryz.ntmps48
      go_wp2
      go_ret
      exact ⟨rfl, rfl⟩
/-- The power and the step at which it goes, behind the beginning of a step. -/
def stD (dn : Bool) (fu : Int) : Bool := dn || decide (fu = 1)
def stF (dn : Bool) (fu : Int) : Int := if dn = true ∨ fu = 0 then fu else fu - 1
set_option maxHeartbeats 1000000 in
set_option maxRecDepth 20000 in
theorem rstep_any (v : Value) (ya : Option Addr) (yn yc : Nat) (dn : Bool) (fu : Int) (w : World) (hv : v = .slice ya yn yc) (hf : 0 ≤ fu ∧ fu ≤ 9223372036854775807) : Calls Tryz.prog 47 #[.agg #[v, .bool dn, .int .i64 fu]] w fun e w' => e = .returned (.agg #[v, .bool (stD dn fu), .int .i64 (stF dn fu)]) ∧ Old w w' := by
  subst hv
  have HU := hid (show Old w ((w.alloc (.cells #[.slice ya yn yc, .bool dn, .int .i64 fu] 32)).alloc (.cells #[.slice none 0 0, .bool false, .int .i64 0] 32)) from ((Old.refl w).alloc _).alloc _)
  have B1 := hid (show ((w.alloc (.cells #[.slice ya yn yc, .bool dn, .int .i64 fu] 32)).alloc (.cells #[.slice none 0 0, .bool false, .int .i64 0] 32)).heap[w.heap.size]? = some (.cells #[.slice ya yn yc, .bool dn, .int .i64 fu] 32 (0, 0)) from alloc_keep (alloc_at w _))
  have B2 := hid (show ((w.alloc (.cells #[.slice ya yn yc, .bool dn, .int .i64 fu] 32)).alloc (.cells #[.slice none 0 0, .bool false, .int .i64 0] 32)).heap[w.heap.size + 1]? = some (.cells #[.slice none 0 0, .bool false, .int .i64 0] 32 (0, 0)) from by have := alloc_at (w.alloc (.cells #[.slice ya yn yc, .bool dn, .int .i64 fu] 32)) (.cells #[.slice none 0 0, .bool false, .int .i64 0] 32); simpa using this)
  go_enter Tryz.func47, Tryz.ntmps47
  go_upto_region 1 with (fail)
  generalize (w.alloc (.cells #[.slice ya yn yc, .bool dn, .int .i64 fu] 32)).alloc (.cells #[.slice none 0 0, .bool false, .int .i64 0] 32) = w0 at *
  obtain ⟨b1, hb1⟩ : ∃ b1, b1 = w.heap.size := ⟨_, rfl⟩
  obtain ⟨b2, hb2⟩ : ∃ b2, b2 = w.heap.size + 1 := ⟨_, rfl⟩
  have Q1 := hid (show w.heap.size ≤ b1 ∧ w.heap.size ≤ b2 from by omega)
  have n12 : b1 ≠ b2 := by omega
  have n21 : b2 ≠ b1 := by omega
  rw [← hb1] at B1
  rw [← hb2] at B2
  rw [← hb2, ← hb1]
  clear hb1 hb2
  obtain ⟨x0, x1, x2, xf0, xf1, xf2⟩ := box3 B1.out
  obtain ⟨y0, y1, y2, f0, f1, f2⟩ := box3 B2.out
  by_cases c : dn = true ∨ fu = 0
  · have e1 : stD dn fu = dn := by unfold stD; rcases c with c | c <;> simp [c]
    have e2 : stF dn fu = fu := by unfold stF; rw [if_pos c]
    obtain ⟨z0, z1, z2, -, -, -⟩ := box3 (box3_set (p := .slice ya yn yc) (q := .bool dn) (r := .int .i64 fu) B2.out)
    have E1 := hid e1
    have E2 := hid e2
    clear e1 e2
    cases dn with
    | true =>
      clear c
      go_wp2
      refine bodyPost_ret (v := .agg #[.slice ya yn yc, .bool true, .int .i64 fu]) (by simp [results, Tryz.results47, go_sem, z0, z1, z2]) rfl ⟨by rw [E1.out, E2.out], HU.out.set3 Q1.out.2⟩
    | false =>
      obtain rfl : fu = 0 := by rcases c with c | c; cases c; exact c
      clear c
      go_wp2
      refine bodyPost_ret (v := .agg #[.slice ya yn yc, .bool false, .int .i64 0]) (by simp [results, Tryz.results47, go_sem, z0, z1, z2]) rfl ⟨by rw [E1.out, E2.out], HU.out.set3 Q1.out.2⟩
  · obtain ⟨rfl, c0⟩ : dn = false ∧ fu ≠ 0 := by
      cases dn with
      | true => exact absurd (.inl rfl) c
      | false => exact ⟨rfl, fun e => c (.inr e)⟩
    by_cases c1 : fu = 1
    · subst c1
      have E1 := hid (show stD false 1 = true from rfl)
      have E2 := hid (show stF false 1 = 0 from rfl)
      have s1 := Go.Joins.block_setCell (Go.Joins.block_setCell B1.out (.int .i64 0) (i := 2)) (.bool true) (i := 1)
      have s2 := set_other (b := b1) (i := 1) (v := .bool true) (set_other (b := b1) (i := 2) (v := .int .i64 0) B2.out n21) n21
      obtain ⟨z0, z1, z2, -, -, -⟩ := box3 (box3_set (p := .slice ya yn yc) (q := .bool true) (r := .int .i64 0) s2)
      have HF := hid (show Old w (((((w0.setCell ⟨b1, 2, none⟩ (.int .i64 0)).setCell ⟨b1, 1, none⟩ (.bool true)).setCell ⟨b2, 0, none⟩ (.slice ya yn yc)).setCell ⟨b2, 1, none⟩ (.bool true)).setCell ⟨b2, 2, none⟩ (.int .i64 0)) from ((HU.out.setCell (p := ⟨b1, 2, none⟩) Q1.out.1 _).setCell (p := ⟨b1, 1, none⟩) Q1.out.1 _).set3 Q1.out.2)
      obtain ⟨p0, p1, p2, -, -, -⟩ := box3 s1
      clear s1 s2 c c0
      go_wp2
      refine bodyPost_ret (v := .agg #[.slice ya yn yc, .bool true, .int .i64 0]) (by simp [results, Tryz.results47, go_sem, z0, z1, z2]) rfl ⟨by rw [E1.out, E2.out], HF.out⟩
    · have E1 := hid (show stD false fu = false from by unfold stD; simp [c1])
      have E2 := hid (show stF false fu = fu - 1 from by unfold stF; rw [if_neg c])
      have c2 : (fu == 0) = false := by rw [beq_eq_false_iff_ne]; exact c0
      have c3 : (fu - 1 == 0) = false := by rw [beq_eq_false_iff_ne]; omega
      have c4 : ¬ fu - 1 = 0 := by omega
      have lw : IntKind.i64.wrap (fu - 1) = fu - 1 := by rw [IntKind.wrap_i64]; omega
      have s1 := Go.Joins.block_setCell (Go.Joins.block_setCell B1.out (.int .i64 (fu - 1)) (i := 2)) (.bool false) (i := 1)
      have s2 := set_other (b := b1) (i := 1) (v := .bool false) (set_other (b := b1) (i := 2) (v := .int .i64 (fu - 1)) B2.out n21) n21
      obtain ⟨z0, z1, z2, -, -, -⟩ := box3 (box3_set (p := .slice ya yn yc) (q := .bool false) (r := .int .i64 (fu - 1)) s2)
      have HF := hid (show Old w (((((w0.setCell ⟨b1, 2, none⟩ (.int .i64 (fu - 1))).setCell ⟨b1, 1, none⟩ (.bool false)).setCell ⟨b2, 0, none⟩ (.slice ya yn yc)).setCell ⟨b2, 1, none⟩ (.bool false)).setCell ⟨b2, 2, none⟩ (.int .i64 (fu - 1))) from ((HU.out.setCell (p := ⟨b1, 2, none⟩) Q1.out.1 _).setCell (p := ⟨b1, 1, none⟩) Q1.out.1 _).set3 Q1.out.2)
      obtain ⟨p0, p1, p2, -, -, -⟩ := box3 s1
      clear s1 s2 c
      go_wp2
      refine bodyPost_ret (v := .agg #[.slice ya yn yc, .bool false, .int .i64 (fu - 1)]) (by simp [results, Tryz.results47, go_sem, z0, z1, z2]) rfl ⟨by rw [E1.out, E2.out], HF.out⟩
/-- What Find tells. -/
def FindIs (Y : List Fi) (s : ByteArray) (r : Int) : Prop := (r = -1 ∧ ∀ y ∈ Y, y.nm ≠ s) ∨ ∃ q : Nat, r = (q : Int) ∧ ∃ h : q < Y.length, Y[q].nm = s
set_option maxHeartbeats 1000000 in
set_option maxRecDepth 20000 in
theorem rfind_any (ya : Option Addr) (yc : Nat) (Y : List Fi) (dn : Bool) (fu : Int) (s : ByteArray) (b : Nat) (w : World) (h : OwnR b w (.slice ya Y.length yc) Y) (hl : Y.length ≤ 1000) : Calls Tryz.prog 21 #[.agg #[.slice ya Y.length yc, .bool dn, .int .i64 fu], .string s] w fun e w' => ∃ r, e = .returned (.int .i64 r) ∧ FindIs Y s r ∧ Old w w' := by
  have HY := hid h
  have HL := hid hl
  obtain ⟨n, hn⟩ : ∃ n, n = Y.length := ⟨_, rfl⟩
  have HN := hid hn
  rw [← hn] at HY HL ⊢
  have l9 : (n : Int) ≤ 1000 := by omega
  clear h hl hn
  go_enter Tryz.func21, Tryz.ntmps21
  go_upto_region 1 with (fail)
  have HB := hid (alloc_at w (.cells #[.slice ya n yc, .bool dn, .int .i64 fu] 32))
  have HU := hid (show Old w (w.alloc (.cells #[.slice ya n yc, .bool dn, .int .i64 fu] 32)) from (Old.refl w).alloc _)
  generalize w.alloc (.cells #[.slice ya n yc, .bool dn, .int .i64 fu] 32) = w0 at *
  obtain ⟨g0, hg0⟩ : ∃ g0, g0 = w.heap.size := ⟨_, rfl⟩
  rw [← hg0] at HB ⊢
  clear hg0
  go_wp2
  go_loopw [5] (fun c wr => ∃ (i : Nat), i ≤ n ∧ c = .int .i64 (i : Nat) ∧ wr = w0 ∧ ∀ j (hj : j < Y.length), j < i → Y[j].nm ≠ s) (fun c _ => n - (intOf c).toNat)
  case atStart => exact ⟨0, Nat.zero_le _, rfl, rfl, fun j _ hj => by omega⟩
  case round =>
    obtain ⟨i, hi, rfl, hw, hno⟩ := hrel
    subst hw
    have HNo := hid hno
    clear hno
    obtain ⟨x0, x1, x2, -, -, -⟩ := box3 HB.out
    by_cases hlt : i < n
    · have hil : i < Y.length := by rw [← HN.out]; exact hlt
      obtain ⟨gy, cy, qy, hyc, hym, ⟨y0, y1, y2⟩⟩ := HY.out.at i hil
      obtain ⟨ey, -, ec⟩ := Value.slice.inj qy
      subst ey ec
      have k0 := HU.out.keep y0
      have l2 : (0 : Int) ≤ (i : Int) := by omega
      have l3 : (i : Int) < (n : Int) := by omega
      rw [← HN.out] at hyc
      clear y0 y1 y2 qy
      by_cases cs : Y[i].nm = s
      · have HF := hid (show FindIs Y s (i : Int) from .inr ⟨i, rfl, hil, cs⟩)
        rw [cs] at k0
        clear cs hil
        go_wp2
        go_ret
        exact ⟨_, rfl, HF.out, HU.out⟩
      · have c1 := str_ne cs
        have c2 := str_ne' cs
        have HC := hid cs
        have HNo2 := hid (show ∀ j (hj : j < Y.length), j < i + 1 → Y[j].nm ≠ s from fun j hj hj2 => by
          by_cases e : j = i
          · subst e; exact HC.out
          · exact HNo.out j hj (by omega))
        clear cs HC
        generalize Y[i].nm = nm at *
        go_wp2
        go_roundw
        case rel => exact ⟨i + 1, hlt, by go_num, trivial, HNo2.out⟩
        case measure => simp [intOf]; omega
    · obtain rfl : i = n := by omega
      have l3 : ¬ (i : Int) < (i : Int) := by omega
      have HF := hid (show FindIs Y s (-1) from .inl ⟨rfl, fun y hy => by
        obtain ⟨j, hj, e⟩ := List.getElem_of_mem hy
        rw [← e]
        exact HNo.out j hj (by rw [HN.out]; exact hj)⟩)
      clear hlt hi
      go_wp2
      go_ret
      exact ⟨_, rfl, HF.out, HU.out⟩
end Go.Proofs.YtfphopleniidfaaGreatDoor
