/- slices.Insert of one int into a row that the call owns; conditions: the lengths fit. -/
import Derived.Test.YtcicefpcledmgaaV3
import Derived.Shelf.Spec.SlicesInsert
import Derived.Shelf.Spec.SlicesInsertGrow
import Derived.Ground.Names2Prog
namespace Go.Proofs
open Go.RowKit Go.Maps Go.Sort Go.Shelf Go.Lib
shelf_lay Lays2.n21 Nm2 21 at Try as Ytcicefpcledmgaa.insLay
end Go.Proofs
namespace Go.Proofs.Ytcicefpcledmgaa
open Go.RowKit Go.Lib Go.Sort Go.Shelf
set_option linter.unusedVariables false
set_option linter.unusedSimpArgs false
set_option maxRecDepth 20000
theorem Blk.setCell {w : World} {g : Nat} {t : TypeId} {s : Nat} (h : Blk w g t s) (b o : Nat) (v : Value) : Blk (w.setCell ⟨b, o, none⟩ v) g t s := by
  obtain ⟨cur, hg, hs⟩ := h
  rw [setCell_eq]
  by_cases e : b = g
  · exact ⟨cur.setIfInBounds o v, by simp [mapBlock, Array.getElem?_modify, e, hg, onCells], by simpa using hs⟩
  · exact ⟨cur, by simp [mapBlock, Array.getElem?_modify, e, hg], hs⟩
theorem Blk.setCells {g : Nat} {t : TypeId} {s : Nat} (b : Nat) : ∀ (vs : List Value) (o : Nat) {w : World}, Blk w g t s → Blk (w.setCells b o vs) g t s
  | [], _, _, h => h
  | v :: r, o, _, h => by rw [World.setCells]; exact Blk.setCells b r (o + 1) (h.setCell b o v)
theorem Blk.drew {w : World} {g : Nat} {t : TypeId} {s : Nat} (h : Blk w g t s) : Blk w.drew g t s := h
theorem Blk.some {w : World} {g : Nat} {t : TypeId} {s : Nat} (h : Blk w g t s) (j : Nat) (hj : j < s) : (w.cell? ⟨g, j, none⟩).isSome = true := by
  obtain ⟨cur, hg, hs⟩ := h
  simp [World.cell?, hg]; omega
theorem Blk.free {w : World} {g : Nat} {t : TypeId} {s : Nat} (h : Blk w g t s) (j : Nat) : w.frozen? ⟨g, j, none⟩ = false := by
  obtain ⟨cur, hg, hs⟩ := h
  simp [World.frozen?, hg]
theorem Chg.setCells {S : List Nat} {a : World} {b : Nat} (hb : b ∈ S) : ∀ (vs : List Value) (o : Nat) {w : World}, Chg S a w → Chg S a (w.setCells b o vs)
  | [], _, _, h => h
  | v :: r, o, _, h => by rw [World.setCells]; exact Chg.setCells hb r (o + 1) (h.trans (Chg.set _ _ _ hb))
theorem Chg.new {S : List Nat} {a : World} {b : Nat} (hb : a.heap.size ≤ b) : ∀ (vs : List Value) (o : Nat) {w : World}, Chg S a w → Chg S a (w.setCells b o vs)
  | [], _, _, h => h
  | v :: r, o, w, h => by
    rw [World.setCells]
    refine Chg.new hb r (o + 1) ⟨h.os, h.tape, h.output, by simpa using h.size, fun k hk hn => ?_⟩
    rw [Below.heap_setCell w ⟨b, o, none⟩ v k (by show k ≠ b; omega)]
    exact h.block k hk hn
theorem Chg.drew {S : List Nat} {a w : World} (h : Chg S a w) : Chg S a w.drew := ⟨h.os, h.tape, h.output, h.size, h.block⟩
/-- One put at its place. -/
def insA (i : Nat) (x : Int) (L : List Int) : List Int := L.take i ++ x :: L.drop i
theorem insA_len (i : Nat) (x : Int) (L : List Int) (h : i ≤ L.length) : (insA i x L).length = L.length + 1 := by simp [insA]; omega
theorem insA_get (i : Nat) (x : Int) (L : List Int) (h : i ≤ L.length) (j : Nat) (hj : j < L.length + 1) : (insA i x L).getD j 0 = if j < i then L.getD j 0 else if j = i then x else L.getD (j - 1) 0 := by
  unfold insA
  simp only [List.getD_eq_getElem?_getD]
  by_cases h1 : j < i
  · rw [if_pos h1, List.getElem?_append_left (by simp; omega), List.getElem?_take, if_pos h1]
  · rw [if_neg h1, List.getElem?_append_right (by simp; omega), List.length_take, Nat.min_eq_left h]
    by_cases h2 : j = i
    · rw [if_pos h2, h2, Nat.sub_self]; rfl
    · rw [if_neg h2, show j - i = (j - i - 1) + 1 by omega, List.getElem?_cons_succ, List.getElem?_drop, show i + (j - i - 1) = j - 1 by omega]
theorem ils_get (L : List Int) (j : Nat) (h : j < L.length) : (ils L)[j]? = some (.int .i64 (L.getD j 0)) := by simp [ils, List.getD_eq_getElem?_getD, h]
theorem ils_drop (L : List Int) (i j : Nat) (h : i + j < L.length) : ((ils L).drop i)[j]'(by simp [ils]; omega) = .int .i64 (L.getD (i + j) 0) := by
  simp [ils, List.getD_eq_getElem?_getD, h]
theorem ils_one (L : List Int) : ∀ v ∈ ils L, v.oneCell' = true := fun v hv => by simp [ils] at hv; obtain ⟨a, _, rfl⟩ := hv; rfl
theorem ownI_alloc {base : Nat} (w : World) (K : List Int) (cap : Nat) (arr : Array Value) (hb : base ≤ w.heap.size) (hl : K.length ≤ cap) (hm : cap ≤ maxLen) (hs : arr.size = cap) (ha : ∀ j, j < K.length → arr[j]? = some (.int .i64 (K.getD j 0))) : OwnI base (w.alloc (.cells arr 3)) (.slice (some ⟨w.heap.size, 0, none⟩) K.length cap) K :=
  OwnI.of_cells ⟨arr, heap_alloc_new w _, hs⟩ hb hl hm (fun j hj => by have q := heap_alloc_new w (.cells arr 3); simp only [World.cell?, q]; exact ha j hj)
theorem zeroCells_size (z : Array Value) (n : Nat) : (Builtin.zeroCells z n).size = n * z.size := by simp [Builtin.zeroCells]
set_option maxHeartbeats 2000000 in
set_option maxRecDepth 20000 in
theorem insertI_any (base : Nat) (v : Value) (L : List Int) (x : Int) (i vb : Nat) (w : World) (hl : L.length ≤ 1000000) (h : OwnI base w v L) (hbase : base ≤ w.heap.size) (hi : i ≤ L.length) (hv : w.heap[vb]? = some (.cells #[.int .i64 x] 3 (0, 0))) (hvb : v.ownBlock ≠ some vb) :
    Calls Try.prog 59 #[v, .int .i64 (i : Nat), .slice (some ⟨vb, 0, none⟩) 1 1] w fun e w' => ∃ v', e = .returned v' ∧ OwnI base w' v' (insA i x L) ∧ Chg v.ownBlock.toList w w' ∧ ∀ k, v'.ownBlock = some k → v.ownBlock = some k ∨ w.heap.size ≤ k := by
  have hvs : ∀ j u, ([.int .i64 x] : List Value)[j]? = some u → w.cell? ⟨vb, 0 + j, none⟩ = some u := fun j u hj => by
    match j with
    | 0 => simp at hj; subst hj; simp [World.cell?, hv]
    | j + 1 => simp at hj
  have h1v : ∀ u ∈ ([.int .i64 x] : List Value), u.oneCell' = true := fun u hu => by simp at hu; subst hu; rfl
  have hlen := insA_len i x L hi
  have hL' : ∀ j, j < (insA i x L).length → (insA i x L).getD j 0 = if j < i then L.getD j 0 else if j = i then x else L.getD (j - 1) 0 := fun j hj => insA_get i x L hi j (by omega)
  rcases h.2 with ⟨rfl, e⟩ | ⟨g, cap, cur, rfl, hb, hg, hnc, hcm, hcs, htk⟩
  · obtain rfl : L = [] := List.length_eq_zero_iff.1 e
    obtain rfl : i = 0 := by simpa using hi
    have q := Any2.slices_Insert_int_end_grow insLay none 0 0 vb 0 1 1 [] [.int .i64 x] w (by omega) (by omega) (by omega) (by omega) rfl rfl (fun _ => rfl) (fun a e => by cases e) hvs h1v
    refine Calls.mono q ?_
    rintro e w' ⟨rfl, rfl⟩
    have hG1 := grownCap_ge w (0 + 1) 0 3
    have hG2 := grownCap_le_maxLen w (0 + 1) 0 3 (by unfold maxLen; omega)
    change _ ≤ grownCap w (0 + 1) 0 (insLay_ren.t 3) at hG1
    change grownCap w (0 + 1) 0 (insLay_ren.t 3) ≤ _ at hG2
    generalize grownCap w (0 + 1) 0 (insLay_ren.t 3) = G at *
    refine ⟨_, rfl, ?_, Chg.ofOld ((Old.refl w).drew.alloc _), fun k e => .inr (by cases e; exact Nat.le_refl _)⟩
    have r := ownI_alloc (base := base) w.drew (insA 0 x []) G (([] ++ [.int .i64 x] : List Value).toArray ++ Builtin.zeroCells (Value.int .i64 0).cells (G - (0 + 1))) hbase (by rw [hlen]; exact hG1) hG2 (by rw [Array.size_append, zeroCells_size]; simp [Value.cells]; omega) (fun j hj => by
      rw [hlen] at hj
      obtain rfl : j = 0 := by simpa using hj
      rw [Array.getElem?_append_left (by simp)]
      simp [insA])
    rw [hlen] at r
    exact r
  · have hcl : ∀ j u, (ils L)[j]? = some u → w.cell? ⟨g, 0 + j, none⟩ = some u := fun j u hj => by
      have hlt : j < L.length := by have := (List.getElem?_eq_some_iff.1 hj).1; simpa [ils] using this
      rw [Nat.zero_add, h.blk.2.2.2.2.2 j hlt, ← ils_get L j hlt, hj]
    have hB := h.blk.1
    have hvg : vb ≠ g := fun e => hvb (by rw [e]; rfl)
    have hil : (ils L).length = L.length := by simp [ils]
    by_cases hroom : L.length + 1 ≤ cap
    · by_cases hin : i < L.length
      · have q := Any2.slices_Insert_int_shift insLay g 0 L.length cap i vb 0 1 1 (ils L) [.int .i64 x] w hin (by omega) hroom (by unfold maxLen at hcm; omega) hvg hil rfl hcl (fun j hj => by rw [Nat.zero_add]; exact hB.some j (by omega)) (fun j hj => by rw [Nat.zero_add]; exact hB.free j) hvs (ils_one L) h1v 3 3 1 cap (by simp [World.shape?, hv]) (by simp [World.shape?, hg]; omega) (by omega) (by simp [World.frozen?, hv]) (by simp [World.frozen?, hv])
        refine Calls.mono q ?_
        rintro e w' ⟨rfl, rfl⟩
        refine ⟨_, rfl, ?_, Chg.setCells (by simp [Value.ownBlock]) _ _ (Chg.setCells (by simp [Value.ownBlock]) _ _ (Chg.ofOld (Old.refl w).drew)), fun k e => .inl e⟩
        have hsm : ∀ j, j < cap → (w.drew.cell? ⟨g, j, none⟩).isSome = true := fun j hj => hB.some j hj
        have r := OwnI.of_cells (base := base) (L := insA i x L) (Blk.setCells g [.int .i64 x] (0 + i) (Blk.setCells g ((ils L).drop i) (0 + (i + 1)) hB.drew)) hb (by rw [hlen]; exact hroom) hcm (fun j hj => by
          rw [hL' j hj]
          rw [hlen] at hj
          by_cases c1 : j < i
          · rw [if_pos c1, World.cell?_setCells_out g _ _ _ ⟨g, j, none⟩ (fun _ _ => .inl (by show j < 0 + i; omega)), World.cell?_setCells_out g _ _ _ ⟨g, j, none⟩ (fun _ _ => .inl (by show j < 0 + (i + 1); omega))]
            exact h.blk.2.2.2.2.2 j (by omega)
          · rw [if_neg c1]
            by_cases c2 : j = i
            · rw [if_pos c2, c2]
              have z := World.cell?_setCells_in g [.int .i64 x] (0 + i) (w.drew.setCells g (0 + (i + 1)) ((ils L).drop i)) (fun k hk => (Blk.setCells g ((ils L).drop i) (0 + (i + 1)) hB.drew).some _ (by simp at hk; omega)) 0 (by simp)
              simpa using z
            · rw [if_neg c2, World.cell?_setCells_out g _ _ _ ⟨g, j, none⟩ (fun _ _ => .inr (by show 0 + i + [Value.int .i64 x].length ≤ j; simp; omega))]
              have z := World.cell?_setCells_in g ((ils L).drop i) (0 + (i + 1)) w.drew (fun k hk => hsm _ (by simp [hil] at hk; omega)) (j - (i + 1)) (by simp [hil]; omega)
              rw [show 0 + (i + 1) + (j - (i + 1)) = j by omega, ils_drop L i (j - (i + 1)) (by omega), show i + (j - (i + 1)) = j - 1 by omega] at z
              exact z)
        rw [hlen] at r
        exact r
      · obtain rfl : i = L.length := by omega
        have q := Any2.slices_Insert_int_end_room insLay g 0 L.length cap vb 0 1 1 [.int .i64 x] w (by omega) hroom (by unfold maxLen at hcm; omega) rfl (fun j hj => by rw [Nat.zero_add]; exact hB.some _ (by omega)) (fun j hj => hB.free _) hvs h1v
        refine Calls.mono q ?_
        rintro e w' ⟨rfl, rfl⟩
        refine ⟨_, rfl, ?_, Chg.setCells (by simp [Value.ownBlock]) _ _ (Chg.refl _ w), fun k e => .inl e⟩
        have r := OwnI.of_cells (base := base) (L := insA L.length x L) (Blk.setCells g [.int .i64 x] (0 + L.length) hB) hb (by rw [hlen]; exact hroom) hcm (fun j hj => by
          rw [hL' j hj]
          rw [hlen] at hj
          by_cases c1 : j < L.length
          · rw [if_pos c1, World.cell?_setCells_out g _ _ _ ⟨g, j, none⟩ (fun _ _ => .inl (by show j < 0 + L.length; omega))]
            exact h.blk.2.2.2.2.2 j c1
          · rw [if_neg c1]
            obtain rfl : j = L.length := by omega
            rw [if_pos rfl]
            have z := World.cell?_setCells_in g [.int .i64 x] (0 + L.length) w (fun k hk => hB.some _ (by simp at hk; omega)) 0 (by simp)
            simpa using z)
        rw [hlen] at r
        exact r
    · by_cases hin : i < L.length
      · have q := Any2.slices_Insert_int_grow insLay g 0 L.length cap i vb 0 1 1 (ils L) [.int .i64 x] w hin (by omega) hnc (by omega) (by omega) hil rfl hcl hvs (ils_one L) h1v
        refine Calls.mono q ?_
        rintro e w' ⟨rfl, rfl⟩
        have hG1 := grownCap_ge w (L.length + 1) cap 3
        have hG2 := grownCap_le_maxLen w (L.length + 1) cap 3 (by unfold maxLen; omega)
        change _ ≤ grownCap w (L.length + 1) cap (insLay_ren.t 3) at hG1
        change grownCap w (L.length + 1) cap (insLay_ren.t 3) ≤ _ at hG2
        generalize grownCap w (L.length + 1) cap (insLay_ren.t 3) = G at *
        refine ⟨_, rfl, ?_, Chg.new (Nat.le_refl _) _ _ (Chg.new (Nat.le_refl _) _ _ (Chg.ofOld ((Old.refl w).alloc _).drew)).drew, fun k e => .inr (by cases e; exact Nat.le_refl _)⟩
        have hz : (Builtin.zeroCells (Value.int .i64 0).cells (L.length + 1 - i)).size = L.length + 1 - i := by rw [zeroCells_size]; simp [Value.cells]
        have hz2 : (Builtin.zeroCells (Value.int .i64 0).cells (G - (L.length + 1))).size = G - (L.length + 1) := by rw [zeroCells_size]; simp [Value.cells]
        generalize Builtin.zeroCells (Value.int .i64 0).cells (L.length + 1 - i) = Z1 at *
        generalize Builtin.zeroCells (Value.int .i64 0).cells (G - (L.length + 1)) = Z2 at *
        have htk : ((ils L).take i).length = i := by simp [hil]; omega
        have hBn : Blk (w.alloc (.cells (((ils L).take i).toArray ++ Z1 ++ Z2) 3)) w.heap.size 3 G := ⟨_, heap_alloc_new w _, by simp only [Array.size_append, hz, hz2, List.size_toArray, htk]; omega⟩
        have hB1 := Blk.setCells w.heap.size [.int .i64 x] i hBn.drew
        have r := OwnI.of_cells (base := base) (L := insA i x L) (Blk.setCells w.heap.size ((ils L).drop i) (i + 1) hB1.drew) hbase (by rw [hlen]; exact hG1) hG2 (fun j hj => by
          rw [hL' j hj]
          rw [hlen] at hj
          by_cases c1 : j < i
          · rw [if_pos c1, World.cell?_setCells_out w.heap.size _ _ _ ⟨w.heap.size, j, none⟩ (fun _ _ => .inl (by show j < i + 1; omega))]
            show World.cell? _ _ = _
            have z := World.cell?_setCells_out w.heap.size [.int .i64 x] i (w.alloc (.cells (((ils L).take i).toArray ++ Z1 ++ Z2) 3)).drew ⟨w.heap.size, j, none⟩ (fun _ _ => .inl c1)
            refine Eq.trans z ?_
            have q := heap_alloc_new w (.cells (((ils L).take i).toArray ++ Z1 ++ Z2) 3)
            show World.cell? (w.alloc (.cells (((ils L).take i).toArray ++ Z1 ++ Z2) 3)) _ = _
            simp only [World.cell?, q]
            rw [Array.getElem?_append_left (by simp only [Array.size_append, List.size_toArray, htk]; omega), Array.getElem?_append_left (by simp only [List.size_toArray, htk]; omega)]
            rw [List.getElem?_toArray, List.getElem?_take, if_pos c1]
            exact ils_get L j (by omega)
          · rw [if_neg c1]
            by_cases c2 : j = i
            · rw [if_pos c2, c2, World.cell?_setCells_out w.heap.size _ _ _ ⟨w.heap.size, i, none⟩ (fun _ _ => .inl (by show i < i + 1; omega))]
              have z := World.cell?_setCells_in w.heap.size [.int .i64 x] i (w.alloc (.cells (((ils L).take i).toArray ++ Z1 ++ Z2) 3)).drew (fun k hk => hBn.drew.some _ (by simp at hk; omega)) 0 (by simp)
              simpa using z
            · rw [if_neg c2]
              have z := World.cell?_setCells_in w.heap.size ((ils L).drop i) (i + 1) ((w.alloc (.cells (((ils L).take i).toArray ++ Z1 ++ Z2) 3)).drew.setCells w.heap.size i [.int .i64 x]).drew (fun k hk => hB1.drew.some _ (by simp [hil] at hk; omega)) (j - (i + 1)) (by simp [hil]; omega)
              rw [show i + 1 + (j - (i + 1)) = j by omega, ils_drop L i (j - (i + 1)) (by omega), show i + (j - (i + 1)) = j - 1 by omega] at z
              exact z)
        rw [hlen] at r
        exact r
      · obtain rfl : i = L.length := by omega
        have q := Any2.slices_Insert_int_end_grow insLay (some ⟨g, 0, none⟩) L.length cap vb 0 1 1 (ils L) [.int .i64 x] w (by omega) hnc (by omega) (by omega) hil rfl (fun e => by cases e) (fun a e j u hj => by cases e; rw [Go.WideShapes.add_plain]; exact hcl j u hj) hvs h1v
        refine Calls.mono q ?_
        rintro e w' ⟨rfl, rfl⟩
        have hG1 := grownCap_ge w (L.length + 1) cap 3
        have hG2 := grownCap_le_maxLen w (L.length + 1) cap 3 (by unfold maxLen; omega)
        change _ ≤ grownCap w (L.length + 1) cap (insLay_ren.t 3) at hG1
        change grownCap w (L.length + 1) cap (insLay_ren.t 3) ≤ _ at hG2
        generalize grownCap w (L.length + 1) cap (insLay_ren.t 3) = G at *
        refine ⟨_, rfl, ?_, Chg.ofOld ((Old.refl w).drew.alloc _), fun k e => .inr (by cases e; exact Nat.le_refl _)⟩
        have r := ownI_alloc (base := base) w.drew (insA L.length x L) G ((ils L ++ [.int .i64 x] : List Value).toArray ++ Builtin.zeroCells (Value.int .i64 0).cells (G - (L.length + 1))) hbase (by rw [hlen]; exact hG1) hG2 (by rw [Array.size_append, zeroCells_size]; simp [Value.cells, hil]; omega) (fun j hj => by
          rw [hL' j hj]
          rw [hlen] at hj
          rw [Array.getElem?_append_left (by simp [hil]; omega), List.getElem?_toArray]
          by_cases c1 : j < L.length
          · rw [if_pos c1, List.getElem?_append_left (by rw [hil]; exact c1)]
            exact ils_get L j c1
          · rw [if_neg c1]
            obtain rfl : j = L.length := by omega
            rw [if_pos rfl, List.getElem?_append_right (by rw [hil]; exact Nat.le_refl _), hil, Nat.sub_self]
            rfl)
        rw [hlen] at r
        exact r
end Go.Proofs.Ytcicefpcledmgaa
