/- preds: the document's row and the program's, as lists; no condition. -/
import Derived.Test.YtodoogcllahfgaaYt
import Derived.Test.YtodoogcllahfgaaYr
import Derived.Test.YtodoogcllahfgaaRf
namespace Go.Proofs.Ytodoogcllahfgaa
set_option linter.unusedVariables false
set_option linter.unusedSimpArgs false
set_option maxRecDepth 20000
/-- The greatest number of the first ranges that have a key. -/
def overQ (k : Nat) (M : List Rt) : Nat → Int
  | 0 => 0
  | j + 1 => if Fl.rHasB (atR M j).l (atR M j).h k = true then max (overQ k M j) (atR M j).n else overQ k M j
def isR (l h : Nat) (x : Rt) : Bool := decide (x.l = l) && decide (x.h = h)
def setQ (l h : Nat) (n : Int) (x : Rt) : Rt := if isR l h x = true then ⟨x.l, x.h, max x.n n⟩ else x
def thereQ (l h : Nat) (M : List Rt) : Bool := M.any (isR l h)
/-- What the document's Put makes of a row. -/
def putM (l h : Nat) (n most : Int) (M : List Rt) : Int × List Rt := if h < l then (41, M) else if n < 1 ∨ 1099511627776 < n then (43, M) else if thereQ l h M = true then (0, M.map (setQ l h n)) else if most ≤ (M.length : Int) then (3, M) else (0, M.map (setQ l h n) ++ [⟨l, h, n⟩])
theorem set_step (l h : Nat) (n : Int) (M : List Rt) (j : Nat) (hj : j < M.length) : (M.take (j + 1)).map (setQ l h n) = (M.take j).map (setQ l h n) ++ [setQ l h n (atR M j)] := by
  rw [List.take_add_one, List.map_append, List.getElem?_eq_getElem hj, atR_get M j hj]; rfl
theorem there_step (l h : Nat) (M : List Rt) (j : Nat) (hj : j < M.length) : thereQ l h (M.take (j + 1)) = (thereQ l h (M.take j) || isR l h (atR M j)) := by
  unfold thereQ
  rw [List.take_add_one, List.any_append, List.getElem?_eq_getElem hj, atR_get M j hj]; simp
def rOf (x : It) : Rt := ⟨Fl.code x.a, Fl.code x.b, x.n⟩
theorem overQ_ge0 (k : Nat) (L : List Rt) : ∀ j, 0 ≤ overQ k L j
  | 0 => Int.le_refl _
  | j + 1 => by
    have := overQ_ge0 k L j
    unfold overQ
    split <;> omega
theorem overQ_mono (k : Nat) (L : List Rt) : ∀ j i, i < j → Fl.rHasB (atR L i).l (atR L i).h k = true → (atR L i).n ≤ overQ k L j
  | 0, i, hi, _ => by omega
  | j + 1, i, hi, hh => by
    unfold overQ
    by_cases e : i = j
    · subst e; rw [if_pos hh]; omega
    · have := overQ_mono k L j i (by omega) hh
      split <;> omega
theorem overQ_le (k : Nat) (L : List Rt) (B : Int) (hB : 0 ≤ B) : ∀ j, (∀ i, i < j → Fl.rHasB (atR L i).l (atR L i).h k = true → (atR L i).n ≤ B) → overQ k L j ≤ B
  | 0, _ => hB
  | j + 1, hh => by
    have := overQ_le k L B hB j fun i hi => hh i (by omega)
    unfold overQ
    split
    · rename_i hk; have := hh j (by omega) hk; omega
    · exact this
theorem overQ_in (k : Nat) (L : List Rt) (z : Rt) (hz : z ∈ L) (hh : Fl.rHasB z.l z.h k = true) : z.n ≤ overQ k L L.length := by
  obtain ⟨j, hj, rfl⟩ := List.getElem_of_mem hz
  have := overQ_mono k L L.length j hj (by rw [atR_get _ j hj]; exact hh)
  rw [atR_get _ j hj] at this
  exact this
theorem overQ_sub (k : Nat) (M L : List Rt) (hs : ∀ x ∈ M, x ∈ L) : overQ k M M.length ≤ overQ k L L.length :=
  overQ_le k M _ (overQ_ge0 k L _) _ fun i hi hh => overQ_in k L (atR M i) (hs _ (by rw [atR_get M i hi]; exact List.getElem_mem hi)) hh
theorem overQ_perm {M L : List Rt} (hp : M.Perm L) (k : Nat) : overQ k M M.length = overQ k L L.length :=
  Int.le_antisymm (overQ_sub k M L fun x hx => hp.mem_iff.1 hx) (overQ_sub k L M fun x hx => hp.mem_iff.2 hx)
theorem hasQ_form (x : It) (h : Okp x) (k : Nat) : Fl.rHasB (rOf x).l (rOf x).h k = hasB x.a x.b x.p x.q k := by
  obtain ⟨hf, h1, h2, _⟩ := h
  rw [h1, h2]
  have c := Fl.cs_of_form x.a x.b false hf
  unfold hasB
  rw [← Fl.rHas_eq x.a x.b k false false hf.1 hf.2.1]
  unfold Fl.rL Fl.rH
  rw [c.1, c.2.1, c.2.2]
  simp [rOf]
theorem atR_map (L : List It) (j : Nat) (hj : j < L.length) : atR (L.map rOf) j = rOf (atI L j) := by
  rw [atR_get _ j (by simpa using hj), atI_get L j hj, List.getElem_map]
theorem at_perm {M : List Rt} {L : List It} (hp : M.Perm (L.map rOf)) (hG : Good L) (k : Nat) : overQ k M M.length = overT k L L.length := by
  rw [overQ_perm hp k, List.length_map]
  have : ∀ j, j ≤ L.length → overQ k (L.map rOf) j = overT k L j := by
    intro j
    induction j with
    | zero => intro _; rfl
    | succ j ih =>
      intro hj
      have h1 := atR_map L j (by omega)
      have h2 := hasQ_form (atI L j) (hG.at j (by omega)) k
      unfold overQ overT
      rw [ih (by omega), h1, h2]
      rfl
  exact this _ (Nat.le_refl _)
theorem keep_perm {M : List Rt} {L : List It} (hp : M.Perm (L.map rOf)) (m : Int) : (keepQ m M).Perm ((keepL m L).map rOf) := by
  have h := hp.filter fun x => decide (m < x.n)
  have e : (L.map rOf).filter (fun x => decide (m < x.n)) = (keepL m L).map rOf := by
    unfold keepL
    rw [List.filter_map]
    rfl
  rw [e] at h
  exact h
theorem code_lt {a b : Nat} {e : Bool} (h : Fl.IsForm a b e) : Fl.code a < 18446744073709551616 ∧ Fl.code b < 18446744073709551616 := ⟨by have := Fl.code_le a h.1; omega, by have := Fl.code_le b h.2.1; omega⟩
theorem isR_kc {x y : It} (hx : Fl.IsForm x.a x.b false) (hy : Fl.IsForm y.a y.b false) : isR (Fl.code x.a) (Fl.code x.b) (rOf y) = decide (kc y = kc x) := by
  have c1 := code_lt hx
  have c2 := code_lt hy
  unfold isR rOf kc
  rw [Bool.eq_iff_iff]
  simp only [Bool.and_eq_true, decide_eq_true_eq]
  omega
theorem put_map (x : It) : ∀ (L : List It), Asc L → (∃ y ∈ L, kc y = kc x) → putL x L = L.map fun y => if kc y = kc x then withN y (max y.n x.n) else y
  | [], _, h => by obtain ⟨y, hy, _⟩ := h; simp at hy
  | q :: t, ha, h => by
    have h1 := List.pairwise_cons.1 ha
    obtain ⟨y, hy, hk⟩ := h
    unfold putL
    by_cases e1 : kc q < kc x
    · rw [if_pos e1, List.map_cons, if_neg (by omega)]
      rcases List.mem_cons.1 hy with rfl | r
      · omega
      · rw [put_map x t h1.2 ⟨y, r, hk⟩]
    · rw [if_neg e1]
      have e2 : kc q = kc x := by
        rcases List.mem_cons.1 hy with rfl | r
        · exact hk
        · have := h1.1 y r; omega
      rw [if_pos e2, List.map_cons, if_pos e2]
      congr 1
      have : t.map (fun y => if kc y = kc x then withN y (max y.n x.n) else y) = t.map id := List.map_congr_left fun z hz => by
        have := h1.1 z hz
        rw [if_neg (by omega)]; rfl
      rw [this, List.map_id]
theorem put_fresh (x : It) : ∀ (L : List It), Asc L → (∀ y ∈ L, kc y ≠ kc x) → (L ++ [x]).Perm (putL x L)
  | [], _, _ => by simp [putL]
  | q :: t, ha, h => by
    have h1 := List.pairwise_cons.1 ha
    unfold putL
    by_cases e1 : kc q < kc x
    · rw [if_pos e1]
      exact (put_fresh x t h1.2 fun y hy => h y (by simp [hy])).cons q
    · rw [if_neg e1, if_neg (h q (by simp))]
      exact List.perm_append_singleton x (q :: t)
theorem there_iff (c : Nat) (L : List It) (ha : Asc L) : there c L = true ↔ ∃ y ∈ L, kc y = c := by
  constructor
  · intro h
    simp [there] at h
    exact ⟨_, by rw [atI_get L _ h.1]; exact List.getElem_mem h.1, h.2⟩
  · rintro ⟨y, hy, rfl⟩
    obtain ⟨j, hj, rfl⟩ := List.getElem_of_mem hy
    have h1 : pos (kc L[j]) L ≤ j := by
      rcases Nat.lt_or_ge j (pos (kc L[j]) L) with q | q
      · have := pos_lt _ L j q; rw [atI_get L j hj] at this; omega
      · exact q
    have h2 := pos_ge (kc L[j]) L ha (pos (kc L[j]) L) (Nat.le_refl _) (by omega)
    have h3 : kc (atI L (pos (kc L[j]) L)) ≤ kc L[j] := by
      rw [atI_get L _ (by omega)]
      rcases Nat.lt_or_ge (pos (kc L[j]) L) j with q | q
      · exact Nat.le_of_lt (List.pairwise_iff_getElem.1 ha _ _ (by omega) hj q)
      · have e : pos (kc L[j]) L = j := by omega
        simp [e]
    have h4 : kc (atI L (pos (kc L[j]) L)) = kc L[j] := by omega
    simp only [there, Bool.and_eq_true, decide_eq_true_eq]
    exact ⟨by omega, h4⟩
theorem put_perm {M : List Rt} {L : List It} (hp : M.Perm (L.map rOf)) (hG : Good L) (x y : Nat) (p q : Bool) (hx : Fl.W x) (hy : Fl.W y) (n most : Int) : (putM (Fl.rL x y p q) (Fl.rH x y p q) n most M).1 = (putR x y p q n most L).1 ∧ (putM (Fl.rL x y p q) (Fl.rH x y p q) n most M).2.Perm ((putR x y p q n most L).2.map rOf) := by
  have hf := Fl.cs_isForm x y p q hx hy
  unfold putM putR
  have hE : (Fl.rH x y p q < Fl.rL x y p q) ↔ Fl.csE x y p q = true := by
    unfold Fl.rH Fl.rL
    cases he : Fl.csE x y p q
    · rw [he] at hf
      have := (hf.2.2.2 rfl).2.2.2.2
      simp; omega
    · simp
  by_cases h1 : Fl.csE x y p q = true
  · rw [if_pos (hE.2 h1), if_pos h1]; exact ⟨rfl, hp⟩
  rw [if_neg (fun e => h1 (hE.1 e)), if_neg h1]
  have h1' : Fl.csE x y p q = false := by simpa using h1
  by_cases h2 : n < 1 ∨ 1099511627776 < n
  · rw [if_pos h2, if_pos h2]; exact ⟨rfl, hp⟩
  rw [if_neg h2, if_neg h2]
  rw [h1'] at hf
  have hl : Fl.rL x y p q = Fl.code (Fl.csU x y p q) := by unfold Fl.rL; rw [h1']; rfl
  have hh : Fl.rH x y p q = Fl.code (Fl.csV x y p q) := by unfold Fl.rH; rw [h1']; rfl
  rw [hl, hh, hp.length_eq, List.length_map, ← kc_new x y p q n h1']
  have hz : ∃ z : It, z = ⟨Fl.csU x y p q, Fl.csV x y p q, false, false, n⟩ := ⟨_, rfl⟩
  obtain ⟨z, hz⟩ := hz
  have hz1 : Fl.csU x y p q = z.a := by rw [hz]
  have hz2 : Fl.csV x y p q = z.b := by rw [hz]
  have hz3 : n = z.n := by rw [hz]
  rw [← hz, hz1, hz2, hz3]
  rw [hz1, hz2] at hf
  have hT : thereQ (Fl.code z.a) (Fl.code z.b) M = there (kc z) L := by
    rw [Bool.eq_iff_iff, there_iff _ L hG.1]
    unfold thereQ
    rw [List.any_eq_true]
    constructor
    · rintro ⟨r, hr, he⟩
      obtain ⟨y', hy', rfl⟩ := List.mem_map.1 (hp.mem_iff.1 hr)
      rw [isR_kc hf (hG.2 y' hy').1] at he
      exact ⟨y', hy', by simpa using he⟩
    · rintro ⟨y', hy', he⟩
      exact ⟨rOf y', hp.mem_iff.2 (List.mem_map.2 ⟨y', hy', rfl⟩), by rw [isR_kc hf (hG.2 y' hy').1]; simpa using he⟩
  have hM : (M.map (setQ (Fl.code z.a) (Fl.code z.b) z.n)).Perm ((L.map fun y' => if kc y' = kc z then withN y' (max y'.n z.n) else y').map rOf) := by
    have h := hp.map (setQ (Fl.code z.a) (Fl.code z.b) z.n)
    have e : (L.map rOf).map (setQ (Fl.code z.a) (Fl.code z.b) z.n) = (L.map fun y' => if kc y' = kc z then withN y' (max y'.n z.n) else y').map rOf := by
      rw [List.map_map, List.map_map]
      refine List.map_congr_left fun y' hy' => ?_
      show setQ _ _ _ (rOf y') = rOf _
      unfold setQ
      rw [isR_kc hf (hG.2 y' hy').1]
      by_cases k : kc y' = kc z
      · simp only [k, decide_true, if_true]; rfl
      · simp only [k, decide_false, Bool.false_eq_true, if_false]
    rw [e] at h
    exact h
  rw [hT]
  by_cases h3 : there (kc z) L = true
  · rw [if_pos h3, if_pos h3]
    refine ⟨rfl, ?_⟩
    dsimp only
    rw [put_map z L hG.1 ((there_iff _ L hG.1).1 h3)]
    exact hM
  · rw [if_neg h3, if_neg h3]
    have hno : ∀ y' ∈ L, kc y' ≠ kc z := fun y' hy' e => h3 ((there_iff _ L hG.1).2 ⟨y', hy', e⟩)
    by_cases h4 : most ≤ (L.length : Int)
    · rw [if_pos h4, if_pos h4]; exact ⟨rfl, hp⟩
    · rw [if_neg h4, if_neg h4]
      refine ⟨rfl, ?_⟩
      dsimp only
      have e : (L.map fun y' => if kc y' = kc z then withN y' (max y'.n z.n) else y') = L.map id := List.map_congr_left fun y' hy' => by rw [if_neg (hno y' hy')]; rfl
      rw [e, List.map_id] at hM
      have h5 := (put_fresh z L hG.1 hno).map rOf
      rw [List.map_append] at h5
      exact (hM.append_right _).trans h5
end Go.Proofs.Ytodoogcllahfgaa
