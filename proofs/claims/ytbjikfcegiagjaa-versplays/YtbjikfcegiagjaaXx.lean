/- vers: the document's row and the program's are one but for the order; no condition. -/
import Derived.Test.YtbjikfcegiagjaaXu
import Derived.Test.YtbjikfcegiagjaaXv
import Derived.Test.YtbjikfcegiagjaaXw
import Derived.Test.YtbjikfcegiagjaaXr
namespace Go.Proofs.Ytbjikfcegiagjaa
set_option linter.unusedVariables false
set_option linter.unusedSimpArgs false
set_option maxRecDepth 20000
theorem atL_uni : ∀ (M : List It), (∀ x ∈ M, ∀ y ∈ M, kc x = kc y → x = y) → ∀ x ∈ M, atL (kc x) M = x.n
  | [], _, x, hx => by simp at hx
  | y :: t, h, x, hx => by
    unfold atL
    by_cases e : kc y = kc x
    · rw [if_pos e, h y (by simp) x hx e]
    · rw [if_neg e]
      rcases List.mem_cons.1 hx with rfl | q
      · exact absurd rfl e
      · exact atL_uni t (fun a ha b hb => h a (by simp [ha]) b (by simp [hb])) x q
theorem at_perm {M L : List It} (hp : M.Perm L) (ha : Asc L) (c : Nat) : atL c M = atL c L := by
  have hu := asc_one ha
  by_cases h : ∃ x ∈ L, kc x = c
  · obtain ⟨x, hx, rfl⟩ := h
    rw [atL_uni L hu x hx, atL_uni M (fun a ha' b hb => hu a (hp.mem_iff.1 ha') b (hp.mem_iff.1 hb)) x (hp.mem_iff.2 hx)]
  · rw [atL_none c L (fun x hx e => h ⟨x, hx, e⟩), atL_none c M (fun x hx e => h ⟨x, hp.mem_iff.1 hx, e⟩)]
theorem overV_ge0 (h : Nat → Bool) (L : List It) : ∀ j, 0 ≤ overT h L j
  | 0 => Int.le_refl _
  | j + 1 => by
    have := overV_ge0 h L j
    unfold overT
    split <;> omega
theorem overV_mono (h : Nat → Bool) (L : List It) : ∀ j i, i < j → h (atI L i).k = true → (atI L i).n ≤ overT h L j
  | 0, i, hi, _ => by omega
  | j + 1, i, hi, hh => by
    unfold overT
    by_cases e : i = j
    · subst e; rw [if_pos hh]; omega
    · have := overV_mono h L j i (by omega) hh
      split <;> omega
theorem overV_le (h : Nat → Bool) (L : List It) (B : Int) (hB : 0 ≤ B) : ∀ j, (∀ i, i < j → h (atI L i).k = true → (atI L i).n ≤ B) → overT h L j ≤ B
  | 0, _ => hB
  | j + 1, hh => by
    have := overV_le h L B hB j fun i hi => hh i (by omega)
    unfold overT
    split
    · rename_i hk; have := hh j (by omega) hk; omega
    · exact this
theorem overV_in (h : Nat → Bool) (L : List It) (z : It) (hz : z ∈ L) (hh : h z.k = true) : z.n ≤ overT h L L.length := by
  obtain ⟨j, hj, rfl⟩ := List.getElem_of_mem hz
  have := overV_mono h L L.length j hj (by rw [atI_get _ j hj]; exact hh)
  rw [atI_get _ j hj] at this
  exact this
theorem overV_sub (h : Nat → Bool) (M L : List It) (hs : ∀ x ∈ M, x ∈ L) : overT h M M.length ≤ overT h L L.length :=
  overV_le h M _ (overV_ge0 h L _) _ fun i hi hh => overV_in h L (atI M i) (hs _ (by rw [atI_get M i hi]; exact List.getElem_mem hi)) hh
theorem over_perm {M L : List It} (hp : M.Perm L) (h : Nat → Bool) : overT h M M.length = overT h L L.length :=
  Int.le_antisymm (overV_sub h M L fun x hx => hp.mem_iff.1 hx) (overV_sub h L M fun x hx => hp.mem_iff.2 hx)
theorem keep_perm {M L : List It} (hp : M.Perm L) (m : Int) : (keepL m M).Perm (keepL m L) := hp.filter _
theorem off_id (c : Nat) (L : List It) (h : ∀ y ∈ L, kc y ≠ c) : offK c L = L := List.filter_eq_self.2 fun y hy => by simp [h y hy]
theorem put_off (x : It) : ∀ (L : List It), Asc L → (∀ y ∈ L, kc y = kc x → y.n < x.n ∧ withN y x.n = x) → (offK (kc x) L ++ [x]).Perm (putL x L)
  | [], _, _ => by simp [offK, putL]
  | q :: t, ha, h => by
    have h1 := List.pairwise_cons.1 ha
    unfold putL
    by_cases e1 : kc q < kc x
    · rw [if_pos e1]
      have e : offK (kc x) (q :: t) = q :: offK (kc x) t := by
        unfold offK; rw [List.filter_cons_of_pos]; simp; omega
      rw [e, List.cons_append]
      exact (put_off x t h1.2 fun y hy => h y (by simp [hy])).cons q
    · rw [if_neg e1]
      by_cases e2 : kc q = kc x
      · rw [if_pos e2]
        have e : offK (kc x) (q :: t) = t := by
          unfold offK
          rw [List.filter_cons_of_neg (by simp [e2])]
          exact off_id _ t fun y hy => by have := h1.1 y hy; omega
        obtain ⟨g1, g2⟩ := h q (by simp) e2
        rw [e, Int.max_eq_right (by omega), g2]
        exact List.perm_append_singleton x t
      · rw [if_neg e2]
        have e : offK (kc x) (q :: t) = q :: t := off_id _ _ fun y hy => by
          rcases List.mem_cons.1 hy with rfl | r
          · exact e2
          · have := h1.1 y r; omega
        rw [e]
        exact List.perm_append_singleton x (q :: t)
theorem put_same (x : It) : ∀ (L : List It), Asc L → (∃ y ∈ L, kc y = kc x ∧ x.n ≤ y.n) → putL x L = L
  | [], _, h => by obtain ⟨y, hy, _⟩ := h; simp at hy
  | q :: t, ha, h => by
    have h1 := List.pairwise_cons.1 ha
    obtain ⟨y, hy, hk, hn⟩ := h
    unfold putL
    rcases List.mem_cons.1 hy with rfl | r
    · rw [if_neg (by omega), if_pos hk, Int.max_eq_left hn]; rfl
    · have := h1.1 y r
      rw [if_pos (by omega), put_same x t h1.2 ⟨y, r, hk, hn⟩]
theorem put_perm {M L : List It} (hp : M.Perm L) (hG : Good L) (key : Nat) (hk : Fl.W key) (n most : Int) : (putM key n most M).1 = (putR key n most L).1 ∧ (putM key n most M).2.Perm (putR key n most L).2 := by
  unfold putM putR
  rw [at_perm hp hG.1, hp.length_eq]
  by_cases h1 : Fl.nan key = true
  · rw [if_pos h1, if_pos h1]; exact ⟨rfl, hp⟩
  rw [if_neg h1, if_neg h1]
  by_cases h2 : n < 1 ∨ 1099511627776 < n
  · rw [if_pos h2, if_pos h2]; exact ⟨rfl, hp⟩
  rw [if_neg h2, if_neg h2]
  have hkx : kc ⟨Fl.canon key, n⟩ = Fl.code key := Fl.code_canon key
  have hw : ∀ y ∈ L, kc y = Fl.code key → withN y n = ⟨Fl.canon key, n⟩ := fun y hy e => by
    have g := hG.2 y hy
    have : y.k = Fl.canon key := by rw [← g.2.2.1, ← Fl.of_code y.k g.1, ← Fl.of_code key hk]; exact congrArg Fl.of e
    show (⟨y.k, n⟩ : It) = _
    rw [this]
  have ho : (offK (Fl.code key) M).Perm (offK (Fl.code key) L) := hp.filter _
  have hap := atL_pos L (Fl.code key) hG.1
  by_cases h3 : there (Fl.code key) L = true
  · have hpl : pos (Fl.code key) L < L.length := by simp [there] at h3; exact h3.1
    have hkp : kc (atI L (pos (Fl.code key) L)) = Fl.code key := by simp [there] at h3; exact h3.2
    rw [if_pos ⟨hpl, hkp⟩] at hap
    have g := hG.at _ hpl
    have hmem : atI L (pos (Fl.code key) L) ∈ L := by rw [atI_get L _ hpl]; exact List.getElem_mem hpl
    rw [if_pos h3, if_neg (by omega)]
    by_cases h4 : n ≤ atL (Fl.code key) L
    · rw [if_pos h4]
      refine ⟨rfl, ?_⟩
      dsimp only
      rw [put_same _ L hG.1 ⟨_, hmem, hkp.trans hkx.symm, by rw [← hap]; exact h4⟩]
      exact hp
    · rw [if_neg h4]
      refine ⟨rfl, (ho.append_right _).trans ?_⟩
      have := put_off ⟨Fl.canon key, n⟩ L hG.1 fun y hy e => ⟨by
        have : y = atI L (pos (Fl.code key) L) := asc_one hG.1 y hy _ hmem (by rw [e, hkx, hkp])
        rw [this, ← hap]
        show _ < n
        omega, hw y hy (e.trans hkx)⟩
      rwa [hkx] at this
  · have hno : ∀ y ∈ L, kc y ≠ Fl.code key := fun y hy e => by
      have q := atL_uni L (asc_one hG.1) y hy
      rw [e, hap] at q
      by_cases r : pos (Fl.code key) L < L.length ∧ kc (atI L (pos (Fl.code key) L)) = Fl.code key
      · exact h3 (by simp [there, r.1, r.2])
      · rw [if_neg r] at q
        have := (hG.2 y hy).2.2.2.1
        omega
    have h0 : atL (Fl.code key) L = 0 := atL_none _ L hno
    rw [if_neg h3, h0]
    by_cases h4 : most ≤ (L.length : Int)
    · rw [if_pos ⟨rfl, h4⟩, if_pos h4]; exact ⟨rfl, hp⟩
    · rw [if_neg (fun e => h4 e.2), if_neg h4, if_neg (by omega)]
      refine ⟨rfl, (ho.append_right _).trans ?_⟩
      have := put_off ⟨Fl.canon key, n⟩ L hG.1 fun y hy e => absurd (e.trans hkx) (hno y hy)
      rwa [hkx] at this
theorem cnt_asc : ∀ (L : List It), Asc L → ∀ j (hj : j < L.length), cntM L L[j] = j
  | [], _, j, hj => by simp at hj
  | x :: t, ha, 0, hj => by
    have h1 := List.pairwise_cons.1 ha
    unfold cntM
    rw [List.countP_eq_zero]
    intro y hy
    rcases List.mem_cons.1 hy with rfl | r
    · simp
    · have := h1.1 y r; simp; omega
  | x :: t, ha, j + 1, hj => by
    have h1 := List.pairwise_cons.1 ha
    have hj' : j < t.length := by simpa using hj
    have ih := cnt_asc t h1.2 j hj'
    have := h1.1 _ (List.getElem_mem hj')
    unfold cntM at ih ⊢
    rw [List.getElem_cons_succ, List.countP_cons, ih]
    simp [this]
theorem filter_idx (c : It → Nat) : ∀ (L : List It) (off : Nat), (∀ j (hj : j < L.length), c L[j] = j + off) → ∀ i (hi : i < L.length), L.filter (fun x => decide (c x = i + off)) = [L[i]]
  | [], _, _, i, hi => by simp at hi
  | x :: t, off, h, 0, hi => by
    have h0 : c x = off := by have := h 0 (by simp); simpa using this
    rw [List.filter_cons_of_pos (by simp [h0])]
    have : t.filter (fun x => decide (c x = 0 + off)) = [] := by
      rw [List.filter_eq_nil_iff]
      intro y hy
      obtain ⟨j, hj, rfl⟩ := List.getElem_of_mem hy
      have := h (j + 1) (by simpa using hj)
      rw [List.getElem_cons_succ] at this
      simp; omega
    rw [this]; rfl
  | x :: t, off, h, i + 1, hi => by
    have h0 : c x = off := by have := h 0 (by simp); simpa using this
    rw [List.filter_cons_of_neg (by simp [h0])]
    have := filter_idx c t (off + 1) (fun j hj => by have := h (j + 1) (by simpa using hj); rw [List.getElem_cons_succ] at this; omega) i (by simpa using hi)
    rw [show i + 1 + off = i + (off + 1) by omega, this, List.getElem_cons_succ]
theorem sel_perm {M L : List It} (hp : M.Perm L) (ha : Asc L) (i : Nat) (hi : i < L.length) : selM M i M.length = [L[i]] := by
  have hc : ∀ x, cntM M x = cntM L x := fun x => hp.countP_eq _
  have h1 : selM M i M.length = M.filter fun x => decide (cntM L x = i) := by
    unfold selM
    rw [List.take_length]
    simp only [hc]
  have h2 := hp.filter fun x => decide (cntM L x = i)
  have h3 := filter_idx (cntM L) L 0 (fun j hj => by rw [cnt_asc L ha j hj]; rfl) i hi
  simp only [Nat.add_zero] at h3
  rw [h3] at h2
  rw [h1]
  exact List.perm_singleton.1 h2
theorem out_perm {M L : List It} (hp : M.Perm L) (ha : Asc L) : outM M M.length = L := by
  have : ∀ i, i ≤ L.length → outM M i = L.take i := by
    intro i
    induction i with
    | zero => intro _; simp [outM]
    | succ i ih =>
      intro hi
      rw [outM, ih (by omega), sel_perm hp ha i (by omega), List.take_succ_eq_append_getElem (by omega)]
  rw [this _ (by rw [hp.length_eq]; exact Nat.le_refl _), hp.length_eq, List.take_length]
end Go.Proofs.Ytbjikfcegiagjaa
