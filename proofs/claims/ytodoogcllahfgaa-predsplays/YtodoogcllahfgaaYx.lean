/- preds: the document's row in order is the program's; no condition. -/
import Derived.Test.YtodoogcllahfgaaYu
import Derived.Test.YtodoogcllahfgaaYv
import Derived.Test.YtodoogcllahfgaaYw
namespace Go.Proofs.Ytodoogcllahfgaa
set_option linter.unusedVariables false
set_option linter.unusedSimpArgs false
set_option maxRecDepth 20000
def AscR (L : List Rt) : Prop := L.Pairwise fun x y => kR x < kR y
theorem asc_map {L : List It} (h : Asc L) : AscR (L.map rOf) := List.pairwise_map.2 (h.imp fun {a b} q => q)
theorem rf_good {M : List Rt} {L : List It} (hp : M.Perm (L.map rOf)) (hG : Good L) : ∀ x ∈ M, RF x := fun x hx => by
  obtain ⟨y, hy, rfl⟩ := List.mem_map.1 (hp.mem_iff.1 hx)
  exact ⟨y.a, y.b, (hG.2 y hy).1, rfl, rfl⟩
theorem cnt_asc : ∀ (L : List Rt), AscR L → ∀ j (hj : j < L.length), cntM L L[j] = j
  | [], _, j, hj => by simp at hj
  | x :: t, ha, 0, hj => by
    have h1 := List.pairwise_cons.1 ha
    unfold cntM
    rw [List.countP_eq_zero]
    intro y hy
    rcases List.mem_cons.1 hy with rfl | r
    · simp
    · have := h1.1 y r; simp; omega
  | x :: t, ha, j + 1, hj => by
    have h1 := List.pairwise_cons.1 ha
    have hj' : j < t.length := by simpa using hj
    have ih := cnt_asc t h1.2 j hj'
    have := h1.1 _ (List.getElem_mem hj')
    unfold cntM at ih ⊢
    rw [List.getElem_cons_succ, List.countP_cons, ih]
    simp [this]
theorem filter_idx (c : Rt → Nat) : ∀ (L : List Rt) (off : Nat), (∀ j (hj : j < L.length), c L[j] = j + off) → ∀ i (hi : i < L.length), L.filter (fun x => decide (c x = i + off)) = [L[i]]
  | [], _, _, i, hi => by simp at hi
  | x :: t, off, h, 0, hi => by
    have h0 : c x = off := by have := h 0 (by simp); simpa using this
    rw [List.filter_cons_of_pos (by simp [h0])]
    have : t.filter (fun x => decide (c x = 0 + off)) = [] := by
      rw [List.filter_eq_nil_iff]
      intro y hy
      obtain ⟨j, hj, rfl⟩ := List.getElem_of_mem hy
      have := h (j + 1) (by simpa using hj)
      rw [List.getElem_cons_succ] at this
      simp; omega
    rw [this]; rfl
  | x :: t, off, h, i + 1, hi => by
    have h0 : c x = off := by have := h 0 (by simp); simpa using this
    rw [List.filter_cons_of_neg (by simp [h0])]
    have := filter_idx c t (off + 1) (fun j hj => by have := h (j + 1) (by simpa using hj); rw [List.getElem_cons_succ] at this; omega) i (by simpa using hi)
    rw [show i + 1 + off = i + (off + 1) by omega, this, List.getElem_cons_succ]
theorem sel_perm {M L : List Rt} (hp : M.Perm L) (ha : AscR L) (i : Nat) (hi : i < L.length) : selM M i M.length = [L[i]] := by
  have hc : ∀ x, cntM M x = cntM L x := fun x => hp.countP_eq _
  have h1 : selM M i M.length = M.filter fun x => decide (cntM L x = i) := by
    unfold selM
    rw [List.take_length]
    simp only [hc]
  have h2 := hp.filter fun x => decide (cntM L x = i)
  have h3 := filter_idx (cntM L) L 0 (fun j hj => by rw [cnt_asc L ha j hj]; rfl) i hi
  simp only [Nat.add_zero] at h3
  rw [h3] at h2
  rw [h1]
  exact List.perm_singleton.1 h2
theorem outR_perm {M L : List Rt} (hp : M.Perm L) (ha : AscR L) : outM M M.length = L := by
  have : ∀ i, i ≤ L.length → outM M i = L.take i := by
    intro i
    induction i with
    | zero => intro _; simp [outM]
    | succ i ih =>
      intro hi
      rw [outM, ih (by omega), sel_perm hp ha i (by omega), List.take_succ_eq_append_getElem (by omega)]
  rw [this _ (by rw [hp.length_eq]; exact Nat.le_refl _), hp.length_eq, List.take_length]
theorem out_perm {M : List Rt} {L : List It} (hp : M.Perm (L.map rOf)) (ha : Asc L) : outM M M.length = L.map rOf := outR_perm hp (asc_map ha)
end Go.Proofs.Ytodoogcllahfgaa
