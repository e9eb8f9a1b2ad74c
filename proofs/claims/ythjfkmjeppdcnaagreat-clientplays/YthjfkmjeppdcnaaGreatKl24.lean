/- The document's client beside the program's, plain: what Add and Heard make of both; no walk. -/
import Derived.Test.YthjfkmjeppdcnaaGreatKl23
namespace Go.Proofs.YthjfkmjeppdcnaaGreat
open Go.RowKit Go.Lib
set_option linter.unusedVariables false
set_option linter.unusedSimpArgs false
set_option maxRecDepth 20000
theorem nx_low (M : List Int) (t : Int) (k : Nat) (h : ∀ j, j < M.length → M.getD j 0 = t → j = k) : ∀ i, i ≤ k → i ≤ M.length → nxR M t i = M.getD 0 0
 | 0, _, _ => rfl
 | i + 1, h1, h2 => by
  have e : ¬ M.getD i 0 = t := fun q => by have := h i (by omega) q; omega
  show (if M.getD i 0 = t then M.getD (i + 1) 0 else nxR M t i) = _
  rw [if_neg e]
  exact nx_low M t k h i (by omega) (by omega)
theorem nx_high (M : List Int) (t : Int) (k : Nat) (hk : M.getD k 0 = t) (h : ∀ j, j < M.length → M.getD j 0 = t → j = k) : ∀ i, k < i → i ≤ M.length → nxR M t i = M.getD (k + 1) 0
 | 0, h1, _ => by omega
 | i + 1, h1, h2 => by
  show (if M.getD i 0 = t then M.getD (i + 1) 0 else nxR M t i) = _
  by_cases e : M.getD i 0 = t
  ·rw [if_pos e, h i (by omega) e]
  ·rw [if_neg e]
   have : k ≠ i := fun q => e (q ▸ hk)
   exact nx_high M t k hk h i (by omega) (by omega)
theorem ms_uniq {M : List Int} (h : M.Pairwise (· < ·)) {i j : Nat} (hi : i < M.length) (hj : j < M.length) (e : M.getD i 0 = M.getD j 0) : i = j := by
 rw [List.getD_eq_getElem?_getD, List.getD_eq_getElem?_getD, List.getElem?_eq_getElem hi, List.getElem?_eq_getElem hj] at e
 simp only [Option.getD_some] at e
 rcases Nat.lt_trichotomy i j with q | q | q
 ·have := List.pairwise_iff_getElem.1 h i j hi hj q; omega
 ·exact q
 ·have := List.pairwise_iff_getElem.1 h j i hj hi q; omega
theorem nx_tgt {s : Cs} (h : CsOk s) : nxR s.ms (tgt s) (s.ms.length - 1) = s.ms.getD ((s.tg + 1) % s.ms.length) 0 := by
 have hu : ∀ j, j < s.ms.length → s.ms.getD j 0 = tgt s → j = s.tg := fun j hj e => ms_uniq h.mu hj h.tg e
 have ht := h.tg
 by_cases q : s.tg = s.ms.length - 1
 ·rw [nx_low s.ms (tgt s) s.tg hu _ (by omega) (by omega), show (s.tg + 1) % s.ms.length = 0 from by rw [show s.tg + 1 = s.ms.length from by omega]; exact Nat.mod_self _]
 ·rw [nx_high s.ms (tgt s) s.tg rfl hu _ (by omega) (by omega), Nat.mod_eq_of_lt (by omega)]
theorem hasR_iff (M : List Int) (x : Int) : hasR M x = true ↔ ∃ i, i < M.length ∧ M.getD i 0 = x := by
 constructor
 ·intro q
  obtain ⟨i, hi, e⟩ := (Ci.anyK_iff _ M.length).1 (show Ci.anyK _ M.length = true from q)
  simp at e
  exact ⟨i, hi, by simpa using e.symm⟩
 ·rintro ⟨i, hi, e⟩
  exact hasK_yes hi e
theorem lsO_dlo : ∀ (D : List Dt) (O : List (Int × Sb)), D.map (fun d => (d.q, d.B)) = O.map (fun p => (p.1, p.2.enc)) → lsO O = dlo D
 | [], [], _ => rfl
 | d :: D, p :: O, h => by
  simp only [List.map_cons, List.cons.injEq, Prod.mk.injEq] at h
  exact h.1.1.symm
 | [], p :: O, h => by simp at h
 | d :: D, [], h => by simp at h
theorem addK_ra {s : Cs} {D : List Dt} (h : D.map (fun d => (d.q, d.B)) = s.op.map (fun p => (p.1, p.2.enc))) (x : Sb) : raK s.ss s.la D x = addK s x := by
 have hl : D.length = s.op.length := by have := congrArg List.length h; simpa using this
 unfold raK addK
 rw [← lsO_dlo D s.op h, hl]
 rfl
theorem all_ne (q : Int) : ∀ (D : List Dt) (O : List (Int × Sb)), D.map (fun d => (d.q, d.B)) = O.map (fun p => (p.1, p.2.enc)) → ((∀ d ∈ D, d.q ≠ q) ↔ ∀ p ∈ O, p.1 ≠ q)
 | [], [], _ => by simp
 | d :: D, p :: O, h => by
  simp only [List.map_cons, List.cons.injEq, Prod.mk.injEq] at h
  rw [List.forall_mem_cons, List.forall_mem_cons, h.1.1, all_ne q D O h.2]
 | [], p :: O, h => by simp at h
 | d :: D, [], h => by simp at h
theorem flD_op (q : Int) : ∀ (D : List Dt) (O : List (Int × Sb)), D.map (fun d => (d.q, d.B)) = O.map (fun p => (p.1, p.2.enc)) → (flD q D).map (fun d => (d.q, d.B)) = (O.filter fun p => decide (p.1 ≠ q)).map (fun p => (p.1, p.2.enc))
 | [], [], _ => rfl
 | d :: D, p :: O, h => by
  simp only [List.map_cons, List.cons.injEq, Prod.mk.injEq] at h
  have ih := flD_op q D O h.2
  unfold flD at ih ⊢
  rw [List.filter_cons, List.filter_cons, h.1.1]
  by_cases e : p.1 ≠ q
  ·rw [if_pos (by simpa using e), if_pos (by simpa using e), List.map_cons, List.map_cons, ih, h.1.1, h.1.2]
  ·rw [if_neg (by simpa using e), if_neg (by simpa using e), ih]
 | [], p :: O, h => by simp at h
 | d :: D, [], h => by simp at h
theorem tgR_heard {s : Cs} (h : CsOk s) (q vc vn e lead : Int) (k : Nat) (hk : LdAt s lead k) (hq : ¬ ∀ p ∈ s.op, p.1 ≠ q) (he : e ≠ 0) : tgR s.ms (tgt s) e lead = tgt (heardC s q vc vn e k) := by
 unfold heardC tgR
 rw [if_neg hq, if_neg he]
 by_cases e1 : e = 181
 ·subst e1
  rw [if_pos rfl, if_neg (fun z => absurd z.1 (by decide)), if_pos rfl]
 ·rw [if_neg e1]
  by_cases e2 : e = 180
  ·subst e2
   rcases hk with ⟨k1, k2⟩ | ⟨k1, k2⟩
   ·rw [if_pos ⟨rfl, (hasR_iff s.ms lead).2 ⟨k, k1, k2⟩⟩, if_pos ⟨rfl, k1⟩]
    exact k2.symm
   ·rw [if_neg (fun z => by obtain ⟨i, hi, y⟩ := (hasR_iff s.ms lead).1 z.2; exact k2 i hi y), if_neg (fun z => by omega), if_neg e1]
    exact nx_tgt h
  ·rw [if_neg (fun z => e2 z.1), if_neg (fun z => e2 z.1), if_neg e1]
   exact nx_tgt h
theorem mk_enc (s : Sb) (p1 p2 p3 : Option Addr) (q1 q2 q3 : Nat) : (mkC s p1 p2 p3 q1 q2 q3).enc = (mkC s none none none 0 0 0).enc := rfl
theorem heardC_ms (s : Cs) (q vc vn e : Int) (k : Nat) : (heardC s q vc vn e k).ms = s.ms ∧ (heardC s q vc vn e k).ss = s.ss ∧ (heardC s q vc vn e k).la = s.la := by
 unfold heardC
 split
 ·exact ⟨rfl, rfl, rfl⟩
 ·split
  ·exact ⟨rfl, rfl, rfl⟩
  ·split
   ·exact ⟨rfl, rfl, rfl⟩
   ·split <;> exact ⟨rfl, rfl, rfl⟩
end Go.Proofs.YthjfkmjeppdcnaaGreat
