/- Two quorums have a voter in common, also across one change; plain. -/
import Derived.Test.YtcicefpcledmgaaV13
import Derived.Test.YtcicefpcledmgaaV21
namespace Go.Proofs.Ytcicefpcledmgaa
open Go.RowKit Go.Lib
set_option linter.unusedVariables false
set_option linter.unusedSimpArgs false
set_option maxRecDepth 20000
theorem cnt_ls (f : Nat → Int) (q : Int → Bool) : ∀ n, cntK f q n = (lsI f n).countP q
  | 0 => rfl
  | n + 1 => by
    unfold cntK lsI
    rw [List.countP_append, ← cnt_ls f q n, List.countP_singleton]
theorem cnt_two (p q : Int → Bool) : ∀ L : List Int, L.countP p + L.countP q ≤ L.length + L.countP (fun x => p x && q x)
  | [] => by simp
  | a :: t => by
    have ih := cnt_two p q t
    rw [List.countP_cons, List.countP_cons, List.countP_cons, List.length_cons]
    cases h1 : p a <;> cases h2 : q a <;> simp <;> omega
theorem common_of {p q : Int → Bool} {L : List Int} (h : L.length < L.countP p + L.countP q) : ∃ x, x ∈ L ∧ p x = true ∧ q x = true := by
  have h2 := cnt_two p q L
  have h3 : 0 < L.countP (fun x => p x && q x) := by omega
  obtain ⟨x, hx, e⟩ := List.countP_pos_iff.1 h3
  rw [Bool.and_eq_true] at e
  exact ⟨x, hx, e.1, e.2⟩
theorem putS_perm (x : Int) (L : List Int) : (putS x L).Perm (x :: L) := by
  unfold putS insA
  refine List.perm_middle.trans ?_
  rw [List.take_append_drop]
theorem keepX_not {x : Int} {L : List Int} (h : x ∉ L) : keepX x L = L := by
  unfold keepX
  rw [List.filter_eq_self]
  intro y hy
  have : y ≠ x := fun e => h (e ▸ hy)
  simpa using this
theorem keepX_one {x : Int} : ∀ {L : List Int}, L.Pairwise (· < ·) → x ∈ L → L.Perm (x :: keepX x L)
  | [], _, h => by simp at h
  | a :: t, hp, h => by
    have hp' := List.pairwise_cons.1 hp
    by_cases e : a = x
    · subst e
      have hn : a ∉ t := fun hm => by have := hp'.1 a hm; omega
      have e2 : keepX a (a :: t) = t := by
        unfold keepX
        rw [List.filter_cons_of_neg (by simp)]
        exact keepX_not hn
      rw [e2]
    · have h' : x ∈ t := by
        rcases List.mem_cons.1 h with h | h
        · exact absurd h.symm e
        · exact h
      have e2 : keepX x (a :: t) = a :: keepX x t := by
        unfold keepX
        rw [List.filter_cons_of_pos (by simpa using e)]
      rw [e2]
      exact ((keepX_one hp'.2 h').cons a).trans (List.Perm.swap _ _ _)
theorem meets {k x : Int} {L : List Int} (hp : L.Pairwise (· < ·)) (h2 : k = 2 → x ∉ L) (p q : Int → Bool) (a : L.length / 2 < L.countP p) (b : (nxV k x L).length / 2 < (nxV k x L).countP q) : ∃ y, y ∈ L ∧ y ∈ nxV k x L ∧ p y = true ∧ q y = true := by
  by_cases hk : k = 2
  · have e : nxV k x L = putS x L := by
      unfold nxV
      rw [if_pos hk, keepX_not (h2 hk)]
    rw [e] at b ⊢
    have pm := putS_perm x L
    have l := pm.length_eq
    have c := pm.countP_eq q
    rw [List.countP_cons] at c
    rw [List.length_cons] at l
    obtain ⟨y, hy, py, qy⟩ := common_of (p := p) (q := q) (L := L) (by split at c <;> omega)
    exact ⟨y, hy, (putS_mem x y L).2 (.inr hy), py, qy⟩
  · have e : nxV k x L = keepX x L := by
      unfold nxV
      rw [if_neg hk]
    rw [e] at b ⊢
    by_cases hx : x ∈ L
    · have pm := keepX_one hp hx
      have l := pm.length_eq
      have c := pm.countP_eq p
      rw [List.countP_cons] at c
      rw [List.length_cons] at l
      obtain ⟨y, hy, py, qy⟩ := common_of (p := p) (q := q) (L := keepX x L) (by split at c <;> omega)
      exact ⟨y, ((keepX_mem x y L).1 hy).1, hy, py, qy⟩
    · rw [keepX_not hx] at b ⊢
      obtain ⟨y, hy, py, qy⟩ := common_of (p := p) (q := q) (L := L) (by omega)
      exact ⟨y, hy, hy, py, qy⟩
/-- Who of the first so many of one row is in the other one too, and votes. -/
def pairK (P : Nat → Nat → Bool) (k2 : Nat) (i : Nat) : Bool := anyK (fun i => anyK (P i) k2) i
theorem pairK_succ (P : Nat → Nat → Bool) (k2 i : Nat) : pairK P k2 (i + 1) = (pairK P k2 i || anyK (P i) k2) := rfl
theorem pairK_iff (P : Nat → Nat → Bool) (k1 k2 : Nat) : pairK P k2 k1 = true ↔ ∃ i j, i < k1 ∧ j < k2 ∧ P i j = true := by
  unfold pairK
  rw [anyK_iff]
  constructor
  · rintro ⟨i, hi, e⟩
    obtain ⟨j, hj, e2⟩ := (anyK_iff _ _).1 e
    exact ⟨i, j, hi, hj, e2⟩
  · rintro ⟨i, j, hi, hj, e⟩
    exact ⟨i, hi, (anyK_iff _ _).2 ⟨j, hj, e⟩⟩
/-- Two quorums of one configuration. -/
theorem quo_one {n k1 k2 : Nat} {f o t : Nat → Int} (a : n / 2 < cntK f (fun x => (lsI o k1).contains x) n) (b : n / 2 < cntK f (fun x => (lsI t k2).contains x) n) : pairK (fun i j => o i == t j && hasK f (o i) n) k2 k1 = true := by
  rw [cnt_ls] at a b
  obtain ⟨y, hy, py, qy⟩ := common_of (p := fun x => (lsI o k1).contains x) (q := fun x => (lsI t k2).contains x) (L := lsI f n) (by rw [lsI_len]; omega)
  rw [List.contains_iff_mem] at py qy
  obtain ⟨i, hi, ei⟩ := (lsI_iff o y k1).1 py
  obtain ⟨j, hj, ej⟩ := (lsI_iff t y k2).1 qy
  refine (pairK_iff _ _ _).2 ⟨i, j, hi, hj, ?_⟩
  simp only [ei, ej, beq_self_eq_true, Bool.true_and]
  exact (hasK_iff f y n).2 hy
/-- Two quorums of configurations that are one change apart. -/
theorem quo_two {n m k1 k2 : Nat} {f g o t : Nat → Int} {k x : Int} (hF : fltC n f m g k x = 0) (a : n / 2 < cntK f (fun x => (lsI o k1).contains x) n) (b : (nxV k x (lsI f n)).length / 2 < cntK (gI (nxV k x (lsI f n))) (fun x => (lsI t k2).contains x) (nxV k x (lsI f n)).length) : pairK (fun i j => o i == t j && hasK f (o i) n && hasK (gI (nxV k x (lsI f n))) (o i) (nxV k x (lsI f n)).length) k2 k1 = true := by
  obtain ⟨hr, _, _, _, hk2, _⟩ := flt_parts hF
  obtain ⟨_, r1, _, r3⟩ := rightB_iff.1 hr
  rw [cnt_ls] at a b
  rw [lsI_gI] at b
  obtain ⟨y, hy, hz, py, qy⟩ := meets (k := k) (x := x) (L := lsI f n) r1.1 (fun e h => r3 x h (hk2 e)) (fun x => (lsI o k1).contains x) (fun x => (lsI t k2).contains x) (by rw [lsI_len]; exact a) b
  rw [List.contains_iff_mem] at py qy
  obtain ⟨i, hi, ei⟩ := (lsI_iff o y k1).1 py
  obtain ⟨j, hj, ej⟩ := (lsI_iff t y k2).1 qy
  refine (pairK_iff _ _ _).2 ⟨i, j, hi, hj, ?_⟩
  simp only [ei, ej, beq_self_eq_true, Bool.true_and, Bool.and_eq_true]
  exact ⟨(hasK_iff f y n).2 hy, (hasG _ y).2 hz⟩
end Go.Proofs.Ytcicefpcledmgaa
