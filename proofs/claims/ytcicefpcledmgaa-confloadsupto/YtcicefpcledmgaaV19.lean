/- Configurations as lists: what Right asks, and what a change makes of them; plain. -/
import Derived.Test.YtcicefpcledmgaaV11
namespace Go.Proofs.Ytcicefpcledmgaa
open Go.RowKit Go.Lib
set_option linter.unusedVariables false
set_option linter.unusedSimpArgs false
set_option maxRecDepth 20000
theorem lsI_iff (f : Nat → Int) (x : Int) : ∀ n, x ∈ lsI f n ↔ ∃ i, i < n ∧ f i = x
  | 0 => by simp [lsI]
  | n + 1 => by
    unfold lsI
    rw [List.mem_append, lsI_iff f x n, List.mem_singleton]
    constructor
    · rintro (⟨i, hi, e⟩ | e)
      · exact ⟨i, by omega, e⟩
      · exact ⟨n, by omega, e.symm⟩
    · rintro ⟨i, hi, e⟩
      by_cases q : i < n
      · exact .inl ⟨i, q, e⟩
      · obtain rfl : i = n := by omega
        exact .inr e.symm
theorem hasK_iff (f : Nat → Int) (x : Int) (n : Nat) : hasK f x n = true ↔ x ∈ lsI f n := by
  unfold hasK
  rw [anyK_iff, lsI_iff]
  constructor
  · rintro ⟨i, hi, e⟩; exact ⟨i, hi, (by simpa using e : x = f i).symm⟩
  · rintro ⟨i, hi, e⟩; exact ⟨i, hi, by simp [e]⟩
/-- They rise, and are members' numbers. -/
def Rise (L : List Int) : Prop := L.Pairwise (· < ·) ∧ ∀ y ∈ L, 1 ≤ y ∧ y ≤ 7
theorem lsI_pw (f : Nat → Int) (n : Nat) (h : ∀ i j, i < j → j < n → f i < f j) : (lsI f n).Pairwise (· < ·) := by
  induction n with
  | zero => exact List.Pairwise.nil
  | succ n ih =>
    unfold lsI
    rw [List.pairwise_append]
    refine ⟨ih (fun i j h1 h2 => h i j h1 (by omega)), by simp, ?_⟩
    intro a ha b hb
    obtain ⟨i, hi, rfl⟩ := (lsI_iff f a n).1 ha
    obtain rfl : b = f n := by simpa using hb
    exact h i n hi (by omega)
theorem rise_of {f : Nat → Int} {n : Nat} (h : riK f n = true) : Rise (lsI f n) := by
  obtain ⟨a, b, _⟩ := riK_spec f n h
  exact ⟨lsI_pw f n b, riK_in f n h⟩
theorem rise_to {f : Nat → Int} : ∀ {n : Nat}, Rise (lsI f n) → riK f n = true
  | 0, _ => rfl
  | n + 1, h => by
    obtain ⟨p, q⟩ := h
    unfold lsI at p q
    rw [List.pairwise_append] at p
    have ih : riK f n = true := rise_to ⟨p.1, fun y hy => q y (List.mem_append_left _ hy)⟩
    have qn := q (f n) (by simp)
    have hl : lastK f n < f n := by
      cases n with
      | zero => simp [lastK]; omega
      | succ k => exact p.2.2 (f k) (lsI_mem f (k + 1) k (by omega)) (f (k + 1)) (by simp)
    unfold riK
    simp [ih, hl, qn.2]
/-- A right configuration. -/
def RightC (a b : List Int) : Prop := a ≠ [] ∧ Rise a ∧ Rise b ∧ ∀ y ∈ a, y ∉ b
theorem rightB_iff {n m : Nat} {f g : Nat → Int} : rightB n f m g = true ↔ RightC (lsI f n) (lsI g m) := by
  constructor
  · intro h
    obtain ⟨h0, h1, h2, h3⟩ := rightB_parts h
    refine ⟨fun e => ?_, rise_of h1, rise_of h2, fun y hy hz => ?_⟩
    · have := congrArg List.length e
      rw [lsI_len] at this
      simp at this
      omega
    · obtain ⟨i, hi, rfl⟩ := (lsI_iff f y n).1 hy
      have := (anyK_iff (fun i => hasK g (f i) m) n).2 ⟨i, hi, (hasK_iff g (f i) m).2 hz⟩
      rw [this] at h3
      cases h3
  · rintro ⟨h0, h1, h2, h3⟩
    have hn : 0 < n := by
      cases n with
      | zero => exact absurd rfl h0
      | succ k => omega
    have h4 : anyK (fun i => hasK g (f i) m) n = false := by
      cases e : anyK (fun i => hasK g (f i) m) n with
      | false => rfl
      | true =>
        obtain ⟨i, hi, q⟩ := (anyK_iff _ n).1 e
        exact absurd ((hasK_iff g (f i) m).1 q) (h3 _ (lsI_mem f n i hi))
    unfold rightB
    simp [hn, rise_to h1, rise_to h2, h4]
theorem keepX_mem (x y : Int) (L : List Int) : y ∈ keepX x L ↔ y ∈ L ∧ y ≠ x := by simp [keepX]
theorem keepX_rise {x : Int} {L : List Int} (h : Rise L) : Rise (keepX x L) := ⟨h.1.filter _, fun y hy => h.2 y ((keepX_mem x y L).1 hy).1⟩
theorem putS_cons (x h : Int) (t : List Int) (hp : (h :: t).Pairwise (· < ·)) : putS x (h :: t) = if h < x then h :: putS x t else x :: h :: t := by
  unfold putS insA
  by_cases q : h < x
  · rw [if_pos q, List.countP_cons_of_pos (by simpa using q)]
    simp
  · rw [if_neg q]
    have : (h :: t).countP (fun y => decide (y < x)) = 0 := by
      rw [List.countP_eq_zero]
      intro y hy
      rcases List.mem_cons.1 hy with rfl | hy
      · simpa using q
      · have := (List.pairwise_cons.1 hp).1 y hy
        simp
        omega
    rw [this]
    simp
theorem putS_mem (x y : Int) (L : List Int) : y ∈ putS x L ↔ y = x ∨ y ∈ L := by
  unfold putS insA
  rw [List.mem_append, List.mem_cons]
  constructor
  · rintro (h | h | h)
    · exact .inr (List.mem_of_mem_take h)
    · exact .inl h
    · exact .inr (List.mem_of_mem_drop h)
  · rintro (h | h)
    · exact .inr (.inl h)
    · rw [← List.take_append_drop (L.countP fun y => decide (y < x)) L] at h
      rcases List.mem_append.1 h with h | h
      · exact .inl h
      · exact .inr (.inr h)
theorem putS_pw (x : Int) : ∀ L : List Int, L.Pairwise (· < ·) → x ∉ L → (putS x L).Pairwise (· < ·)
  | [], _, _ => by simp [putS, insA]
  | h :: t, hp, hx => by
    rw [putS_cons x h t hp]
    have hp' := List.pairwise_cons.1 hp
    have hne : x ≠ h := fun e => hx (by rw [e]; simp)
    split
    · rename_i q
      refine List.pairwise_cons.2 ⟨fun y hy => ?_, putS_pw x t hp'.2 (fun e => hx (List.mem_cons_of_mem _ e))⟩
      rcases (putS_mem x y t).1 hy with rfl | hy
      · exact q
      · exact hp'.1 y hy
    · rename_i q
      refine List.pairwise_cons.2 ⟨fun y hy => ?_, hp⟩
      rcases List.mem_cons.1 hy with rfl | hy
      · omega
      · have := hp'.1 y hy
        omega
theorem putS_rise {x : Int} {L : List Int} (h : Rise L) (hx : x ∉ L) (h1 : 1 ≤ x) (h7 : x ≤ 7) : Rise (putS x L) :=
  ⟨putS_pw x L h.1 hx, fun y hy => by
    rcases (putS_mem x y L).1 hy with rfl | hy
    · exact ⟨h1, h7⟩
    · exact h.2 y hy⟩
theorem nxV_mem (k x y : Int) (L : List Int) : y ∈ nxV k x L ↔ (y = x ∧ k = 2) ∨ (y ≠ x ∧ y ∈ L) := by
  unfold nxV
  split
  · rename_i q; rw [putS_mem, keepX_mem]; by_cases e : y = x <;> simp [e, q]
  · rename_i q; rw [keepX_mem]; by_cases e : y = x <;> simp [e, q]
theorem nxL_mem (k x y : Int) (L : List Int) : y ∈ nxL k x L ↔ (y = x ∧ k = 1) ∨ (y ≠ x ∧ y ∈ L) := by
  unfold nxL
  split
  · rename_i q; rw [putS_mem, keepX_mem]; by_cases e : y = x <;> simp [e, q]
  · rename_i q; rw [keepX_mem]; by_cases e : y = x <;> simp [e, q]
theorem nxV_rise {k x : Int} {L : List Int} (h : Rise L) (h1 : 1 ≤ x) (h7 : x ≤ 7) : Rise (nxV k x L) := by
  unfold nxV
  split
  · exact putS_rise (keepX_rise h) (fun e => ((keepX_mem x x L).1 e).2 rfl) h1 h7
  · exact keepX_rise h
theorem nxL_rise {k x : Int} {L : List Int} (h : Rise L) (h1 : 1 ≤ x) (h7 : x ≤ 7) : Rise (nxL k x L) := by
  unfold nxL
  split
  · exact putS_rise (keepX_rise h) (fun e => ((keepX_mem x x L).1 e).2 rfl) h1 h7
  · exact keepX_rise h
/-- What a change that may be asks. -/
theorem flt_parts {n m : Nat} {f g : Nat → Int} {k x : Int} (h : fltC n f m g k x = 0) : rightB n f m g = true ∧ (1 ≤ k ∧ k ≤ 3) ∧ (1 ≤ x ∧ x ≤ 7) ∧ (k = 1 → x ∉ lsI f n ∧ x ∉ lsI g m) ∧ (k = 2 → x ∈ lsI g m) ∧ (k = 3 → (x ∈ lsI f n ∨ x ∈ lsI g m) ∧ (x ∈ lsI f n → n ≠ 1)) := by
  unfold fltC at h
  split at h
  · cases h
  · rename_i q
    simp only [not_or, Bool.not_eq_false, Int.not_lt] at q
    obtain ⟨q1, q2, q3, q4, q5⟩ := q
    refine ⟨q1, ⟨q2, q3⟩, ⟨q4, q5⟩, fun e => ?_, fun e => ?_, fun e => ?_⟩
    · subst e
      simp only [if_true] at h
      split at h
      · cases h
      · rename_i r
        unfold memB at r
        rw [Bool.or_eq_true, hasK_iff, hasK_iff] at r
        exact ⟨fun z => r (.inl z), fun z => r (.inr z)⟩
    · subst e
      simp only [show ¬ ((2 : Int) = 1) by decide, if_false, if_true] at h
      split at h
      · cases h
      · rename_i r
        exact (hasK_iff g x m).1 (by simpa using r)
    · subst e
      simp only [show ¬ ((3 : Int) = 1) by decide, show ¬ ((3 : Int) = 2) by decide, if_false] at h
      split at h
      · cases h
      · rename_i r
        split at h
        · cases h
        · rename_i t
          have r' : memB n f m g x = true := by simpa using r
          unfold memB at r'
          rw [Bool.or_eq_true, hasK_iff, hasK_iff] at r'
          exact ⟨r', fun z e => t ⟨(hasK_iff f x n).2 z, e⟩⟩
/-- A right configuration stays right by every change. -/
theorem next_right {n m : Nat} {f g : Nat → Int} {k x : Int} (h : fltC n f m g k x = 0) : RightC (nxV k x (lsI f n)) (nxL k x (lsI g m)) := by
  obtain ⟨hr, hk, hx, k1, k2, k3⟩ := flt_parts h
  obtain ⟨r0, r1, r2, r3⟩ := rightB_iff.1 hr
  refine ⟨fun e => ?_, nxV_rise r1 hx.1 hx.2, nxL_rise r2 hx.1 hx.2, fun y hy hz => ?_⟩
  · have hall : ∀ y, ¬ ((y = x ∧ k = 2) ∨ (y ≠ x ∧ y ∈ lsI f n)) := fun y hy => by
      have := (nxV_mem k x y (lsI f n)).2 hy
      rw [e] at this
      cases this
    have h2 : k ≠ 2 := fun e2 => hall x (.inl ⟨rfl, e2⟩)
    have hone : ∀ y ∈ lsI f n, y = x := fun y hy => by
      by_cases q : y = x
      · exact q
      · exact absurd (.inr ⟨q, hy⟩) (hall y)
    obtain ⟨y, hy⟩ := List.exists_mem_of_ne_nil _ r0
    have hxm : x ∈ lsI f n := by rw [← hone y hy]; exact hy
    by_cases q1 : k = 1
    · exact (k1 q1).1 hxm
    · have hn := (k3 (by omega)).2 hxm
      have hl := lsI_len f n
      have hn0 : 0 < n := by
        cases n with
        | zero => simp [lsI] at hxm
        | succ k => omega
      have e0 := hone (f 0) (lsI_mem f n 0 hn0)
      have e1 := hone (f 1) (lsI_mem f n 1 (by omega))
      have := (riK_spec f n (rightB_parts hr).2.1).2.1 0 1 (by omega) (by omega)
      omega
  · rcases (nxV_mem k x y _).1 hy with ⟨rfl, e1⟩ | ⟨n1, m1⟩ <;> rcases (nxL_mem k _ y _).1 hz with ⟨e2, e3⟩ | ⟨n2, m2⟩
    · omega
    · exact n2 rfl
    · exact n1 e2
    · exact r3 y m1 m2
end Go.Proofs.Ytcicefpcledmgaa
