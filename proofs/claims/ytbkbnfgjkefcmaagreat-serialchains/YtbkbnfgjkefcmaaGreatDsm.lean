/- The document's Sort, as plain facts: its numbers are in order, each once, and just the forms of those that were given; no condition. -/
import Derived.Test.YtbkbnfgjkefcmaaGreatOum
import Derived.Test.YtbkbnfgjkefcmaaGreatDp
namespace Go.Proofs.YtbkbnfgjkefcmaaGreat
namespace Fl
def ins (x : Nat) : List Nat → List Nat
  | [] => [canon x]
  | y :: r => if code x < code y then canon x :: y :: r else if code x = code y then y :: r else y :: ins x r
theorem insG_true (x : Nat) : ∀ L, insG x true L = (L, true)
  | [] => rfl
  | y :: r => by unfold insG; simp [insG_true x r]
theorem insL_ins (x : Nat) : ∀ L, insL x L = ins x L
  | [] => rfl
  | y :: r => by
    have ih := insL_ins x r
    unfold insL at ih ⊢
    unfold ins insG
    by_cases h1 : code x < code y
    · rw [if_pos h1]
      simp [h1, show code x ≤ code y by omega, insG_true]
    · rw [if_neg h1]
      by_cases h2 : code x = code y
      · rw [if_pos h2]
        simp [show code x ≤ code y by omega, show ¬ code x < code y from h1, insG_true]
      · rw [if_neg h2, ← ih]
        simp only [show ¬ code x ≤ code y by omega, h1, false_and, if_false, decide_false, Bool.or_false]
        split <;> simp
theorem canon_code (a b : Nat) (ha : a < 18446744073709551616) (hb : b < 18446744073709551616) (h : code a = code b) : canon a = canon b := by
  rw [← of_code a ha, ← of_code b hb, h]
theorem ins_all (x : Nat) (hx : x < 18446744073709551616) : ∀ L, (∀ y ∈ L, y < 18446744073709551616 ∧ canon y = y) → Asc L → Asc (ins x L) ∧ (∀ y ∈ ins x L, y < 18446744073709551616 ∧ canon y = y) ∧ (∀ z, z ∈ ins x L ↔ z = canon x ∨ z ∈ L)
  | [], _, _ => by
    refine ⟨by simp [ins, Asc], fun y hy => ?_, fun z => by simp [ins]⟩
    simp [ins] at hy
    subst hy
    exact ⟨canon_lt x hx, canon_canon x⟩
  | y :: r, hf, ha => by
    have ha1 := List.pairwise_cons.1 ha
    have hy := hf y (List.mem_cons_self ..)
    have hfr : ∀ z ∈ r, z < 18446744073709551616 ∧ canon z = z := fun z hz => hf z (List.mem_cons_of_mem _ hz)
    unfold ins
    by_cases h1 : code x < code y
    · rw [if_pos h1]
      refine ⟨List.pairwise_cons.2 ⟨fun z hz => ?_, ha⟩, fun z hz => ?_, fun z => by simp⟩
      · rw [code_canon]
        rcases List.mem_cons.1 hz with e | e
        · rw [e]; exact h1
        · have := ha1.1 z e; omega
      · rcases List.mem_cons.1 hz with e | e
        · rw [e]; exact ⟨canon_lt x hx, canon_canon x⟩
        · exact hf z e
    · rw [if_neg h1]
      by_cases h2 : code x = code y
      · rw [if_pos h2]
        have e : canon x = y := (canon_code x y hx hy.1 h2).trans hy.2
        refine ⟨ha, hf, fun z => ?_⟩
        rw [e]; simp
      · rw [if_neg h2]
        obtain ⟨i1, i2, i3⟩ := ins_all x hx r hfr ha1.2
        refine ⟨List.pairwise_cons.2 ⟨fun z hz => ?_, i1⟩, fun z hz => ?_, fun z => ?_⟩
        · rcases (i3 z).1 hz with e | e
          · rw [e, code_canon]; omega
          · exact ha1.1 z e
        · rcases List.mem_cons.1 hz with e | e
          · rw [e]; exact hy
          · exact i2 z e
        · rw [List.mem_cons, i3 z, List.mem_cons]
          constructor
          · rintro (h | h | h) <;> simp [h]
          · rintro (h | h | h) <;> simp [h]
theorem sortL_all (x : Nat → Nat) (n : Nat) (hx : ∀ i, i < n → x i < 18446744073709551616) : ∀ k, k ≤ n → Asc (sortL x k) ∧ (∀ y ∈ sortL x k, y < 18446744073709551616 ∧ canon y = y) ∧ (∀ z, z ∈ sortL x k ↔ ∃ i, i < k ∧ z = canon (x i))
  | 0, _ => ⟨List.Pairwise.nil, fun y hy => by simp [sortL] at hy, fun z => by simp [sortL]⟩
  | k + 1, hk => by
    obtain ⟨h1, h2, h3⟩ := sortL_all x n hx k (by omega)
    have e : sortL x (k + 1) = ins (x k) (sortL x k) := insL_ins (x k) (sortL x k)
    rw [e]
    obtain ⟨i1, i2, i3⟩ := ins_all (x k) (hx k (by omega)) _ h2 h1
    refine ⟨i1, i2, fun z => ?_⟩
    rw [i3 z, h3 z]
    constructor
    · rintro (h | ⟨i, hi, h⟩)
      · exact ⟨k, by omega, h⟩
      · exact ⟨i, by omega, h⟩
    · rintro ⟨i, hi, h⟩
      by_cases e : i = k
      · subst e; exact .inl h
      · exact .inr ⟨i, by omega, h⟩
end Fl
end Go.Proofs.YtbkbnfgjkefcmaaGreat
