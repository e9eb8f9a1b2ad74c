/- The first and the last of numbers in the document's order, as plain facts; Least and Most of no numbers; a row of numbers read as an argument, with its length in its datum; no condition. -/
import Derived.Test.YtnggkncmcbcceaaOq
import Derived.Test.YtnggkncmcbcceaaSl
import Derived.SizedLaws
namespace Go.Proofs.Ytnggkncmcbcceaa
open Go.ChangeShapes Go.WideShapes Go.RowKit
set_option linter.unusedVariables false
namespace Fl
theorem insG_done (X : Nat) : ∀ (L : List Nat) (d : Bool), (insG X d L).2 = (d || L.any fun y => decide (code X ≤ code y))
  | [], d => by simp [insG]
  | y :: r, d => by
    unfold insG
    rw [insG_done X r]
    simp [Bool.or_assoc]
theorem insG_last (X : Nat) : ∀ (L : List Nat) (d : Bool), L ≠ [] → (insG X d L).1.getLast? = L.getLast?
  | [], d, h => absurd rfl h
  | [y], d, _ => by simp only [insG]; split <;> simp
  | y :: z :: r, d, _ => by
    have ih := insG_last X (z :: r) (d || decide (code X ≤ code y)) (by simp)
    obtain ⟨q, hq⟩ : ∃ q, (z :: r).getLast? = some q := ⟨_, List.getLast?_eq_some_getLast (by simp)⟩
    rw [insG]
    show (_ ++ (insG X (d || decide (code X ≤ code y)) (z :: r)).1).getLast? = _
    rw [List.getLast?_append, ih, List.getLast?_cons_cons, hq]; rfl
theorem insL_ends (X h l : Nat) (L : List Nat) (hh : L.head? = some h) (hl : L.getLast? = some l) (ha : ∀ z ∈ L, code z ≤ code l) :
    (insL X L).head? = some (if code X < code h then canon X else h) ∧ (insL X L).getLast? = some (if code l < code X then canon X else l) ∧ ∀ z ∈ insL X L, code z ≤ code (if code l < code X then canon X else l) := by
  have hne : L ≠ [] := by intro e; rw [e] at hh; simp at hh
  have hd := insG_done X L false
  have hla := insG_last X L false hne
  have hlm : l ∈ L := List.mem_of_getLast? hl
  have hne2 : (insG X false L).1 ≠ [] := by intro e; rw [e, hl] at hla; simp at hla
  have hhd : (insG X false L).1.head? = some (if code X < code h then canon X else h) := by
    cases L with
    | nil => simp at hh
    | cons y r =>
      simp at hh; subst hh
      unfold insG
      by_cases c : code X < code y
      · simp [c]
      · simp [c]
  have hmem := insG_mem X L false
  unfold insL
  by_cases c : code l < code X
  · have e : (insG X false L).2 = false := by
      rw [hd]; simp
      intro z hz; have := ha z hz; omega
    rw [e]; simp only [Bool.false_eq_true, if_false, c, if_true]
    refine ⟨by rw [List.head?_append, hhd]; rfl, by simp, ?_⟩
    intro z hz
    rw [code_canon]
    rcases List.mem_append.1 hz with q | q
    · rcases hmem z q with q2 | q2
      · rw [q2, code_canon]; exact Nat.le_refl _
      · have := ha z q2; omega
    · rw [List.mem_singleton.1 q, code_canon]; exact Nat.le_refl _
  · have e : (insG X false L).2 = true := by
      rw [hd]; simp
      exact ⟨l, hlm, by omega⟩
    rw [e]; simp only [if_true, c, if_false]
    refine ⟨hhd, by rw [hla, hl], ?_⟩
    intro z hz
    rcases hmem z hz with q2 | q2
    · rw [q2, code_canon]; omega
    · exact ha z q2
theorem sort_ends (x : Nat → Nat) : ∀ k, (sortL x (k + 1)).head? = some (canon (minU x k)) ∧ (sortL x (k + 1)).getLast? = some (canon (maxU x k)) ∧ ∀ z ∈ sortL x (k + 1), code z ≤ code (canon (maxU x k))
  | 0 => by
    have e : sortL x 1 = [canon (x 0)] := rfl
    rw [e]; exact ⟨rfl, rfl, fun z hz => by rw [List.mem_singleton.1 hz]; exact Nat.le_refl _⟩
  | k + 1 => by
    obtain ⟨h1, h2, h3⟩ := sort_ends x k
    have h := insL_ends (x (k + 1)) _ _ (sortL x (k + 1)) h1 h2 h3
    rw [code_canon, code_canon] at h
    have e1 : canon (minU x (k + 1)) = if code (x (k + 1)) < code (minU x k) then canon (x (k + 1)) else canon (minU x k) := by rw [minU]; split <;> rfl
    have e2 : canon (maxU x (k + 1)) = if code (maxU x k) < code (x (k + 1)) then canon (x (k + 1)) else canon (maxU x k) := by rw [maxU]; split <;> rfl
    rw [e1, e2]; exact h
end Fl
attribute [local go_sem] run_bits run_frombits run_store_float eqF
set_option maxHeartbeats 400000 in
theorem nan_any (w : World) :
    Calls Try.prog 30 #[] w fun e w' => e = .returned (.float .f64 9221120237041090561) ∧ w' = w := by
  go_enter Try.func30, Try.ntmps30
  go_wp2
  go_ret
  exact ⟨rfl, rfl⟩
set_option maxHeartbeats 400000 in
theorem least_none (a : Option Addr) (c : Nat) (w : World) :
    Calls Try.prog 9 #[.slice a 0 c] w fun e w' => e = .returned (.float .f64 9221120237041090561) ∧ w' = w := by
  go_enter Try.func9, Try.ntmps9
  go_wp2_with (go_at_call 30; refine (nan_any _).mono ?_; rintro e w' ⟨rfl, rfl⟩)
  go_ret
  exact ⟨rfl, rfl⟩
set_option maxHeartbeats 400000 in
theorem most_none (a : Option Addr) (c : Nat) (w : World) :
    Calls Try.prog 10 #[.slice a 0 c] w fun e w' => e = .returned (.float .f64 9221120237041090561) ∧ w' = w := by
  go_enter Try.func10, Try.ntmps10
  go_wp2_with (go_at_call 30; refine (nan_any _).mono ?_; rintro e w' ⟨rfl, rfl⟩)
  go_ret
  exact ⟨rfl, rfl⟩
theorem open_floats2 {H : Type} {enc : TypeId × Value → H} {w : World} {base : Nat} {v : Value} {d : DataW H} {ps : List MemPlace} (hv : Value.okWide Try.prog w .any base 22 v) (h : DataW.Trod enc Try.prog w 0 (fun _ => true) true 22 v d ps) :
    ∃ (n : Nat) (x : Nat → Nat), FlRow w v n x ∧ (n = 0 ∨ ∃ els sp, d = .slice els sp ∧ els.length = n) := by
  obtain ⟨n, x, hr⟩ := open_floats hv h
  refine ⟨n, x, hr, ?_⟩
  obtain ⟨a0, len0, cap0, rfl⟩ := okWide_slice Try.underlying22 hv
  have hn : n = len0 := by
    rcases hr with ⟨rfl, a, c, e⟩ | ⟨_, _, b, off, cap, e, _⟩
    · cases e; rfl
    · cases e; rfl
  subst hn
  obtain ⟨fuel, hf⟩ := h
  rcases DataW.trod_slice Try.underlying22 hf with ⟨hcs, _⟩ | ⟨a, len, cap, elems, rest, m, _, hcs, hx, hb, hl, hm, hlen, hel, _, _⟩
  · simp [Value.cells] at hcs; exact .inl hcs.2.1
  · simp [Value.cells] at hcs
    obtain ⟨_, hln, _⟩ := hcs
    cases hx
    exact .inr ⟨_, _, rfl, by simp [hlen, hln]⟩
end Go.Proofs.Ytnggkncmcbcceaa
