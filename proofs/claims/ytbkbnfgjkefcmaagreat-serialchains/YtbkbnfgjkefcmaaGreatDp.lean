/- Rows of numbers in order, each once, as plain facts: two such rows with the same numbers are one; what is left of a row in order where neighbours that are the same go; no condition. -/
import Derived.Test.YtbkbnfgjkefcmaaGreatFl
namespace Go.Proofs.YtbkbnfgjkefcmaaGreat
namespace Fl
/-- Numbers in order, each once. -/
def Asc (L : List Nat) : Prop := L.Pairwise (fun a b => code a < code b)
theorem asc_eq : ∀ (L M : List Nat), Asc L → Asc M → (∀ z, z ∈ L ↔ z ∈ M) → L = M
  | [], [], _, _, _ => rfl
  | [], b :: M, _, _, h => absurd ((h b).2 (List.mem_cons_self ..)) (by simp)
  | a :: L, [], _, _, h => absurd ((h a).1 (List.mem_cons_self ..)) (by simp)
  | a :: L, b :: M, hL, hM, h => by
    have hL1 := List.pairwise_cons.1 hL
    have hM1 := List.pairwise_cons.1 hM
    have hab : a = b := by
      rcases List.mem_cons.1 ((h a).1 (List.mem_cons_self ..)) with e | e
      · exact e
      · rcases List.mem_cons.1 ((h b).2 (List.mem_cons_self ..)) with e2 | e2
        · exact e2.symm
        · have h1 := hM1.1 a e
          have h2 := hL1.1 b e2
          omega
    subst hab
    rw [asc_eq L M hL1.2 hM1.2 (fun z => ?_)]
    constructor
    · intro hz
      rcases List.mem_cons.1 ((h z).1 (List.mem_cons_of_mem _ hz)) with e | e
      · subst e; exact absurd (hL1.1 z hz) (by omega)
      · exact e
    · intro hz
      rcases List.mem_cons.1 ((h z).2 (List.mem_cons_of_mem _ hz)) with e | e
      · subst e; exact absurd (hM1.1 z hz) (by omega)
      · exact e
/-- Neighbours that are the same go. -/
def dd : List Nat → List Nat
  | [] => []
  | a :: L => match L with
    | [] => [a]
    | b :: r => if a = b then dd (b :: r) else a :: dd (b :: r)
theorem dd_cons (a b : Nat) (r : List Nat) : dd (a :: b :: r) = if a = b then dd (b :: r) else a :: dd (b :: r) := by rw [dd]
theorem dd_mem : ∀ (L : List Nat) z, z ∈ dd L ↔ z ∈ L
  | [], z => by simp [dd]
  | [a], z => by simp [dd]
  | a :: b :: r, z => by
    rw [dd_cons]
    by_cases e : a = b
    · rw [if_pos e, dd_mem (b :: r) z, e]; simp
    · rw [if_neg e, List.mem_cons, dd_mem (b :: r) z]; simp
theorem dd_asc : ∀ (L : List Nat), (∀ a ∈ L, ∀ b ∈ L, code a = code b → a = b) → L.Pairwise (fun a b => code a ≤ code b) → Asc (dd L)
  | [], _, _ => List.Pairwise.nil
  | [a], _, _ => by simp [dd, Asc]
  | a :: b :: r, hi, hp => by
    have hp1 := List.pairwise_cons.1 hp
    have ih := dd_asc (b :: r) (fun x hx y hy => hi x (List.mem_cons_of_mem _ hx) y (List.mem_cons_of_mem _ hy)) hp1.2
    rw [dd_cons]
    by_cases e : a = b
    · rw [if_pos e]; exact ih
    · rw [if_neg e]
      refine List.pairwise_cons.2 ⟨fun z hz => ?_, ih⟩
      rw [dd_mem] at hz
      have h1 := hp1.1 z hz
      by_cases e2 : code a = code z
      · have e3 : a = z := hi a (List.mem_cons_self ..) z (List.mem_cons_of_mem _ hz) e2
        subst e3
        have h2 := hp1.1 b (List.mem_cons_self ..)
        rcases List.mem_cons.1 hz with e4 | e4
        · exact absurd e4 e
        · have h3 := (List.pairwise_cons.1 hp1.2).1 a e4
          exact absurd (hi a (List.mem_cons_self ..) b (List.mem_cons_of_mem _ (List.mem_cons_self ..)) (by omega)) e
      · omega
end Fl
end Go.Proofs.YtbkbnfgjkefcmaaGreat
