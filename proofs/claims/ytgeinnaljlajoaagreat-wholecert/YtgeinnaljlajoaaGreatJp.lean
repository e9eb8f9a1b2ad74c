/- Plain facts of the order that line makes: each comes behind all from which an edge leads to it; no condition. -/
import Derived.Test.YtgeinnaljlajoaaGreatCxS
namespace Go.Proofs.YtgeinnaljlajoaaGreat
open Go.RowKit Go.Lib
set_option linter.unusedVariables false
set_option linter.unusedSimpArgs false
set_option maxRecDepth 20000
theorem getD_set (W : List Int) (i j : Nat) (y : Int) (h : i < W.length) : (W.set i y).getD j 0 = if i = j then y else W.getD j 0 := by
 by_cases e : i = j
 ·subst e; rw [if_pos rfl, List.getD_eq_getElem?_getD, List.getElem?_set_self h]; rfl
 ·rw [if_neg e, List.getD_eq_getElem?_getD, List.getElem?_set_ne e, ← List.getD_eq_getElem?_getD]
theorem cntW_get : ∀ (E : List (Int × Int)) (W : List Int) (i : Nat), (∀ e ∈ E, 1 ≤ e.2 ∧ e.2 ≤ W.length) → (cntW E W).getD i 0 = W.getD i 0 + ((E.countP fun e => decide (e.2 = (i : Int) + 1) : Nat) : Int)
 | [], W, i, h => by simp [cntW]
 | e :: t, W, i, h => by
  have he := h e (List.mem_cons_self ..)
  have ht : toN e < W.length := by unfold toN; omega
  show (cntW t (W.set (toN e) (W.getD (toN e) 0 + 1))).getD i 0 = _
  rw [cntW_get t _ i (fun x hx => by rw [List.length_set]; exact h x (List.mem_cons_of_mem _ hx)), getD_set W (toN e) i _ ht, List.countP_cons]
  by_cases q : toN e = i
  ·have q2 : e.2 = (i : Int) + 1 := by unfold toN at q; omega
   rw [if_pos q, q, decide_eq_true q2]
   simp; omega
  ·have q2 : ¬ e.2 = (i : Int) + 1 := by unfold toN at q; omega
   rw [if_neg q, decide_eq_false q2]
   simp
theorem decW_get (x : Int) : ∀ (E : List (Int × Int)) (W : List Int) (i : Nat), (∀ e ∈ E, 1 ≤ e.2 ∧ e.2 ≤ W.length) → (decW x E W).getD i 0 = W.getD i 0 - ((E.countP fun e => decide (e.1 = x) && decide (e.2 = (i : Int) + 1) : Nat) : Int)
 | [], W, i, h => by simp [decW]
 | e :: t, W, i, h => by
  have he := h e (List.mem_cons_self ..)
  have ht : toN e < W.length := by unfold toN; omega
  have hr : ∀ x ∈ t, 1 ≤ x.2 ∧ x.2 ≤ W.length := fun x hx => h x (List.mem_cons_of_mem _ hx)
  show (decW x t (if e.1 = x then W.set (toN e) (W.getD (toN e) 0 - 1) else W)).getD i 0 = _
  rw [List.countP_cons]
  by_cases p : e.1 = x
  ·rw [if_pos p, decW_get x t _ i (fun y hy => by rw [List.length_set]; exact hr y hy), getD_set W (toN e) i _ ht, decide_eq_true p]
   by_cases q : toN e = i
   ·have q2 : e.2 = (i : Int) + 1 := by unfold toN at q; omega
    rw [if_pos q, q, decide_eq_true q2]
    simp; omega
   ·have q2 : ¬ e.2 = (i : Int) + 1 := by unfold toN at q; omega
    rw [if_neg q, decide_eq_false q2]
    simp
  ·rw [if_neg p, decW_get x t W i hr, decide_eq_false p]
   simp
structure Inv (E : List (Int × Int)) (n : Nat) (C W : List Int) : Prop where
 len : W.length = n
 nod : C.Nodup
 rng : ∀ x ∈ C, 1 ≤ x ∧ x ≤ n
 done : ∀ i : Nat, i < n → (i : Int) + 1 ∈ C → W.getD i 0 = -1
 wait : ∀ i : Nat, i < n → (i : Int) + 1 ∉ C → W.getD i 0 = ((E.countP fun e => decide (e.2 = (i : Int) + 1) && !decide (e.1 ∈ C) : Nat) : Int)
 edge : ∀ e ∈ E, e.2 ∈ C → ∃ P Q, C = P ++ e.2 :: Q ∧ e.1 ∈ P
theorem Inv.start (E : List (Int × Int)) (n : Nat) (hE : ∀ e ∈ E, (1 ≤ e.1 ∧ e.1 ≤ n) ∧ 1 ≤ e.2 ∧ e.2 ≤ n) : Inv E n [] (cntW E (List.replicate n 0)) := by
 refine ⟨by rw [cntW_len, List.length_replicate], List.nodup_nil, (fun x hx => by cases hx), (fun i _ h => by cases h), fun i hi _ => ?_, (fun e _ h => by cases h)⟩
 rw [cntW_get E _ i (fun e he => by rw [List.length_replicate]; exact (hE e he).2)]
 have z : (List.replicate n (0 : Int)).getD i 0 = 0 := by simp [List.getD_eq_getElem?_getD, List.getElem?_replicate, hi]
 rw [z]
 simp
theorem countP_split {α : Type} (p q : α → Bool) : ∀ L : List α, L.countP (fun a => p a && !q a) + L.countP (fun a => p a && q a) = L.countP p
 | [] => rfl
 | a :: t => by
  have h := countP_split p q t
  rw [List.countP_cons, List.countP_cons, List.countP_cons]
  cases p a <;> cases q a <;> simp <;> omega
theorem Inv.step {E : List (Int × Int)} {n : Nat} {C W : List Int} (h : Inv E n C W) (hE : ∀ e ∈ E, (1 ≤ e.1 ∧ e.1 ≤ n) ∧ 1 ≤ e.2 ∧ e.2 ≤ n) (hne : ∀ e ∈ E, e.1 ≠ e.2) (i : Nat) (hi : i < n) (hz : W.getD i 0 = 0) :
    Inv E n (C ++ [(i : Int) + 1]) (decW ((i : Int) + 1) E (W.set i (-1))) := by
 have hnot : (i : Int) + 1 ∉ C := fun q => by have := h.done i hi q; omega
 have hw0 := h.wait i hi hnot
 rw [hz] at hw0
 have hall : ∀ e ∈ E, e.2 = (i : Int) + 1 → e.1 ∈ C := fun e he q => by
  by_cases c : e.1 ∈ C
  ·exact c
  ·exfalso
   have : 0 < E.countP (fun e => decide (e.2 = (i : Int) + 1) && !decide (e.1 ∈ C)) := List.countP_pos_iff.2 ⟨e, he, by simp [q, c]⟩
   omega
 have hl2 : (W.set i (-1)).length = n := by rw [List.length_set]; exact h.len
 have hg : ∀ j, (decW ((i : Int) + 1) E (W.set i (-1))).getD j 0 = (if i = j then -1 else W.getD j 0) - ((E.countP fun e => decide (e.1 = (i : Int) + 1) && decide (e.2 = (j : Int) + 1) : Nat) : Int) := fun j => by
  rw [decW_get _ E _ j (fun e he => by rw [hl2]; exact (hE e he).2), getD_set W i j _ (by rw [h.len]; exact hi)]
 refine ⟨by rw [decW_len]; exact hl2, ?_, ?_, ?_, ?_, ?_⟩
 ·rw [List.nodup_append]
  exact ⟨h.nod, by simp, fun a ha b hb e => by simp at hb; subst hb; subst e; exact hnot ha⟩
 ·intro x hx
  rcases List.mem_append.1 hx with q | q
  ·exact h.rng x q
  ·simp at q; omega
 ·intro j hj hm
  rw [hg j]
  have hc : E.countP (fun e => decide (e.1 = (i : Int) + 1) && decide (e.2 = (j : Int) + 1)) = 0 := by
   rw [List.countP_eq_zero]
   intro e he q
   simp at q
   rcases List.mem_append.1 hm with m | m
   ·obtain ⟨P, Q, hC, hP⟩ := h.edge e he (by rw [q.2]; exact m)
    exact hnot (by rw [← q.1, hC]; exact List.mem_append_left _ hP)
   ·simp at m
    exact hne e he (by rw [q.1, q.2]; omega)
  rw [hc]
  rcases List.mem_append.1 hm with m | m
  ·have hij : i ≠ j := fun e => hnot (by rw [e]; exact m)
   rw [if_neg hij, h.done j hj m]; rfl
  ·simp at m
   have hij : i = j := by omega
   rw [if_pos hij]; rfl
 ·intro j hj hm
  have hm1 : (j : Int) + 1 ∉ C := fun q => hm (List.mem_append_left _ q)
  have hij : i ≠ j := fun e => hm (by rw [e]; simp)
  rw [hg j, if_neg hij, h.wait j hj hm1]
  have hs := countP_split (fun e : Int × Int => decide (e.2 = (j : Int) + 1) && !decide (e.1 ∈ C)) (fun e => decide (e.1 = (i : Int) + 1)) E
  have e1 : E.countP (fun e => decide (e.1 = (i : Int) + 1) && decide (e.2 = (j : Int) + 1)) = E.countP (fun a : Int × Int => (decide (a.2 = (j : Int) + 1) && !decide (a.1 ∈ C)) && decide (a.1 = (i : Int) + 1)) := by
   apply List.countP_congr
   intro a _
   by_cases q : a.1 = (i : Int) + 1
   ·simp [q, hnot]
   ·simp [q]
  have e2 : E.countP (fun e => decide (e.2 = (j : Int) + 1) && !decide (e.1 ∈ C ++ [(i : Int) + 1])) = E.countP (fun a : Int × Int => (decide (a.2 = (j : Int) + 1) && !decide (a.1 ∈ C)) && !decide (a.1 = (i : Int) + 1)) := by
   apply List.countP_congr
   intro a _
   simp [and_assoc]
  rw [e1, e2]
  omega
 ·intro e he hm
  rcases List.mem_append.1 hm with m | m
  ·obtain ⟨P, Q, hC, hP⟩ := h.edge e he m
   exact ⟨P, Q ++ [(i : Int) + 1], by rw [hC]; simp, hP⟩
  ·simp at m
   exact ⟨C, [], by rw [m], hall e he m⟩
theorem lineF_inv (d : Nat → Dn) (E : List (Int × Int)) (n : Nat) (hE : ∀ e ∈ E, (1 ≤ e.1 ∧ e.1 ≤ n) ∧ 1 ≤ e.2 ∧ e.2 ≤ n) (hne : ∀ e ∈ E, e.1 ≠ e.2) (hd : ∀ i, i < n → (d i).n = (i : Int) + 1) : ∀ (f : Nat) (C W : List Int), Inv E n C W → Inv E n (lineF d E f C W).1 (lineF d E f C W).2
 | 0, C, W, h => h
 | f + 1, C, W, h => by
  unfold lineF
  cases e : idx0 W with
  | none => exact h
  | some i =>
   simp only
   obtain ⟨hi, hz⟩ := idx0_spec W i e
   rw [h.len] at hi
   rw [hd i hi]
   exact lineF_inv d E n hE hne hd f _ _ (h.step hE hne i hi hz)
theorem stk_none {d : Nat → Dn} {W : List Int} : ∀ {n : Nat}, stkF d W n = [] → ∀ i, i < n → W.getD i 0 = -1
 | 0, _, i, hi => by omega
 | n + 1, h, i, hi => by
  have h' : stkF d W n ++ (if W.getD n 0 = -1 then [] else [(d n).n]) = [] := h
  obtain ⟨a, b⟩ := List.append_eq_nil_iff.1 h'
  by_cases e : i = n
  ·subst e
   by_cases q : W.getD i 0 = -1
   ·exact q
   ·rw [if_neg q] at b; cases b
  ·exact stk_none a i (by omega)
theorem Inv.all {E : List (Int × Int)} {n : Nat} {C W : List Int} (h : Inv E n C W) (hw : ∀ i, i < n → W.getD i 0 = -1) : ∀ i : Nat, i < n → (i : Int) + 1 ∈ C := fun i hi => by
 by_cases c : (i : Int) + 1 ∈ C
 ·exact c
 ·have a := h.wait i hi c
  have b := hw i hi
  omega
end Go.Proofs.YtgeinnaljlajoaaGreat
