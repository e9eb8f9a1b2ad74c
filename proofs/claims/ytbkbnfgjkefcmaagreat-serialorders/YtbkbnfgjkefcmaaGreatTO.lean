/- The document's order (layer 12), plain: it is the one that line makes; what is left is two or more; no condition. -/
import Derived.Test.YtbkbnfgjkefcmaaGreatTH
import Derived.Test.YtbkbnfgjkefcmaaGreatTQ
namespace Go.Proofs.YtbkbnfgjkefcmaaGreat
open Go.RowKit Go.Lib
set_option linter.unusedVariables false
set_option linter.unusedSimpArgs false
set_option maxRecDepth 20000
/-- May one come, of the first so many that lead to it? -/
def frU (d : Nat → Dn) (C : List Int) (i : Nat) : Nat → Bool
  | 0 => true
  | k + 1 => frU d C i k && (hasN C (d k).n || !ldB (d k) (d i))
/-- The least one that may come, of the first so many. -/
def nxU (d : Nat → Dn) (n : Nat) (C : List Int) : Nat → Option Nat
  | 0 => none
  | k + 1 => match nxU d n C k with
    | some j => some j
    | none => if (!hasN C (d k).n && frU d C k n) = true then some k else none
/-- The document's order. -/
def roF (d : Nat → Dn) (n : Nat) : Nat → List Int → List Int × Bool
  | 0, C => (C, true)
  | f + 1, C => if C.length < n then (match nxU d n C n with
    | none => (C, false)
    | some i => roF d n f (C ++ [(d i).n])) else (C, true)
theorem frU_iff {d : Nat → Dn} {C : List Int} {i : Nat} : ∀ {k : Nat}, frU d C i k = true ↔ ∀ j, j < k → hasN C (d j).n = true ∨ ldB (d j) (d i) = false
  | 0 => ⟨fun _ j hj => by omega, fun _ => rfl⟩
  | k + 1 => by
    show (frU d C i k && _) = true ↔ _
    rw [Bool.and_eq_true, frU_iff, Bool.or_eq_true, Bool.not_eq_true']
    constructor
    · rintro ⟨a, b⟩ j hj
      by_cases e : j = k
      · subst e; exact b
      · exact a j (by omega)
    · intro h
      exact ⟨fun j hj => h j (by omega), h k (by omega)⟩
theorem nxU_some {d : Nat → Dn} {n : Nat} {C : List Int} : ∀ {k i : Nat}, nxU d n C k = some i → i < k ∧ (!hasN C (d i).n && frU d C i n) = true ∧ ∀ j, j < i → (!hasN C (d j).n && frU d C j n) = false
  | 0, i, h => by cases h
  | k + 1, i, h => by
    unfold nxU at h
    cases e : nxU d n C k with
    | some j =>
      rw [e] at h
      cases h
      have q := nxU_some e
      exact ⟨by omega, q.2⟩
    | none =>
      rw [e] at h
      simp only at h
      split at h
      · rename_i q
        cases h
        refine ⟨by omega, q, ?_⟩
        have : ∀ m, nxU d n C m = none → ∀ j, j < m → (!hasN C (d j).n && frU d C j n) = false := by
          intro m
          induction m with
          | zero => intro _ j hj; omega
          | succ m ih =>
            intro h j hj
            unfold nxU at h
            cases e2 : nxU d n C m with
            | some x => rw [e2] at h; cases h
            | none =>
              rw [e2] at h
              simp only at h
              split at h
              · cases h
              · rename_i q2
                by_cases e3 : j = m
                · subst e3; simpa using q2
                · exact ih e2 j (by omega)
        exact this k e
      · cases h
theorem nxU_none {d : Nat → Dn} {n : Nat} {C : List Int} : ∀ {m : Nat}, nxU d n C m = none → ∀ j, j < m → (!hasN C (d j).n && frU d C j n) = false
  | 0, _, j, hj => by omega
  | m + 1, h, j, hj => by
    unfold nxU at h
    cases e2 : nxU d n C m with
    | some x => rw [e2] at h; cases h
    | none =>
      rw [e2] at h
      simp only at h
      split at h
      · cases h
      · rename_i q2
        by_cases e3 : j = m
        · subst e3; simpa using q2
        · exact nxU_none e2 j (by omega)
theorem idx0_first : ∀ (W : List Int) (k : Nat), idx0 W = some k → ∀ i, i < k → W.getD i 0 ≠ 0
  | [], k, h, _, _ => by cases h
  | x :: t, k, h, i, hi => by
    unfold idx0 at h
    split at h
    · cases h; omega
    · rename_i q
      cases e : idx0 t with
      | none => rw [e] at h; cases h
      | some j =>
        rw [e] at h
        cases h
        cases i with
        | zero => exact q
        | succ i => exact idx0_first t j e i (by have hi' : i + 1 < j + 1 := hi; omega)
theorem idx0_no : ∀ (W : List Int), idx0 W = none → ∀ i, i < W.length → W.getD i 0 ≠ 0
  | [], _, i, hi => by simp at hi
  | x :: t, h, i, hi => by
    unfold idx0 at h
    split at h
    · cases h
    · rename_i q
      cases e : idx0 t with
      | some j => rw [e] at h; cases h
      | none =>
        cases i with
        | zero => exact q
        | succ i => exact idx0_no t e i (by simpa using hi)
/-- Nought is written where one may come. -/
theorem Inv.nought {d : Nat → Dn} {n : Nat} {C W : List Int} (h : Inv (edU d n n) n C W) (hd : ∀ i, i < n → (d i).n = (i : Int) + 1) (i : Nat) (hi : i < n) : W.getD i 0 = 0 ↔ (!hasN C (d i).n && frU d C i n) = true := by
  rw [Bool.and_eq_true, Bool.not_eq_true', frU_iff]
  constructor
  · intro z
    have hc : (i : Int) + 1 ∉ C := fun q => by have := h.done i hi q; omega
    have hw := h.wait i hi hc
    rw [z] at hw
    refine ⟨?_, fun j hj => ?_⟩
    · cases e : hasN C (d i).n
      · rfl
      · exact absurd (by have := hasN_iff.1 e; rwa [hd i hi] at this) hc
    · cases e : ldB (d j) (d i)
      · exact Or.inr rfl
      · left
        rw [hasN_iff]
        by_cases c : (d j).n ∈ C
        · exact c
        · exfalso
          have : 0 < (edU d n n).countP (fun e => decide (e.2 = (i : Int) + 1) && !decide (e.1 ∈ C)) := List.countP_pos_iff.2 ⟨((d j).n, (d i).n), (edU_mem _).2 ⟨j, i, hj, hi, e, rfl⟩, by simp [hd i hi, c]⟩
          omega
  · rintro ⟨a, b⟩
    have hc : (i : Int) + 1 ∉ C := fun q => by
      have := hasN_iff.2 (by rw [hd i hi]; exact q : (d i).n ∈ C)
      rw [this] at a
      cases a
    rw [h.wait i hi hc]
    have : (edU d n n).countP (fun e => decide (e.2 = (i : Int) + 1) && !decide (e.1 ∈ C)) = 0 := by
      rw [List.countP_eq_zero]
      intro e he q
      simp at q
      obtain ⟨x, y, hx, hy, l, rfl⟩ := (edU_mem e).1 he
      have ey : y = i := by have := hd y hy; have := q.1; simp only at this; omega
      subst ey
      rcases b x hx with c | c
      · exact q.2 (hasN_iff.1 c)
      · rw [l] at c; cases c
    rw [this]
    rfl
theorem Inv.next {d : Nat → Dn} {n : Nat} {C W : List Int} (h : Inv (edU d n n) n C W) (hd : ∀ i, i < n → (d i).n = (i : Int) + 1) : nxU d n C n = idx0 W := by
  cases e : nxU d n C n with
  | none =>
    symm
    refine idx0_none W fun i hi z => ?_
    rw [h.len] at hi
    have a := nxU_none e i hi
    rw [(h.nought hd i hi).1 z] at a
    cases a
  | some i =>
    obtain ⟨a, b, c⟩ := nxU_some e
    symm
    refine idx0_some W i (by rw [h.len]; exact a) (fun j hj z => ?_) ((h.nought hd i a).2 b)
    have q := c j hj
    rw [(h.nought hd j (by omega)).1 z] at q
    cases q
theorem nod_le : ∀ (n : Nat) (C : List Int), C.Nodup → (∀ x ∈ C, 1 ≤ x ∧ x ≤ n) → C.length ≤ n
  | 0, C, _, h => by
    cases C with
    | nil => exact Nat.le_refl _
    | cons a t => have := h a (List.mem_cons_self ..); omega
  | n + 1, C, hn, h => by
    by_cases hm : ((n : Int) + 1) ∈ C
    · have a := nod_le n (C.erase ((n : Int) + 1)) (hn.erase _) (fun x hx => by
        have b := (hn.mem_erase_iff).1 hx
        have := h x b.2
        have := b.1
        omega)
      rw [List.length_erase_of_mem hm] at a
      omega
    · have a := nod_le n C hn (fun x hx => by
        have := h x hx
        have : x ≠ (n : Int) + 1 := fun e => hm (by rw [← e]; exact hx)
        omega)
      omega
theorem nod_all {n : Nat} {C : List Int} (hn : C.Nodup) (h : ∀ x ∈ C, 1 ≤ x ∧ x ≤ n) (hl : C.length = n) (i : Nat) (hi : i < n) : (i : Int) + 1 ∈ C := by
  by_cases c : (i : Int) + 1 ∈ C
  · exact c
  · exfalso
    have a := nod_le n (((i : Int) + 1) :: C) (List.nodup_cons.2 ⟨c, hn⟩) (fun x hx => by
      rcases List.mem_cons.1 hx with q | q
      · omega
      · exact h x q)
    simp at a
    omega
theorem stk_of {d : Nat → Dn} {W : List Int} : ∀ {n : Nat}, (∀ i, i < n → W.getD i 0 = -1) → stkF d W n = []
  | 0, _ => rfl
  | n + 1, h => by
    show stkF d W n ++ _ = []
    rw [stk_of (fun i hi => h i (by omega)), if_pos (h n (by omega))]
    rfl
/-- The document's order is the one that line makes. -/
theorem ro_line {d : Nat → Dn} {n : Nat} (hd : ∀ i, i < n → (d i).n = (i : Int) + 1) (hE : ∀ e ∈ edU d n n, (1 ≤ e.1 ∧ e.1 ≤ n) ∧ 1 ≤ e.2 ∧ e.2 ≤ n) (hne : ∀ e ∈ edU d n n, e.1 ≠ e.2) : ∀ (f g : Nat) (C W : List Int), Inv (edU d n n) n C W → n ≤ f + C.length → n ≤ g + C.length →
    roF d n g C = ((lineF d (edU d n n) f C W).1, decide (stkF d (lineF d (edU d n n) f C W).2 n = [])) := by
  intro f
  induction f with
  | zero =>
    intro g C W h hf hg
    have hl : C.length = n := by have := nod_le n C h.nod h.rng; omega
    have e1 : roF d n g C = (C, true) := by
      cases g with
      | zero => rfl
      | succ g => unfold roF; rw [if_neg (by omega)]
    rw [e1]
    show (C, true) = (C, decide (stkF d W n = []))
    rw [stk_of (fun i hi => h.done i hi (nod_all h.nod h.rng hl i hi))]
    rfl
  | succ f ih =>
    intro g C W h hf hg
    by_cases hl : C.length < n
    · cases g with
      | zero => omega
      | succ g =>
        cases e : idx0 W with
        | none =>
          have e1 : roF d n (g + 1) C = (C, false) := by unfold roF; rw [if_pos hl, h.next hd, e]
          have e2 : lineF d (edU d n n) (f + 1) C W = (C, W) := by unfold lineF; rw [e]
          rw [e1, e2]
          have : stkF d W n ≠ [] := fun q => by
            have a := h.all (stk_none q)
            have := nod_len n C h.nod h.rng a
            omega
          show (C, false) = (C, decide (stkF d W n = []))
          rw [decide_eq_false this]
        | some i =>
          obtain ⟨hi, hz⟩ := idx0_spec W i e
          rw [h.len] at hi
          have e1 : roF d n (g + 1) C = roF d n g (C ++ [(i : Int) + 1]) := by
            have : roF d n (g + 1) C = roF d n g (C ++ [(d i).n]) := by
              show (if C.length < n then _ else _) = _
              rw [if_pos hl, h.next hd, e]
            rw [this, hd i hi]
          have e2 : lineF d (edU d n n) (f + 1) C W = lineF d (edU d n n) f (C ++ [(i : Int) + 1]) (decW ((i : Int) + 1) (edU d n n) (W.set i (-1))) := by
            have : lineF d (edU d n n) (f + 1) C W = lineF d (edU d n n) f (C ++ [(d i).n]) (decW (d i).n (edU d n n) (W.set i (-1))) := by
              show (match idx0 W with | none => _ | some i => _) = _
              rw [e]
            rw [this, hd i hi]
          rw [e1, e2]
          exact ih g _ _ (h.step hE hne i hi hz) (by simp; omega) (by simp; omega)
    · have hl' : C.length = n := by have := nod_le n C h.nod h.rng; omega
      have hall := fun i hi => h.done i hi (nod_all h.nod h.rng hl' i hi)
      have e1 : roF d n g C = (C, true) := by
        cases g with
        | zero => rfl
        | succ g => unfold roF; rw [if_neg hl]
      have e0 : idx0 W = none := idx0_none W fun i hi z => by
        rw [h.len] at hi
        have := hall i hi
        omega
      have e2 : lineF d (edU d n n) (f + 1) C W = (C, W) := by unfold lineF; rw [e0]
      rw [e1, e2]
      show (C, true) = (C, decide (stkF d W n = []))
      rw [stk_of hall]
      rfl
theorem ro_cw {d : Nat → Dn} {n : Nat} (h : rtB d n = true) : roF d n n [] = ((cwF d n).1, decide (stkF d (cwF d n).2 n = [])) := by
  have hn := okU_num (rt_okU h)
  have hE := edU_rng hn n (Nat.le_refl _)
  exact ro_line hn hE (fun e he => by
    obtain ⟨i, j, _, _, a, b⟩ := (edU_mem e).1 he
    rw [b]
    exact ldB_ne a) _ n [] _ (Inv.start _ n hE) (by simp) (by simp)
/-- Where line has come to its end, no nought is left. -/
theorem line_end {d : Nat → Dn} {E : List (Int × Int)} {n : Nat} (hE : ∀ e ∈ E, (1 ≤ e.1 ∧ e.1 ≤ n) ∧ 1 ≤ e.2 ∧ e.2 ≤ n) (hne : ∀ e ∈ E, e.1 ≠ e.2) (hd : ∀ i, i < n → (d i).n = (i : Int) + 1) : ∀ (f : Nat) (C W : List Int), Inv E n C W → n ≤ f + C.length → idx0 (lineF d E f C W).2 = none
  | 0, C, W, h, hf => by
    have hl : C.length = n := by have := nod_le n C h.nod h.rng; omega
    show idx0 W = none
    refine idx0_none W fun i hi z => ?_
    rw [h.len] at hi
    have := h.done i hi (nod_all h.nod h.rng hl i hi)
    omega
  | f + 1, C, W, h, hf => by
    unfold lineF
    cases e : idx0 W with
    | none => exact e
    | some i =>
      simp only
      obtain ⟨hi, hz⟩ := idx0_spec W i e
      rw [h.len] at hi
      rw [hd i hi]
      exact line_end hE hne hd f _ _ (h.step hE hne i hi hz) (by simp; omega)
/-- Those that are left, as places. -/
def lfL (W : List Int) : Nat → List Nat
  | 0 => []
  | k + 1 => lfL W k ++ (if W.getD k 0 = -1 then [] else [k])
theorem stk_lf {d : Nat → Dn} {W : List Int} : ∀ {k : Nat}, (∀ i, i < k → (d i).n = (i : Int) + 1) → stkF d W k = (lfL W k).map fun i : Nat => (i : Int) + 1
  | 0, _ => rfl
  | k + 1, h => by
    show stkF d W k ++ _ = (lfL W k ++ _).map _
    rw [stk_lf (fun i hi => h i (by omega)), List.map_append]
    congr 1
    split
    · rfl
    · simp [h k (by omega)]
theorem lf_mem {W : List Int} : ∀ {k i : Nat}, i ∈ lfL W k ↔ i < k ∧ W.getD i 0 ≠ -1
  | 0, i => by simp [lfL]
  | k + 1, i => by
    show i ∈ lfL W k ++ _ ↔ _
    rw [List.mem_append, lf_mem]
    by_cases q : W.getD k 0 = -1
    · rw [if_pos q]
      constructor
      · rintro (⟨a, b⟩ | a)
        · exact ⟨by omega, b⟩
        · cases a
      · rintro ⟨a, b⟩
        left
        refine ⟨?_, b⟩
        by_cases e : i = k
        · subst e; exact absurd q b
        · omega
    · rw [if_neg q]
      constructor
      · rintro (⟨a, b⟩ | a)
        · exact ⟨by omega, b⟩
        · simp at a; subst a; exact ⟨by omega, q⟩
      · rintro ⟨a, b⟩
        by_cases e : i = k
        · right; simp [e]
        · left; exact ⟨by omega, b⟩
theorem lf_up {W : List Int} : ∀ {k : Nat}, (lfL W k).Pairwise (· < ·)
  | 0 => List.Pairwise.nil
  | k + 1 => by
    show (lfL W k ++ _).Pairwise _
    rw [List.pairwise_append]
    refine ⟨lf_up, ?_, ?_⟩
    · split <;> simp
    · intro a ha b hb
      have := (lf_mem.1 ha).1
      split at hb
      · cases hb
      · simp at hb; omega
/-- How many have come and how many are left is all. -/
theorem lf_len {W C : List Int} : ∀ {n : Nat}, C.Nodup → (∀ x ∈ C, 1 ≤ x ∧ x ≤ n) → (∀ i : Nat, i < n → ((i : Int) + 1 ∈ C ↔ W.getD i 0 = -1)) → (lfL W n).length + C.length = n
  | 0, _, hr, _ => by
    cases C with
    | nil => rfl
    | cons a t => have := hr a (List.mem_cons_self ..); omega
  | n + 1, hn, hr, hw => by
    show (lfL W n ++ _).length + _ = _
    rw [List.length_append]
    by_cases q : W.getD n 0 = -1
    · rw [if_pos q]
      have hm := (hw n (by omega)).2 q
      have a := lf_len (W := W) (C := C.erase ((n : Int) + 1)) (n := n) (hn.erase _) (fun x hx => by
        have b := (hn.mem_erase_iff).1 hx
        have := hr x b.2
        have := b.1
        omega) (fun i hi => by
          rw [hn.mem_erase_iff]
          constructor
          · rintro ⟨_, b⟩; exact (hw i (by omega)).1 b
          · intro b; exact ⟨by omega, (hw i (by omega)).2 b⟩)
      rw [List.length_erase_of_mem hm] at a
      have : 0 < C.length := List.length_pos_of_mem hm
      simp
      omega
    · rw [if_neg q]
      have a := lf_len (W := W) (C := C) (n := n) hn (fun x hx => by
        have := hr x hx
        have : x ≠ (n : Int) + 1 := fun e => q ((hw n (by omega)).1 (by rw [← e]; exact hx))
        omega) (fun i hi => hw i (by omega))
      simp
      omega
/-- What is left, where it is not all that comes: two or more, rising, none of which has come. -/
theorem left_all {d : Nat → Dn} {n : Nat} (h : rtB d n = true) (hs : stkF d (cwF d n).2 n ≠ []) :
    (stkF d (cwF d n).2 n).length + (cwF d n).1.length = n ∧ 2 ≤ (stkF d (cwF d n).2 n).length ∧ (stkF d (cwF d n).2 n).Pairwise (· < ·) ∧ ∀ x ∈ stkF d (cwF d n).2 n, x ∉ (cwF d n).1 := by
  have hn := okU_num (rt_okU h)
  have hE := edU_rng hn n (Nat.le_refl _)
  have hne : ∀ e ∈ edU d n n, e.1 ≠ e.2 := fun e he => by
    obtain ⟨i, j, _, _, a, b⟩ := (edU_mem e).1 he
    rw [b]
    exact ldB_ne a
  have hi := cw_inv h
  have h0 : idx0 (cwF d n).2 = none := line_end hE hne hn _ _ _ (Inv.start _ n hE) (by simp)
  generalize (cwF d n).1 = C at *
  generalize (cwF d n).2 = W at *
  have hw : ∀ i : Nat, i < n → ((i : Int) + 1 ∈ C ↔ W.getD i 0 = -1) := fun i hi' => by
    constructor
    · exact hi.done i hi'
    · intro z
      by_cases c : (i : Int) + 1 ∈ C
      · exact c
      · have := hi.wait i hi' c; omega
  have hsl := stk_lf (d := d) (W := W) (k := n) hn
  have hl := lf_len hi.nod hi.rng hw
  have hx : ∀ i, i ∈ lfL W n → ∃ j, j ∈ lfL W n ∧ j ≠ i := fun i hm => by
    obtain ⟨hin, hv⟩ := lf_mem.1 hm
    have hc : (i : Int) + 1 ∉ C := fun q => hv ((hw i hin).1 q)
    have a := hi.wait i hin hc
    have b := idx0_no W h0 i (by rw [hi.len]; exact hin)
    have c : 0 < (edU d n n).countP (fun e => decide (e.2 = (i : Int) + 1) && !decide (e.1 ∈ C)) := by omega
    obtain ⟨e, he, q⟩ := List.countP_pos_iff.1 c
    simp at q
    obtain ⟨x, y, hx, hy, l, rfl⟩ := (edU_mem e).1 he
    refine ⟨x, lf_mem.2 ⟨hx, fun z => q.2 ?_⟩, fun e => ?_⟩
    · simp only; rw [hn x hx]; exact (hw x hx).2 z
    · have := hne _ he
      simp only at this
      have q1 := q.1
      simp only at q1
      rw [hn x hx, e] at this
      omega
  rw [hsl] at hs ⊢
  refine ⟨by rw [List.length_map]; exact hl, ?_, ?_, ?_⟩
  · rw [List.length_map]
    match e : lfL W n with
    | [] => rw [e] at hs; exact absurd rfl hs
    | [a] =>
      obtain ⟨j, hj, hja⟩ := hx a (by rw [e]; simp)
      rw [e] at hj
      simp at hj
      exact absurd hj hja
    | a :: b :: t => simp
  · rw [List.pairwise_map]
    exact lf_up.imp (fun h => by omega)
  · intro x hm
    obtain ⟨i, hm2, rfl⟩ := List.mem_map.1 hm
    obtain ⟨hin, hv⟩ := lf_mem.1 hm2
    exact fun q => hv ((hw i hin).1 q)
end Go.Proofs.YtbkbnfgjkefcmaaGreat
namespace Go.Proofs.YtbkbnfgjkefcmaaGreat
open Go.RowKit Go.Lib
set_option linter.unusedVariables false
set_option linter.unusedSimpArgs false
set_option maxRecDepth 20000
theorem ent_rhas (args : Array Value) (w : World) : (callFunc 31 args).run Tryz.prog w = .ok (.enter 31 args) w := by kernel_rfl
theorem ent_rld (args : Array Value) (w : World) : (callFunc 12 args).run Tryz.prog w = .ok (.enter 12 args) w := by kernel_rfl
/-- How long a row is. -/
def vlen : Value → Nat | .slice _ n _ => n | _ => 0
theorem OwnN.vlen {base : Nat} {w : World} {v : Value} {L : List Int} (h : OwnN base w v L) : Go.Proofs.YtbkbnfgjkefcmaaGreat.vlen v = L.length := by
  obtain ⟨a, c, rfl⟩ := h.len
  rfl
theorem OwnN.empty {base g : Nat} {w : World} (hb : base ≤ w.heap.size) (hg : w.heap.size = g) : OwnN base (w.alloc (.cells #[] 2)) (.slice (some ⟨g, 0, none⟩) 0 0) [] := by
  subst hg
  exact World.ownsRow_made w #[] 0 hb (by unfold maxLen; omega) rfl
theorem ro_none {d : Nat → Dn} {n : Nat} {C : List Int} (hl : C.length < n) (h : nxU d n C n = none) : roF d n (n - C.length) C = (C, false) := by
  rw [show n - C.length = (n - C.length - 1) + 1 by omega]
  unfold roF
  rw [if_pos hl, h]
theorem ro_some {d : Nat → Dn} {n : Nat} {C : List Int} {i : Nat} (hl : C.length < n) (h : nxU d n C n = some i) : roF d n (n - C.length) C = roF d n (n - (C ++ [(d i).n]).length) (C ++ [(d i).n]) := by
  have e : n - (C ++ [(d i).n]).length = n - C.length - 1 := by simp; omega
  rw [e]
  obtain ⟨m, hm⟩ : ∃ m, n - C.length = m + 1 := ⟨n - C.length - 1, by omega⟩
  rw [hm]
  show (if C.length < n then _ else _) = _
  rw [if_pos hl, h]
  rfl
theorem ro_end {d : Nat → Dn} {n : Nat} {C : List Int} (hl : C.length = n) : roF d n (n - C.length) C = (C, true) := by
  rw [hl, Nat.sub_self]
  rfl
theorem nxU_up {d : Nat → Dn} {n : Nat} {C : List Int} {i : Nat} : ∀ {k : Nat}, nxU d n C k = some i → ∀ m, k ≤ m → nxU d n C m = some i := by
  intro k h m hm
  induction m with
  | zero =>
    obtain rfl : k = 0 := by omega
    exact h
  | succ m ih =>
    by_cases e : k = m + 1
    · subst e; exact h
    · unfold nxU
      rw [ih (by omega)]
attribute [local go_sem] run_bits run_frombits run_store_float eqF
set_option maxHeartbeats 8000000 in
set_option maxRecDepth 20000 in
theorem rorder_any (v : Value) (n : Nat) (d : Nat → Dn) (w : World) (hv : DRow w v n d) (hr : rtB d n = true) : Calls Tryz.prog 15 #[v] w fun e w' => ∃ v', e = .returned (.tuple #[v', .bool (roF d n n []).2]) ∧ OwnN w.heap.size w' v' (roF d n n []).1 ∧ Old w w' := by
  have hn64 := rtB_64 hr
  have HNum := hid (okU_num (rt_okU hr))
  obtain ⟨hm, p, c, rfl, hnc, hcm, hc⟩ := hv
  have HC := hid hc
  have l0 : (n : Int) ≤ 64 := by omega
  have HR0 := hid (fun (C : List Int) (h : C = []) => show roF d n (n - C.length) C = roF d n n [] from by subst h; rfl)
  clear hc hm hnc hcm hr
  generalize roF d n n [] = RES at *
  go_enter Tryz.func15, Tryz.ntmps15
  go_upto_region 2 with fail
  generalize hw1 : w.alloc (.cells #[] 2) = w1 at *
  have O1 := hid (show OwnN w.heap.size w1 (.slice (some ⟨w.heap.size, 0, none⟩) 0 0) [] from by rw [← hw1]; exact OwnN.empty (Nat.le_refl _) rfl)
  have U1 := hid (show Old w w1 from by rw [← hw1]; exact (Old.refl w).alloc _)
  clear hw1
  go_loopw [4] (fun o wr => ∃ (C : List Int) (vo : Value), vo = o ∧ C.length ≤ n ∧ OwnN w.heap.size wr vo C ∧ roF d n (n - C.length) C = RES ∧ Old w wr) (fun o _ => n - vlen o)
  case atStart => exact ⟨[], _, rfl, Nat.zero_le _, O1.out, HR0.out [] rfl, U1.out⟩
  case round =>
    obtain ⟨C, vo, rfl, hCl, hO, hR, hu⟩ := hrel
    generalize wr = wa at *
    have HO := hid hO
    have HR := hid hR
    have HU := hid hu
    have HVl := hid hO.vlen
    have HNr := hid (fun (W : World) (u : Old wa W) => (hO.nrow (by omega)).old u)
    have HCL := hid hCl
    obtain ⟨po, co, eo⟩ := hO.len
    clear hO hR hu O1 U1 HR0
    by_cases hcl : C.length < n
    · have l1 : (C.length : Int) < (n : Int) := by omega
      subst eo
      have HNone := hid (ro_none (d := d) hcl)
      have HSome := hid (fun i => ro_some (d := d) (i := i) hcl)
      have HCl2 := hid hcl
      generalize hCLl : C.length = CL at *
      have HCl3 := hid hCLl
      clear hCLl hcl hCl
      go_wp2
      go_loopw [5, 6] (fun x i w2 => ∃ k : Nat, k ≤ n ∧ i = .int .i64 (k : Nat) ∧ ((x = .int .i64 0 ∧ nxU d n C k = none) ∨ ∃ j : Nat, j < n ∧ x = .int .i64 ((j : Int) + 1) ∧ nxU d n C n = some j) ∧ Old wa w2) (fun _ i _ => n - (intOf i).toNat)
      case atStart => exact ⟨0, Nat.zero_le _, rfl, Or.inl ⟨rfl, rfl⟩, Old.refl _⟩
      case round =>
        obtain ⟨k, hk, rfl, hx, hu⟩ := hrel
        have V := hid hu
        clear hu
        rcases hx with ⟨rfl, hnx⟩ | ⟨j, hj, rfl, hnx⟩
        · have HN := hid hnx
          clear hnx
          by_cases hkt : k < n
          · obtain ⟨g, off, ha, c0, hs⟩ := HC.out k hkt
            subst ha
            obtain ⟨x0, x1, x2, x3, x4, x5, x6⟩ := c0.old (HU.out.trans V.out)
            have m1 : (0 : Int) ≤ (k : Int) := by omega
            have m2 : (k : Int) < (n : Int) := by omega
            have HSt : Hid (nxU d n C (k + 1) = match nxU d n C k with | some j => some j | none => if (!hasN C (d k).n && frU d C k n) = true then some k else none) := hid rfl
            rw [HN.out] at HSt
            simp only at HSt
            have HUp := hid (fun (h : nxU d n C (k + 1) = some k) => nxU_up h n hkt)
            have HHk := hid (fun (W : World) (u : Old wa W) => rhasN_any _ C (d k).n W (HNr.out W u))
            have HDk := hid (fun (W : World) (u : Old wa W) => c0.old (HU.out.trans u))
            have HSk := hid (fun (W : World) (u : Old wa W) => hs.old (HU.out.trans u))
            have HNk := hid (HNum.out k hkt)
            clear c0 hs HN
            cases hh : hasN C (d k).n
            · rw [hh] at HSt HHk
              simp only [Bool.not_false, Bool.true_and] at HSt
              clear hh
              go_upto_region 8 with (go_at_call 31; refine (HHk.out _ V.out).mono ?_; rintro e w3 ⟨rfl, v3⟩; have V3 := hid (V.out.trans v3); clear v3)
              clear x0 x1 x2 x3 x4 x5 x6 HHk V
              go_wp2
              go_loopw [7, 8] (fun f i w4 => ∃ t : Nat, t ≤ n ∧ f = .bool (frU d C k t) ∧ i = .int .i64 (t : Nat) ∧ Old wa w4) (fun _ i _ => n - (intOf i).toNat)
              case atStart => exact ⟨0, Nat.zero_le _, rfl, rfl, V3.out⟩
              case round =>
                obtain ⟨t, ht, rfl, rfl, hu⟩ := hrel
                have V := hid hu
                clear hu V3
                by_cases htt : t < n
                · obtain ⟨g', off', ha', c1, hs1⟩ := HC.out t htt
                  cases ha'
                  have n1 : (0 : Int) ≤ (t : Int) := by omega
                  have n2 : (t : Int) < (n : Int) := by omega
                  have HD := hid (show DD3 g (off + t * 7) (off + k * 7) (d t) (d k) wr from ⟨c1.old (HU.out.trans V.out), HDk.out _ V.out⟩)
                  have HHt := hid (fun (W : World) (u : Old wr W) => rhasN_any _ C (d t).n W (HNr.out W (V.out.trans u)))
                  have HLt := hid (fun (W : World) (u : Old wr W) => rleads_any (d t) (d k) W (hs1.old (HU.out.trans (V.out.trans u))) (HSk.out W (V.out.trans u)))
                  have HFs : Hid (frU d C k (t + 1) = (frU d C k t && (hasN C (d t).n || !ldB (d t) (d k)))) := hid rfl
                  clear c1 hs1 HC
                  generalize frU d C k t = f at *
                  generalize hasN C (d t).n = q at *
                  generalize ldB (d t) (d k) = ld at *
                  generalize d t = a at *
                  generalize d k = b at *
                  cases f
                  · skip
                    have HE := hid (show frU d C k (t + 1) = false from by rw [HFs.out]; simp)
                    clear HFs
                    go_upto_region 12 with fail
                    refine wp_region_noPanic ?_
                    refine wp_region_held_drew (S := DD3 g (off + t * 7) (off + k * 7) a b) (by kernel_rfl) ?_ (fun hHeld => ?_)
                    · exact DD3.old ((Old.refl _).drew) HD.out
                    (try simp only [Act.put]); (try simp only [List.setIfInBounds_toArray]); (try simp only [List.set_cons_succ]); (try simp only [List.set_cons_zero])
                    clear hHeld
                    refine wpAnyH_take (i := 0) (oi := { dst := some 38, op := Op.move (Operand.tmp 7), type := 4, pos := "ref.go:94", after := #[], guard := none }) (v := ?vk1) rfl (by kernel_rfl) (by kernel_rfl) (by kernel_rfl) (fun _ _ _ h => h) (Or.inl ⟨by rfl, ?hk1⟩) (DD3.old ((Old.refl wr).drew) HD.out) ?rk1
                    case hk1 => (intro wz hSw; (try dsimp only at hSw); go_simp; try with_reducible rfl)
                    (try simp only [Act.put]); (try simp only [List.setIfInBounds_toArray]); (try simp only [List.set_cons_succ]); (try simp only [List.set_cons_zero])
                    refine wpAnyH_take (i := 1) (oi := { dst := some 39, op := Op.move (Operand.tmp 38), type := 4, pos := "ref.go:94", after := #[{ on := 0, ground := Ground.data }], guard := none }) (v := ?vk2) rfl (by kernel_rfl) (by kernel_rfl) (by kernel_rfl) (fun _ _ _ h => h) (Or.inl ⟨by rfl, ?hk2⟩) (DD3.old ((Old.refl wr).drew) HD.out) ?rk2
                    case hk2 => (intro wz hSw; (try dsimp only at hSw); go_simp; try with_reducible rfl)
                    (try simp only [Act.put]); (try simp only [List.setIfInBounds_toArray]); (try simp only [List.set_cons_succ]); (try simp only [List.set_cons_zero])
                    refine wpAnyH_take (i := 2) (oi := { dst := some 40, op := Op.move (Operand.tmp 4), type := 37, pos := "ref.go:94", after := #[{ on := 1, ground := Ground.guard }], guard := some (1, true) }) (v := undef) rfl (by kernel_rfl) (by kernel_rfl) (by kernel_rfl) (fun _ _ _ h => h) (Or.inr ⟨by rfl, rfl⟩) (DD3.old ((Old.refl wr).drew) HD.out) ?_
                    (try simp only [Act.put]); (try simp only [List.setIfInBounds_toArray]); (try simp only [List.set_cons_succ]); (try simp only [List.set_cons_zero])
                    refine wpAnyH_take (i := 3) (oi := { dst := some 41, op := Op.move (Operand.tmp 0), type := 22, pos := "ref.go:94", after := #[{ on := 1, ground := Ground.guard }], guard := some (1, true) }) (v := undef) rfl (by kernel_rfl) (by kernel_rfl) (by kernel_rfl) (fun _ _ _ h => h) (Or.inr ⟨by rfl, rfl⟩) (DD3.old ((Old.refl wr).drew) HD.out) ?_
                    (try simp only [Act.put]); (try simp only [List.setIfInBounds_toArray]); (try simp only [List.set_cons_succ]); (try simp only [List.set_cons_zero])
                    refine wpAnyH_take (i := 4) (oi := { dst := some 42, op := Op.move (Operand.tmp 8), type := 3, pos := "ref.go:94", after := #[{ on := 1, ground := Ground.guard }], guard := some (1, true) }) (v := undef) rfl (by kernel_rfl) (by kernel_rfl) (by kernel_rfl) (fun _ _ _ h => h) (Or.inr ⟨by rfl, rfl⟩) (DD3.old ((Old.refl wr).drew) HD.out) ?_
                    (try simp only [Act.put]); (try simp only [List.setIfInBounds_toArray]); (try simp only [List.set_cons_succ]); (try simp only [List.set_cons_zero])
                    refine wpAnyH_take (i := 5) (oi := { dst := some 43, op := Op.indexAddr 22 (Operand.tmp 41) (Operand.tmp 42), type := 0, pos := "ref.go:94", after := #[{ on := 3, ground := Ground.data }, { on := 4, ground := Ground.data }, { on := 1, ground := Ground.guard }], guard := some (1, true) }) (v := undef) rfl (by kernel_rfl) (by kernel_rfl) (by kernel_rfl) (fun _ _ _ h => h) (Or.inr ⟨by rfl, rfl⟩) (DD3.old ((Old.refl wr).drew) HD.out) ?_
                    (try simp only [Act.put]); (try simp only [List.setIfInBounds_toArray]); (try simp only [List.set_cons_succ]); (try simp only [List.set_cons_zero])
                    refine wpAnyH_take (i := 6) (oi := { dst := some 44, op := Op.fieldAddr 33 (Operand.tmp 43) 0, type := 0, pos := "ref.go:94", after := #[{ on := 5, ground := Ground.data }, { on := 1, ground := Ground.guard }], guard := some (1, true) }) (v := undef) rfl (by kernel_rfl) (by kernel_rfl) (by kernel_rfl) (fun _ _ _ h => h) (Or.inr ⟨by rfl, rfl⟩) (DD3.old ((Old.refl wr).drew) HD.out) ?_
                    (try simp only [Act.put]); (try simp only [List.setIfInBounds_toArray]); (try simp only [List.set_cons_succ]); (try simp only [List.set_cons_zero])
                    refine wpAnyH_take (i := 7) (oi := { dst := some 45, op := Op.load 2 (Operand.tmp 44), type := 2, pos := "ref.go:94", after := #[{ on := 6, ground := Ground.data }, { on := 1, ground := Ground.guard }], guard := some (1, true) }) (v := undef) rfl (by kernel_rfl) (by kernel_rfl) (by kernel_rfl) (fun _ _ _ h => h) (Or.inr ⟨by rfl, rfl⟩) (DD3.old ((Old.refl wr).drew) HD.out) ?_
                    (try simp only [Act.put]); (try simp only [List.setIfInBounds_toArray]); (try simp only [List.set_cons_succ]); (try simp only [List.set_cons_zero])
                    refine wpAnyH_take (i := 8) (oi := { dst := some 46, op := Op.call { callee := Callee.value (Operand.func 31), args := #[Operand.tmp 40, Operand.tmp 45], argTypes := #[37, 2] }, type := 4, pos := "ref.go:94", after := #[{ on := 2, ground := Ground.data }, { on := 7, ground := Ground.data }, { on := 1, ground := Ground.chain }, { on := 1, ground := Ground.guard }], guard := some (1, true) }) (v := undef) rfl (by kernel_rfl) (by kernel_rfl) (by kernel_rfl) (fun _ _ _ h => h) (Or.inr ⟨by rfl, rfl⟩) (DD3.old ((Old.refl wr).drew) HD.out) ?_
                    (try simp only [Act.put]); (try simp only [List.setIfInBounds_toArray]); (try simp only [List.set_cons_succ]); (try simp only [List.set_cons_zero])
                    refine wpAnyH_take (i := 9) (oi := { dst := some 47, op := Op.move (Operand.tmp 46), type := 4, pos := "ref.go:94", after := #[{ on := 8, ground := Ground.data }, { on := 8, ground := Ground.chain }, { on := 1, ground := Ground.guard }], guard := some (1, true) }) (v := undef) rfl (by kernel_rfl) (by kernel_rfl) (by kernel_rfl) (fun _ _ _ h => h) (Or.inr ⟨by rfl, rfl⟩) (DD3.old ((Old.refl wr).drew) HD.out) ?_
                    (try simp only [Act.put]); (try simp only [List.setIfInBounds_toArray]); (try simp only [List.set_cons_succ]); (try simp only [List.set_cons_zero])
                    refine wpAnyH_take (i := 10) (oi := { dst := some 48, op := Op.move (Operand.tmp 0), type := 22, pos := "ref.go:94", after := #[{ on := 9, ground := Ground.guard }], guard := some (9, false) }) (v := undef) rfl (by kernel_rfl) (by kernel_rfl) (by kernel_rfl) (fun _ _ _ h => h) (Or.inr ⟨by rfl, rfl⟩) (DD3.old ((Old.refl wr).drew) HD.out) ?_
                    (try simp only [Act.put]); (try simp only [List.setIfInBounds_toArray]); (try simp only [List.set_cons_succ]); (try simp only [List.set_cons_zero])
                    refine wpAnyH_take (i := 11) (oi := { dst := some 49, op := Op.move (Operand.tmp 8), type := 3, pos := "ref.go:94", after := #[{ on := 9, ground := Ground.guard }], guard := some (9, false) }) (v := undef) rfl (by kernel_rfl) (by kernel_rfl) (by kernel_rfl) (fun _ _ _ h => h) (Or.inr ⟨by rfl, rfl⟩) (DD3.old ((Old.refl wr).drew) HD.out) ?_
                    (try simp only [Act.put]); (try simp only [List.setIfInBounds_toArray]); (try simp only [List.set_cons_succ]); (try simp only [List.set_cons_zero])
                    refine wpAnyH_take (i := 12) (oi := { dst := some 50, op := Op.indexAddr 22 (Operand.tmp 48) (Operand.tmp 49), type := 0, pos := "ref.go:94", after := #[{ on := 10, ground := Ground.data }, { on := 11, ground := Ground.data }, { on := 9, ground := Ground.guard }], guard := some (9, false) }) (v := undef) rfl (by kernel_rfl) (by kernel_rfl) (by kernel_rfl) (fun _ _ _ h => h) (Or.inr ⟨by rfl, rfl⟩) (DD3.old ((Old.refl wr).drew) HD.out) ?_
                    (try simp only [Act.put]); (try simp only [List.setIfInBounds_toArray]); (try simp only [List.set_cons_succ]); (try simp only [List.set_cons_zero])
                    refine wpAnyH_take (i := 13) (oi := { dst := some 51, op := Op.load 33 (Operand.tmp 50), type := 33, pos := "ref.go:94", after := #[{ on := 12, ground := Ground.data }, { on := 9, ground := Ground.guard }], guard := some (9, false) }) (v := undef) rfl (by kernel_rfl) (by kernel_rfl) (by kernel_rfl) (fun _ _ _ h => h) (Or.inr ⟨by rfl, rfl⟩) (DD3.old ((Old.refl wr).drew) HD.out) ?_
                    (try simp only [Act.put]); (try simp only [List.setIfInBounds_toArray]); (try simp only [List.set_cons_succ]); (try simp only [List.set_cons_zero])
                    refine wpAnyH_take (i := 14) (oi := { dst := some 52, op := Op.move (Operand.tmp 0), type := 22, pos := "ref.go:94", after := #[{ on := 9, ground := Ground.guard }], guard := some (9, false) }) (v := undef) rfl (by kernel_rfl) (by kernel_rfl) (by kernel_rfl) (fun _ _ _ h => h) (Or.inr ⟨by rfl, rfl⟩) (DD3.old ((Old.refl wr).drew) HD.out) ?_
                    (try simp only [Act.put]); (try simp only [List.setIfInBounds_toArray]); (try simp only [List.set_cons_succ]); (try simp only [List.set_cons_zero])
                    refine wpAnyH_take (i := 15) (oi := { dst := some 53, op := Op.move (Operand.tmp 6), type := 3, pos := "ref.go:94", after := #[{ on := 9, ground := Ground.guard }], guard := some (9, false) }) (v := undef) rfl (by kernel_rfl) (by kernel_rfl) (by kernel_rfl) (fun _ _ _ h => h) (Or.inr ⟨by rfl, rfl⟩) (DD3.old ((Old.refl wr).drew) HD.out) ?_
                    (try simp only [Act.put]); (try simp only [List.setIfInBounds_toArray]); (try simp only [List.set_cons_succ]); (try simp only [List.set_cons_zero])
                    refine wpAnyH_take (i := 16) (oi := { dst := some 54, op := Op.indexAddr 22 (Operand.tmp 52) (Operand.tmp 53), type := 0, pos := "ref.go:94", after := #[{ on := 14, ground := Ground.data }, { on := 15, ground := Ground.data }, { on := 9, ground := Ground.guard }], guard := some (9, false) }) (v := undef) rfl (by kernel_rfl) (by kernel_rfl) (by kernel_rfl) (fun _ _ _ h => h) (Or.inr ⟨by rfl, rfl⟩) (DD3.old ((Old.refl wr).drew) HD.out) ?_
                    (try simp only [Act.put]); (try simp only [List.setIfInBounds_toArray]); (try simp only [List.set_cons_succ]); (try simp only [List.set_cons_zero])
                    refine wpAnyH_take (i := 17) (oi := { dst := some 55, op := Op.load 33 (Operand.tmp 54), type := 33, pos := "ref.go:94", after := #[{ on := 16, ground := Ground.data }, { on := 9, ground := Ground.guard }], guard := some (9, false) }) (v := undef) rfl (by kernel_rfl) (by kernel_rfl) (by kernel_rfl) (fun _ _ _ h => h) (Or.inr ⟨by rfl, rfl⟩) (DD3.old ((Old.refl wr).drew) HD.out) ?_
                    (try simp only [Act.put]); (try simp only [List.setIfInBounds_toArray]); (try simp only [List.set_cons_succ]); (try simp only [List.set_cons_zero])
                    refine wpAnyH_take (i := 18) (oi := { dst := some 56, op := Op.call { callee := Callee.value (Operand.func 12), args := #[Operand.tmp 51, Operand.tmp 55], argTypes := #[33, 33] }, type := 4, pos := "ref.go:94", after := #[{ on := 13, ground := Ground.data }, { on := 17, ground := Ground.data }, { on := 9, ground := Ground.chain }, { on := 9, ground := Ground.guard }], guard := some (9, false) }) (v := undef) rfl (by kernel_rfl) (by kernel_rfl) (by kernel_rfl) (fun _ _ _ h => h) (Or.inr ⟨by rfl, rfl⟩) (DD3.old ((Old.refl wr).drew) HD.out) ?_
                    (try simp only [Act.put]); (try simp only [List.setIfInBounds_toArray]); (try simp only [List.set_cons_succ]); (try simp only [List.set_cons_zero])
                    refine wpAnyH_take (i := 19) (oi := { dst := some 57, op := Op.unOp UnOp.not 4 (Operand.tmp 56), type := 4, pos := "ref.go:94", after := #[{ on := 18, ground := Ground.data }, { on := 9, ground := Ground.guard }], guard := some (9, false) }) (v := undef) rfl (by kernel_rfl) (by kernel_rfl) (by kernel_rfl) (fun _ _ _ h => h) (Or.inr ⟨by rfl, rfl⟩) (DD3.old ((Old.refl wr).drew) HD.out) ?_
                    (try simp only [Act.put]); (try simp only [List.setIfInBounds_toArray]); (try simp only [List.set_cons_succ]); (try simp only [List.set_cons_zero])
                    refine wpAnyH_take (i := 20) (oi := { dst := some 58, op := Op.pick (Operand.tmp 47) (Operand.const (Value.bool true)) (Operand.tmp 57), type := 4, pos := "ref.go:94", after := #[{ on := 9, ground := Ground.data }, { on := 19, ground := Ground.data }, { on := 1, ground := Ground.guard }], guard := some (1, true) }) (v := undef) rfl (by kernel_rfl) (by kernel_rfl) (by kernel_rfl) (fun _ _ _ h => h) (Or.inr ⟨by rfl, rfl⟩) (DD3.old ((Old.refl wr).drew) HD.out) ?_
                    (try simp only [Act.put]); (try simp only [List.setIfInBounds_toArray]); (try simp only [List.set_cons_succ]); (try simp only [List.set_cons_zero])
                    refine wpAnyH_take (i := 21) (oi := { dst := some 59, op := Op.pick (Operand.tmp 39) (Operand.tmp 58) (Operand.const (Value.bool false)), type := 4, pos := "ref.go:94", after := #[{ on := 1, ground := Ground.data }, { on := 20, ground := Ground.data }], guard := none }) (v := ?vk3) rfl (by kernel_rfl) (by kernel_rfl) (by kernel_rfl) (fun _ _ _ h => h) (Or.inl ⟨by rfl, ?hk3⟩) (DD3.old ((Old.refl wr).drew) HD.out) ?rk3
                    case hk3 => (intro wz hSw; (try dsimp only at hSw); go_simp; try with_reducible rfl)
                    (try simp only [Act.put]); (try simp only [List.setIfInBounds_toArray]); (try simp only [List.set_cons_succ]); (try simp only [List.set_cons_zero])
                    refine wpAnyH_ready (rs := [22]) (by kernel_rfl) (by simp) ?_
                    refine AllReadyH.cons (o := { dst := some 7, op := Op.assign (Operand.tmp 59), type := 4, pos := "ref.go:94", after := #[{ on := 21, ground := Ground.data }, { on := 18, ground := Ground.chain }, { on := 0, ground := Ground.phase }, { on := 1, ground := Ground.phase }, { on := 2, ground := Ground.phase }, { on := 3, ground := Ground.phase }, { on := 4, ground := Ground.phase }, { on := 5, ground := Ground.phase }, { on := 6, ground := Ground.phase }, { on := 7, ground := Ground.phase }, { on := 8, ground := Ground.phase }, { on := 9, ground := Ground.phase }, { on := 10, ground := Ground.phase }, { on := 11, ground := Ground.phase }, { on := 12, ground := Ground.phase }, { on := 13, ground := Ground.phase }, { on := 14, ground := Ground.phase }, { on := 15, ground := Ground.phase }, { on := 16, ground := Ground.phase }, { on := 17, ground := Ground.phase }, { on := 18, ground := Ground.phase }, { on := 19, ground := Ground.phase }, { on := 20, ground := Ground.phase }, { on := 21, ground := Ground.phase }], guard := none }) rfl (fun K hK => ?_) AllReadyH.nil
                    go_simp
                    refine hK.out _ _ (DD3.old ((Old.refl wr).drew) HD.out) (fun _ => ?_)
                    clear hK K
                    (try simp only [Act.put]); (try simp only [List.setIfInBounds_toArray]); (try simp only [List.set_cons_succ]); (try simp only [List.set_cons_zero])
                    refine wpAnyH_done (by kernel_rfl) ?_ _
                    refine NoPanic.normal ?_
                    have V5 := hid ((Old.refl wr).drew)
                    go_wp2
                    go_roundw
                    case rel => exact ⟨t + 1, htt, by rw [HE.out], by go_num, V.out.trans V5.out⟩
                    case measure => simp [intOf]; omega
                  · cases q
                    · cases ld
                      · skip
                        have HE := hid (show frU d C k (t + 1) = true from by rw [HFs.out]; simp)
                        clear HFs
                        go_upto_region 12 with fail
                        refine wp_region_noPanic ?_
                        refine wp_region_held_drew (S := DD3 g (off + t * 7) (off + k * 7) a b) (by kernel_rfl) ?_ (fun hHeld => ?_)
                        · exact DD3.old ((Old.refl _).drew) HD.out
                        (try simp only [Act.put]); (try simp only [List.setIfInBounds_toArray]); (try simp only [List.set_cons_succ]); (try simp only [List.set_cons_zero])
                        clear hHeld
                        refine wpAnyH_take (i := 0) (oi := { dst := some 38, op := Op.move (Operand.tmp 7), type := 4, pos := "ref.go:94", after := #[], guard := none }) (v := ?vk4) rfl (by kernel_rfl) (by kernel_rfl) (by kernel_rfl) (fun _ _ _ h => h) (Or.inl ⟨by rfl, ?hk4⟩) (DD3.old ((Old.refl wr).drew) HD.out) ?rk4
                        case hk4 => (intro wz hSw; (try dsimp only at hSw); go_simp; try with_reducible rfl)
                        (try simp only [Act.put]); (try simp only [List.setIfInBounds_toArray]); (try simp only [List.set_cons_succ]); (try simp only [List.set_cons_zero])
                        refine wpAnyH_take (i := 1) (oi := { dst := some 39, op := Op.move (Operand.tmp 38), type := 4, pos := "ref.go:94", after := #[{ on := 0, ground := Ground.data }], guard := none }) (v := ?vk5) rfl (by kernel_rfl) (by kernel_rfl) (by kernel_rfl) (fun _ _ _ h => h) (Or.inl ⟨by rfl, ?hk5⟩) (DD3.old ((Old.refl wr).drew) HD.out) ?rk5
                        case hk5 => (intro wz hSw; (try dsimp only at hSw); go_simp; try with_reducible rfl)
                        (try simp only [Act.put]); (try simp only [List.setIfInBounds_toArray]); (try simp only [List.set_cons_succ]); (try simp only [List.set_cons_zero])
                        refine wpAnyH_take (i := 2) (oi := { dst := some 40, op := Op.move (Operand.tmp 4), type := 37, pos := "ref.go:94", after := #[{ on := 1, ground := Ground.guard }], guard := some (1, true) }) (v := ?vk6) rfl (by kernel_rfl) (by kernel_rfl) (by kernel_rfl) (fun _ _ _ h => h) (Or.inl ⟨by rfl, ?hk6⟩) (DD3.old ((Old.refl wr).drew) HD.out) ?rk6
                        case hk6 => (intro wz hSw; (try dsimp only at hSw); go_simp; try with_reducible rfl)
                        (try simp only [Act.put]); (try simp only [List.setIfInBounds_toArray]); (try simp only [List.set_cons_succ]); (try simp only [List.set_cons_zero])
                        refine wpAnyH_take (i := 3) (oi := { dst := some 41, op := Op.move (Operand.tmp 0), type := 22, pos := "ref.go:94", after := #[{ on := 1, ground := Ground.guard }], guard := some (1, true) }) (v := ?vk7) rfl (by kernel_rfl) (by kernel_rfl) (by kernel_rfl) (fun _ _ _ h => h) (Or.inl ⟨by rfl, ?hk7⟩) (DD3.old ((Old.refl wr).drew) HD.out) ?rk7
                        case hk7 => (intro wz hSw; (try dsimp only at hSw); go_simp; try with_reducible rfl)
                        (try simp only [Act.put]); (try simp only [List.setIfInBounds_toArray]); (try simp only [List.set_cons_succ]); (try simp only [List.set_cons_zero])
                        refine wpAnyH_take (i := 4) (oi := { dst := some 42, op := Op.move (Operand.tmp 8), type := 3, pos := "ref.go:94", after := #[{ on := 1, ground := Ground.guard }], guard := some (1, true) }) (v := ?vk8) rfl (by kernel_rfl) (by kernel_rfl) (by kernel_rfl) (fun _ _ _ h => h) (Or.inl ⟨by rfl, ?hk8⟩) (DD3.old ((Old.refl wr).drew) HD.out) ?rk8
                        case hk8 => (intro wz hSw; (try dsimp only at hSw); go_simp; try with_reducible rfl)
                        (try simp only [Act.put]); (try simp only [List.setIfInBounds_toArray]); (try simp only [List.set_cons_succ]); (try simp only [List.set_cons_zero])
                        refine wpAnyH_take (i := 5) (oi := { dst := some 43, op := Op.indexAddr 22 (Operand.tmp 41) (Operand.tmp 42), type := 0, pos := "ref.go:94", after := #[{ on := 3, ground := Ground.data }, { on := 4, ground := Ground.data }, { on := 1, ground := Ground.guard }], guard := some (1, true) }) (v := ?vk9) rfl (by kernel_rfl) (by kernel_rfl) (by kernel_rfl) (fun _ _ _ h => h) (Or.inl ⟨by rfl, ?hk9⟩) (DD3.old ((Old.refl wr).drew) HD.out) ?rk9
                        case hk9 => (intro wz hSw; (try dsimp only at hSw); go_simp; try with_reducible rfl)
                        (try simp only [Act.put]); (try simp only [List.setIfInBounds_toArray]); (try simp only [List.set_cons_succ]); (try simp only [List.set_cons_zero])
                        refine wpAnyH_take (i := 6) (oi := { dst := some 44, op := Op.fieldAddr 33 (Operand.tmp 43) 0, type := 0, pos := "ref.go:94", after := #[{ on := 5, ground := Ground.data }, { on := 1, ground := Ground.guard }], guard := some (1, true) }) (v := ?vk10) rfl (by kernel_rfl) (by kernel_rfl) (by kernel_rfl) (fun _ _ _ h => h) (Or.inl ⟨by rfl, ?hk10⟩) (DD3.old ((Old.refl wr).drew) HD.out) ?rk10
                        case hk10 => (intro wz hSw; (try dsimp only at hSw); go_simp; try with_reducible rfl)
                        (try simp only [Act.put]); (try simp only [List.setIfInBounds_toArray]); (try simp only [List.set_cons_succ]); (try simp only [List.set_cons_zero])
                        refine wpAnyH_take (i := 7) (oi := { dst := some 45, op := Op.load 2 (Operand.tmp 44), type := 2, pos := "ref.go:94", after := #[{ on := 6, ground := Ground.data }, { on := 1, ground := Ground.guard }], guard := some (1, true) }) (v := ?vk11) rfl (by kernel_rfl) (by kernel_rfl) (by kernel_rfl) (fun _ _ _ h => h) (Or.inl ⟨by rfl, ?hk11⟩) (DD3.old ((Old.refl wr).drew) HD.out) ?rk11
                        case hk11 => (intro wz hSw; (try dsimp only at hSw); go_simp; try with_reducible rfl)
                        (try simp only [Act.put]); (try simp only [List.setIfInBounds_toArray]); (try simp only [List.set_cons_succ]); (try simp only [List.set_cons_zero])
                        refine wpAnyH_ready (rs := [8]) (by kernel_rfl) (by simp) ?_
                        refine AllReadyH.cons (o := { dst := some 46, op := Op.call { callee := Callee.value (Operand.func 31), args := #[Operand.tmp 40, Operand.tmp 45], argTypes := #[37, 2] }, type := 4, pos := "ref.go:94", after := #[{ on := 2, ground := Ground.data }, { on := 7, ground := Ground.data }, { on := 1, ground := Ground.chain }, { on := 1, ground := Ground.guard }], guard := some (1, true) }) rfl (fun K hK => ?_) AllReadyH.nil
                        refine wantCall2 ?_ 31 (.tmp 40) (.tmp 45) #[37, 2] ?_ (.slice po CL co) (.int .i64 a.n) ?_ ?_ ?_ (ent_rhas _ _) ?_
                        · rfl
                        · rfl
                        · rfl
                        · rfl
                        · rfl
                        refine (HHt.out _ ((Old.refl wr).drew)).mono ?_
                        rintro o x12 ⟨rfl, b12⟩
                        refine ⟨_, rfl, ?_⟩
                        have U12 := ((Old.refl wr).drew).trans b12
                        refine hK.out _ _ (DD3.old U12 HD.out) (fun _ => ?_)
                        clear hK K
                        (try simp only [Act.put]); (try simp only [List.setIfInBounds_toArray]); (try simp only [List.set_cons_succ]); (try simp only [List.set_cons_zero])
                        refine wpAnyH_take (i := 9) (oi := { dst := some 47, op := Op.move (Operand.tmp 46), type := 4, pos := "ref.go:94", after := #[{ on := 8, ground := Ground.data }, { on := 8, ground := Ground.chain }, { on := 1, ground := Ground.guard }], guard := some (1, true) }) (v := ?vk13) rfl (by kernel_rfl) (by kernel_rfl) (by kernel_rfl) (fun _ _ _ h => h) (Or.inl ⟨by rfl, ?hk13⟩) (DD3.old U12 HD.out) ?rk13
                        case hk13 => (intro wz hSw; (try dsimp only at hSw); go_simp; try with_reducible rfl)
                        (try simp only [Act.put]); (try simp only [List.setIfInBounds_toArray]); (try simp only [List.set_cons_succ]); (try simp only [List.set_cons_zero])
                        refine wpAnyH_take (i := 10) (oi := { dst := some 48, op := Op.move (Operand.tmp 0), type := 22, pos := "ref.go:94", after := #[{ on := 9, ground := Ground.guard }], guard := some (9, false) }) (v := ?vk14) rfl (by kernel_rfl) (by kernel_rfl) (by kernel_rfl) (fun _ _ _ h => h) (Or.inl ⟨by rfl, ?hk14⟩) (DD3.old U12 HD.out) ?rk14
                        case hk14 => (intro wz hSw; (try dsimp only at hSw); go_simp; try with_reducible rfl)
                        (try simp only [Act.put]); (try simp only [List.setIfInBounds_toArray]); (try simp only [List.set_cons_succ]); (try simp only [List.set_cons_zero])
                        refine wpAnyH_take (i := 11) (oi := { dst := some 49, op := Op.move (Operand.tmp 8), type := 3, pos := "ref.go:94", after := #[{ on := 9, ground := Ground.guard }], guard := some (9, false) }) (v := ?vk15) rfl (by kernel_rfl) (by kernel_rfl) (by kernel_rfl) (fun _ _ _ h => h) (Or.inl ⟨by rfl, ?hk15⟩) (DD3.old U12 HD.out) ?rk15
                        case hk15 => (intro wz hSw; (try dsimp only at hSw); go_simp; try with_reducible rfl)
                        (try simp only [Act.put]); (try simp only [List.setIfInBounds_toArray]); (try simp only [List.set_cons_succ]); (try simp only [List.set_cons_zero])
                        refine wpAnyH_take (i := 12) (oi := { dst := some 50, op := Op.indexAddr 22 (Operand.tmp 48) (Operand.tmp 49), type := 0, pos := "ref.go:94", after := #[{ on := 10, ground := Ground.data }, { on := 11, ground := Ground.data }, { on := 9, ground := Ground.guard }], guard := some (9, false) }) (v := ?vk16) rfl (by kernel_rfl) (by kernel_rfl) (by kernel_rfl) (fun _ _ _ h => h) (Or.inl ⟨by rfl, ?hk16⟩) (DD3.old U12 HD.out) ?rk16
                        case hk16 => (intro wz hSw; (try dsimp only at hSw); go_simp; try with_reducible rfl)
                        (try simp only [Act.put]); (try simp only [List.setIfInBounds_toArray]); (try simp only [List.set_cons_succ]); (try simp only [List.set_cons_zero])
                        refine wpAnyH_take (i := 13) (oi := { dst := some 51, op := Op.load 33 (Operand.tmp 50), type := 33, pos := "ref.go:94", after := #[{ on := 12, ground := Ground.data }, { on := 9, ground := Ground.guard }], guard := some (9, false) }) (v := ?vk17) rfl (by kernel_rfl) (by kernel_rfl) (by kernel_rfl) (fun _ _ _ h => h) (Or.inl ⟨by rfl, ?hk17⟩) (DD3.old U12 HD.out) ?rk17
                        case hk17 => (intro wz hSw; (try dsimp only at hSw); go_simp; try with_reducible rfl)
                        (try simp only [Act.put]); (try simp only [List.setIfInBounds_toArray]); (try simp only [List.set_cons_succ]); (try simp only [List.set_cons_zero])
                        refine wpAnyH_take (i := 14) (oi := { dst := some 52, op := Op.move (Operand.tmp 0), type := 22, pos := "ref.go:94", after := #[{ on := 9, ground := Ground.guard }], guard := some (9, false) }) (v := ?vk18) rfl (by kernel_rfl) (by kernel_rfl) (by kernel_rfl) (fun _ _ _ h => h) (Or.inl ⟨by rfl, ?hk18⟩) (DD3.old U12 HD.out) ?rk18
                        case hk18 => (intro wz hSw; (try dsimp only at hSw); go_simp; try with_reducible rfl)
                        (try simp only [Act.put]); (try simp only [List.setIfInBounds_toArray]); (try simp only [List.set_cons_succ]); (try simp only [List.set_cons_zero])
                        refine wpAnyH_take (i := 15) (oi := { dst := some 53, op := Op.move (Operand.tmp 6), type := 3, pos := "ref.go:94", after := #[{ on := 9, ground := Ground.guard }], guard := some (9, false) }) (v := ?vk19) rfl (by kernel_rfl) (by kernel_rfl) (by kernel_rfl) (fun _ _ _ h => h) (Or.inl ⟨by rfl, ?hk19⟩) (DD3.old U12 HD.out) ?rk19
                        case hk19 => (intro wz hSw; (try dsimp only at hSw); go_simp; try with_reducible rfl)
                        (try simp only [Act.put]); (try simp only [List.setIfInBounds_toArray]); (try simp only [List.set_cons_succ]); (try simp only [List.set_cons_zero])
                        refine wpAnyH_take (i := 16) (oi := { dst := some 54, op := Op.indexAddr 22 (Operand.tmp 52) (Operand.tmp 53), type := 0, pos := "ref.go:94", after := #[{ on := 14, ground := Ground.data }, { on := 15, ground := Ground.data }, { on := 9, ground := Ground.guard }], guard := some (9, false) }) (v := ?vk20) rfl (by kernel_rfl) (by kernel_rfl) (by kernel_rfl) (fun _ _ _ h => h) (Or.inl ⟨by rfl, ?hk20⟩) (DD3.old U12 HD.out) ?rk20
                        case hk20 => (intro wz hSw; (try dsimp only at hSw); go_simp; try with_reducible rfl)
                        (try simp only [Act.put]); (try simp only [List.setIfInBounds_toArray]); (try simp only [List.set_cons_succ]); (try simp only [List.set_cons_zero])
                        refine wpAnyH_take (i := 17) (oi := { dst := some 55, op := Op.load 33 (Operand.tmp 54), type := 33, pos := "ref.go:94", after := #[{ on := 16, ground := Ground.data }, { on := 9, ground := Ground.guard }], guard := some (9, false) }) (v := ?vk21) rfl (by kernel_rfl) (by kernel_rfl) (by kernel_rfl) (fun _ _ _ h => h) (Or.inl ⟨by rfl, ?hk21⟩) (DD3.old U12 HD.out) ?rk21
                        case hk21 => (intro wz hSw; (try dsimp only at hSw); go_simp; try with_reducible rfl)
                        (try simp only [Act.put]); (try simp only [List.setIfInBounds_toArray]); (try simp only [List.set_cons_succ]); (try simp only [List.set_cons_zero])
                        refine wpAnyH_ready (rs := [18]) (by kernel_rfl) (by simp) ?_
                        refine AllReadyH.cons (o := { dst := some 56, op := Op.call { callee := Callee.value (Operand.func 12), args := #[Operand.tmp 51, Operand.tmp 55], argTypes := #[33, 33] }, type := 4, pos := "ref.go:94", after := #[{ on := 13, ground := Ground.data }, { on := 17, ground := Ground.data }, { on := 9, ground := Ground.chain }, { on := 9, ground := Ground.guard }], guard := some (9, false) }) rfl (fun K hK => ?_) AllReadyH.nil
                        refine wantCall2 ?_ 12 (.tmp 51) (.tmp 55) #[33, 33] ?_ (.agg #[.int .i64 a.n, .int .i64 a.s.s1, .int .i64 a.s.s2, .int .i64 a.s.s3, .slice a.s.a1 a.s.n1 a.s.c1, .slice a.s.a2 a.s.n2 a.s.c2, .slice a.s.a3 a.s.n3 a.s.c3]) (.agg #[.int .i64 b.n, .int .i64 b.s.s1, .int .i64 b.s.s2, .int .i64 b.s.s3, .slice b.s.a1 b.s.n1 b.s.c1, .slice b.s.a2 b.s.n2 b.s.c2, .slice b.s.a3 b.s.n3 b.s.c3]) ?_ ?_ ?_ (ent_rld _ _) ?_
                        · rfl
                        · rfl
                        · rfl
                        · rfl
                        · rfl
                        refine (HLt.out _ U12).mono ?_
                        rintro o x22 ⟨rfl, b22⟩
                        refine ⟨_, rfl, ?_⟩
                        have U22 := U12.trans b22
                        refine hK.out _ _ (DD3.old U22 HD.out) (fun _ => ?_)
                        clear hK K
                        (try simp only [Act.put]); (try simp only [List.setIfInBounds_toArray]); (try simp only [List.set_cons_succ]); (try simp only [List.set_cons_zero])
                        refine wpAnyH_take (i := 19) (oi := { dst := some 57, op := Op.unOp UnOp.not 4 (Operand.tmp 56), type := 4, pos := "ref.go:94", after := #[{ on := 18, ground := Ground.data }, { on := 9, ground := Ground.guard }], guard := some (9, false) }) (v := ?vk23) rfl (by kernel_rfl) (by kernel_rfl) (by kernel_rfl) (fun _ _ _ h => h) (Or.inl ⟨by rfl, ?hk23⟩) (DD3.old U22 HD.out) ?rk23
                        case hk23 => (intro wz hSw; (try dsimp only at hSw); go_simp; try with_reducible rfl)
                        (try simp only [Act.put]); (try simp only [List.setIfInBounds_toArray]); (try simp only [List.set_cons_succ]); (try simp only [List.set_cons_zero])
                        refine wpAnyH_take (i := 20) (oi := { dst := some 58, op := Op.pick (Operand.tmp 47) (Operand.const (Value.bool true)) (Operand.tmp 57), type := 4, pos := "ref.go:94", after := #[{ on := 9, ground := Ground.data }, { on := 19, ground := Ground.data }, { on := 1, ground := Ground.guard }], guard := some (1, true) }) (v := ?vk24) rfl (by kernel_rfl) (by kernel_rfl) (by kernel_rfl) (fun _ _ _ h => h) (Or.inl ⟨by rfl, ?hk24⟩) (DD3.old U22 HD.out) ?rk24
                        case hk24 => (intro wz hSw; (try dsimp only at hSw); go_simp; try with_reducible rfl)
                        (try simp only [Act.put]); (try simp only [List.setIfInBounds_toArray]); (try simp only [List.set_cons_succ]); (try simp only [List.set_cons_zero])
                        refine wpAnyH_take (i := 21) (oi := { dst := some 59, op := Op.pick (Operand.tmp 39) (Operand.tmp 58) (Operand.const (Value.bool false)), type := 4, pos := "ref.go:94", after := #[{ on := 1, ground := Ground.data }, { on := 20, ground := Ground.data }], guard := none }) (v := ?vk25) rfl (by kernel_rfl) (by kernel_rfl) (by kernel_rfl) (fun _ _ _ h => h) (Or.inl ⟨by rfl, ?hk25⟩) (DD3.old U22 HD.out) ?rk25
                        case hk25 => (intro wz hSw; (try dsimp only at hSw); go_simp; try with_reducible rfl)
                        (try simp only [Act.put]); (try simp only [List.setIfInBounds_toArray]); (try simp only [List.set_cons_succ]); (try simp only [List.set_cons_zero])
                        refine wpAnyH_ready (rs := [22]) (by kernel_rfl) (by simp) ?_
                        refine AllReadyH.cons (o := { dst := some 7, op := Op.assign (Operand.tmp 59), type := 4, pos := "ref.go:94", after := #[{ on := 21, ground := Ground.data }, { on := 18, ground := Ground.chain }, { on := 0, ground := Ground.phase }, { on := 1, ground := Ground.phase }, { on := 2, ground := Ground.phase }, { on := 3, ground := Ground.phase }, { on := 4, ground := Ground.phase }, { on := 5, ground := Ground.phase }, { on := 6, ground := Ground.phase }, { on := 7, ground := Ground.phase }, { on := 8, ground := Ground.phase }, { on := 9, ground := Ground.phase }, { on := 10, ground := Ground.phase }, { on := 11, ground := Ground.phase }, { on := 12, ground := Ground.phase }, { on := 13, ground := Ground.phase }, { on := 14, ground := Ground.phase }, { on := 15, ground := Ground.phase }, { on := 16, ground := Ground.phase }, { on := 17, ground := Ground.phase }, { on := 18, ground := Ground.phase }, { on := 19, ground := Ground.phase }, { on := 20, ground := Ground.phase }, { on := 21, ground := Ground.phase }], guard := none }) rfl (fun K hK => ?_) AllReadyH.nil
                        go_simp
                        refine hK.out _ _ (DD3.old U22 HD.out) (fun _ => ?_)
                        clear hK K
                        (try simp only [Act.put]); (try simp only [List.setIfInBounds_toArray]); (try simp only [List.set_cons_succ]); (try simp only [List.set_cons_zero])
                        refine wpAnyH_done (by kernel_rfl) ?_ _
                        refine NoPanic.normal ?_
                        have V5 := hid U22
                        go_wp2
                        go_roundw
                        case rel => exact ⟨t + 1, htt, by rw [HE.out], by go_num, V.out.trans V5.out⟩
                        case measure => simp [intOf]; omega
                      · skip
                        have HE := hid (show frU d C k (t + 1) = false from by rw [HFs.out]; simp)
                        clear HFs
                        go_upto_region 12 with fail
                        refine wp_region_noPanic ?_
                        refine wp_region_held_drew (S := DD3 g (off + t * 7) (off + k * 7) a b) (by kernel_rfl) ?_ (fun hHeld => ?_)
                        · exact DD3.old ((Old.refl _).drew) HD.out
                        (try simp only [Act.put]); (try simp only [List.setIfInBounds_toArray]); (try simp only [List.set_cons_succ]); (try simp only [List.set_cons_zero])
                        clear hHeld
                        refine wpAnyH_take (i := 0) (oi := { dst := some 38, op := Op.move (Operand.tmp 7), type := 4, pos := "ref.go:94", after := #[], guard := none }) (v := ?vk26) rfl (by kernel_rfl) (by kernel_rfl) (by kernel_rfl) (fun _ _ _ h => h) (Or.inl ⟨by rfl, ?hk26⟩) (DD3.old ((Old.refl wr).drew) HD.out) ?rk26
                        case hk26 => (intro wz hSw; (try dsimp only at hSw); go_simp; try with_reducible rfl)
                        (try simp only [Act.put]); (try simp only [List.setIfInBounds_toArray]); (try simp only [List.set_cons_succ]); (try simp only [List.set_cons_zero])
                        refine wpAnyH_take (i := 1) (oi := { dst := some 39, op := Op.move (Operand.tmp 38), type := 4, pos := "ref.go:94", after := #[{ on := 0, ground := Ground.data }], guard := none }) (v := ?vk27) rfl (by kernel_rfl) (by kernel_rfl) (by kernel_rfl) (fun _ _ _ h => h) (Or.inl ⟨by rfl, ?hk27⟩) (DD3.old ((Old.refl wr).drew) HD.out) ?rk27
                        case hk27 => (intro wz hSw; (try dsimp only at hSw); go_simp; try with_reducible rfl)
                        (try simp only [Act.put]); (try simp only [List.setIfInBounds_toArray]); (try simp only [List.set_cons_succ]); (try simp only [List.set_cons_zero])
                        refine wpAnyH_take (i := 2) (oi := { dst := some 40, op := Op.move (Operand.tmp 4), type := 37, pos := "ref.go:94", after := #[{ on := 1, ground := Ground.guard }], guard := some (1, true) }) (v := ?vk28) rfl (by kernel_rfl) (by kernel_rfl) (by kernel_rfl) (fun _ _ _ h => h) (Or.inl ⟨by rfl, ?hk28⟩) (DD3.old ((Old.refl wr).drew) HD.out) ?rk28
                        case hk28 => (intro wz hSw; (try dsimp only at hSw); go_simp; try with_reducible rfl)
                        (try simp only [Act.put]); (try simp only [List.setIfInBounds_toArray]); (try simp only [List.set_cons_succ]); (try simp only [List.set_cons_zero])
                        refine wpAnyH_take (i := 3) (oi := { dst := some 41, op := Op.move (Operand.tmp 0), type := 22, pos := "ref.go:94", after := #[{ on := 1, ground := Ground.guard }], guard := some (1, true) }) (v := ?vk29) rfl (by kernel_rfl) (by kernel_rfl) (by kernel_rfl) (fun _ _ _ h => h) (Or.inl ⟨by rfl, ?hk29⟩) (DD3.old ((Old.refl wr).drew) HD.out) ?rk29
                        case hk29 => (intro wz hSw; (try dsimp only at hSw); go_simp; try with_reducible rfl)
                        (try simp only [Act.put]); (try simp only [List.setIfInBounds_toArray]); (try simp only [List.set_cons_succ]); (try simp only [List.set_cons_zero])
                        refine wpAnyH_take (i := 4) (oi := { dst := some 42, op := Op.move (Operand.tmp 8), type := 3, pos := "ref.go:94", after := #[{ on := 1, ground := Ground.guard }], guard := some (1, true) }) (v := ?vk30) rfl (by kernel_rfl) (by kernel_rfl) (by kernel_rfl) (fun _ _ _ h => h) (Or.inl ⟨by rfl, ?hk30⟩) (DD3.old ((Old.refl wr).drew) HD.out) ?rk30
                        case hk30 => (intro wz hSw; (try dsimp only at hSw); go_simp; try with_reducible rfl)
                        (try simp only [Act.put]); (try simp only [List.setIfInBounds_toArray]); (try simp only [List.set_cons_succ]); (try simp only [List.set_cons_zero])
                        refine wpAnyH_take (i := 5) (oi := { dst := some 43, op := Op.indexAddr 22 (Operand.tmp 41) (Operand.tmp 42), type := 0, pos := "ref.go:94", after := #[{ on := 3, ground := Ground.data }, { on := 4, ground := Ground.data }, { on := 1, ground := Ground.guard }], guard := some (1, true) }) (v := ?vk31) rfl (by kernel_rfl) (by kernel_rfl) (by kernel_rfl) (fun _ _ _ h => h) (Or.inl ⟨by rfl, ?hk31⟩) (DD3.old ((Old.refl wr).drew) HD.out) ?rk31
                        case hk31 => (intro wz hSw; (try dsimp only at hSw); go_simp; try with_reducible rfl)
                        (try simp only [Act.put]); (try simp only [List.setIfInBounds_toArray]); (try simp only [List.set_cons_succ]); (try simp only [List.set_cons_zero])
                        refine wpAnyH_take (i := 6) (oi := { dst := some 44, op := Op.fieldAddr 33 (Operand.tmp 43) 0, type := 0, pos := "ref.go:94", after := #[{ on := 5, ground := Ground.data }, { on := 1, ground := Ground.guard }], guard := some (1, true) }) (v := ?vk32) rfl (by kernel_rfl) (by kernel_rfl) (by kernel_rfl) (fun _ _ _ h => h) (Or.inl ⟨by rfl, ?hk32⟩) (DD3.old ((Old.refl wr).drew) HD.out) ?rk32
                        case hk32 => (intro wz hSw; (try dsimp only at hSw); go_simp; try with_reducible rfl)
                        (try simp only [Act.put]); (try simp only [List.setIfInBounds_toArray]); (try simp only [List.set_cons_succ]); (try simp only [List.set_cons_zero])
                        refine wpAnyH_take (i := 7) (oi := { dst := some 45, op := Op.load 2 (Operand.tmp 44), type := 2, pos := "ref.go:94", after := #[{ on := 6, ground := Ground.data }, { on := 1, ground := Ground.guard }], guard := some (1, true) }) (v := ?vk33) rfl (by kernel_rfl) (by kernel_rfl) (by kernel_rfl) (fun _ _ _ h => h) (Or.inl ⟨by rfl, ?hk33⟩) (DD3.old ((Old.refl wr).drew) HD.out) ?rk33
                        case hk33 => (intro wz hSw; (try dsimp only at hSw); go_simp; try with_reducible rfl)
                        (try simp only [Act.put]); (try simp only [List.setIfInBounds_toArray]); (try simp only [List.set_cons_succ]); (try simp only [List.set_cons_zero])
                        refine wpAnyH_ready (rs := [8]) (by kernel_rfl) (by simp) ?_
                        refine AllReadyH.cons (o := { dst := some 46, op := Op.call { callee := Callee.value (Operand.func 31), args := #[Operand.tmp 40, Operand.tmp 45], argTypes := #[37, 2] }, type := 4, pos := "ref.go:94", after := #[{ on := 2, ground := Ground.data }, { on := 7, ground := Ground.data }, { on := 1, ground := Ground.chain }, { on := 1, ground := Ground.guard }], guard := some (1, true) }) rfl (fun K hK => ?_) AllReadyH.nil
                        refine wantCall2 ?_ 31 (.tmp 40) (.tmp 45) #[37, 2] ?_ (.slice po CL co) (.int .i64 a.n) ?_ ?_ ?_ (ent_rhas _ _) ?_
                        · rfl
                        · rfl
                        · rfl
                        · rfl
                        · rfl
                        refine (HHt.out _ ((Old.refl wr).drew)).mono ?_
                        rintro o x34 ⟨rfl, b34⟩
                        refine ⟨_, rfl, ?_⟩
                        have U34 := ((Old.refl wr).drew).trans b34
                        refine hK.out _ _ (DD3.old U34 HD.out) (fun _ => ?_)
                        clear hK K
                        (try simp only [Act.put]); (try simp only [List.setIfInBounds_toArray]); (try simp only [List.set_cons_succ]); (try simp only [List.set_cons_zero])
                        refine wpAnyH_take (i := 9) (oi := { dst := some 47, op := Op.move (Operand.tmp 46), type := 4, pos := "ref.go:94", after := #[{ on := 8, ground := Ground.data }, { on := 8, ground := Ground.chain }, { on := 1, ground := Ground.guard }], guard := some (1, true) }) (v := ?vk35) rfl (by kernel_rfl) (by kernel_rfl) (by kernel_rfl) (fun _ _ _ h => h) (Or.inl ⟨by rfl, ?hk35⟩) (DD3.old U34 HD.out) ?rk35
                        case hk35 => (intro wz hSw; (try dsimp only at hSw); go_simp; try with_reducible rfl)
                        (try simp only [Act.put]); (try simp only [List.setIfInBounds_toArray]); (try simp only [List.set_cons_succ]); (try simp only [List.set_cons_zero])
                        refine wpAnyH_take (i := 10) (oi := { dst := some 48, op := Op.move (Operand.tmp 0), type := 22, pos := "ref.go:94", after := #[{ on := 9, ground := Ground.guard }], guard := some (9, false) }) (v := ?vk36) rfl (by kernel_rfl) (by kernel_rfl) (by kernel_rfl) (fun _ _ _ h => h) (Or.inl ⟨by rfl, ?hk36⟩) (DD3.old U34 HD.out) ?rk36
                        case hk36 => (intro wz hSw; (try dsimp only at hSw); go_simp; try with_reducible rfl)
                        (try simp only [Act.put]); (try simp only [List.setIfInBounds_toArray]); (try simp only [List.set_cons_succ]); (try simp only [List.set_cons_zero])
                        refine wpAnyH_take (i := 11) (oi := { dst := some 49, op := Op.move (Operand.tmp 8), type := 3, pos := "ref.go:94", after := #[{ on := 9, ground := Ground.guard }], guard := some (9, false) }) (v := ?vk37) rfl (by kernel_rfl) (by kernel_rfl) (by kernel_rfl) (fun _ _ _ h => h) (Or.inl ⟨by rfl, ?hk37⟩) (DD3.old U34 HD.out) ?rk37
                        case hk37 => (intro wz hSw; (try dsimp only at hSw); go_simp; try with_reducible rfl)
                        (try simp only [Act.put]); (try simp only [List.setIfInBounds_toArray]); (try simp only [List.set_cons_succ]); (try simp only [List.set_cons_zero])
                        refine wpAnyH_take (i := 12) (oi := { dst := some 50, op := Op.indexAddr 22 (Operand.tmp 48) (Operand.tmp 49), type := 0, pos := "ref.go:94", after := #[{ on := 10, ground := Ground.data }, { on := 11, ground := Ground.data }, { on := 9, ground := Ground.guard }], guard := some (9, false) }) (v := ?vk38) rfl (by kernel_rfl) (by kernel_rfl) (by kernel_rfl) (fun _ _ _ h => h) (Or.inl ⟨by rfl, ?hk38⟩) (DD3.old U34 HD.out) ?rk38
                        case hk38 => (intro wz hSw; (try dsimp only at hSw); go_simp; try with_reducible rfl)
                        (try simp only [Act.put]); (try simp only [List.setIfInBounds_toArray]); (try simp only [List.set_cons_succ]); (try simp only [List.set_cons_zero])
                        refine wpAnyH_take (i := 13) (oi := { dst := some 51, op := Op.load 33 (Operand.tmp 50), type := 33, pos := "ref.go:94", after := #[{ on := 12, ground := Ground.data }, { on := 9, ground := Ground.guard }], guard := some (9, false) }) (v := ?vk39) rfl (by kernel_rfl) (by kernel_rfl) (by kernel_rfl) (fun _ _ _ h => h) (Or.inl ⟨by rfl, ?hk39⟩) (DD3.old U34 HD.out) ?rk39
                        case hk39 => (intro wz hSw; (try dsimp only at hSw); go_simp; try with_reducible rfl)
                        (try simp only [Act.put]); (try simp only [List.setIfInBounds_toArray]); (try simp only [List.set_cons_succ]); (try simp only [List.set_cons_zero])
                        refine wpAnyH_take (i := 14) (oi := { dst := some 52, op := Op.move (Operand.tmp 0), type := 22, pos := "ref.go:94", after := #[{ on := 9, ground := Ground.guard }], guard := some (9, false) }) (v := ?vk40) rfl (by kernel_rfl) (by kernel_rfl) (by kernel_rfl) (fun _ _ _ h => h) (Or.inl ⟨by rfl, ?hk40⟩) (DD3.old U34 HD.out) ?rk40
                        case hk40 => (intro wz hSw; (try dsimp only at hSw); go_simp; try with_reducible rfl)
                        (try simp only [Act.put]); (try simp only [List.setIfInBounds_toArray]); (try simp only [List.set_cons_succ]); (try simp only [List.set_cons_zero])
                        refine wpAnyH_take (i := 15) (oi := { dst := some 53, op := Op.move (Operand.tmp 6), type := 3, pos := "ref.go:94", after := #[{ on := 9, ground := Ground.guard }], guard := some (9, false) }) (v := ?vk41) rfl (by kernel_rfl) (by kernel_rfl) (by kernel_rfl) (fun _ _ _ h => h) (Or.inl ⟨by rfl, ?hk41⟩) (DD3.old U34 HD.out) ?rk41
                        case hk41 => (intro wz hSw; (try dsimp only at hSw); go_simp; try with_reducible rfl)
                        (try simp only [Act.put]); (try simp only [List.setIfInBounds_toArray]); (try simp only [List.set_cons_succ]); (try simp only [List.set_cons_zero])
                        refine wpAnyH_take (i := 16) (oi := { dst := some 54, op := Op.indexAddr 22 (Operand.tmp 52) (Operand.tmp 53), type := 0, pos := "ref.go:94", after := #[{ on := 14, ground := Ground.data }, { on := 15, ground := Ground.data }, { on := 9, ground := Ground.guard }], guard := some (9, false) }) (v := ?vk42) rfl (by kernel_rfl) (by kernel_rfl) (by kernel_rfl) (fun _ _ _ h => h) (Or.inl ⟨by rfl, ?hk42⟩) (DD3.old U34 HD.out) ?rk42
                        case hk42 => (intro wz hSw; (try dsimp only at hSw); go_simp; try with_reducible rfl)
                        (try simp only [Act.put]); (try simp only [List.setIfInBounds_toArray]); (try simp only [List.set_cons_succ]); (try simp only [List.set_cons_zero])
                        refine wpAnyH_take (i := 17) (oi := { dst := some 55, op := Op.load 33 (Operand.tmp 54), type := 33, pos := "ref.go:94", after := #[{ on := 16, ground := Ground.data }, { on := 9, ground := Ground.guard }], guard := some (9, false) }) (v := ?vk43) rfl (by kernel_rfl) (by kernel_rfl) (by kernel_rfl) (fun _ _ _ h => h) (Or.inl ⟨by rfl, ?hk43⟩) (DD3.old U34 HD.out) ?rk43
                        case hk43 => (intro wz hSw; (try dsimp only at hSw); go_simp; try with_reducible rfl)
                        (try simp only [Act.put]); (try simp only [List.setIfInBounds_toArray]); (try simp only [List.set_cons_succ]); (try simp only [List.set_cons_zero])
                        refine wpAnyH_ready (rs := [18]) (by kernel_rfl) (by simp) ?_
                        refine AllReadyH.cons (o := { dst := some 56, op := Op.call { callee := Callee.value (Operand.func 12), args := #[Operand.tmp 51, Operand.tmp 55], argTypes := #[33, 33] }, type := 4, pos := "ref.go:94", after := #[{ on := 13, ground := Ground.data }, { on := 17, ground := Ground.data }, { on := 9, ground := Ground.chain }, { on := 9, ground := Ground.guard }], guard := some (9, false) }) rfl (fun K hK => ?_) AllReadyH.nil
                        refine wantCall2 ?_ 12 (.tmp 51) (.tmp 55) #[33, 33] ?_ (.agg #[.int .i64 a.n, .int .i64 a.s.s1, .int .i64 a.s.s2, .int .i64 a.s.s3, .slice a.s.a1 a.s.n1 a.s.c1, .slice a.s.a2 a.s.n2 a.s.c2, .slice a.s.a3 a.s.n3 a.s.c3]) (.agg #[.int .i64 b.n, .int .i64 b.s.s1, .int .i64 b.s.s2, .int .i64 b.s.s3, .slice b.s.a1 b.s.n1 b.s.c1, .slice b.s.a2 b.s.n2 b.s.c2, .slice b.s.a3 b.s.n3 b.s.c3]) ?_ ?_ ?_ (ent_rld _ _) ?_
                        · rfl
                        · rfl
                        · rfl
                        · rfl
                        · rfl
                        refine (HLt.out _ U34).mono ?_
                        rintro o x44 ⟨rfl, b44⟩
                        refine ⟨_, rfl, ?_⟩
                        have U44 := U34.trans b44
                        refine hK.out _ _ (DD3.old U44 HD.out) (fun _ => ?_)
                        clear hK K
                        (try simp only [Act.put]); (try simp only [List.setIfInBounds_toArray]); (try simp only [List.set_cons_succ]); (try simp only [List.set_cons_zero])
                        refine wpAnyH_take (i := 19) (oi := { dst := some 57, op := Op.unOp UnOp.not 4 (Operand.tmp 56), type := 4, pos := "ref.go:94", after := #[{ on := 18, ground := Ground.data }, { on := 9, ground := Ground.guard }], guard := some (9, false) }) (v := ?vk45) rfl (by kernel_rfl) (by kernel_rfl) (by kernel_rfl) (fun _ _ _ h => h) (Or.inl ⟨by rfl, ?hk45⟩) (DD3.old U44 HD.out) ?rk45
                        case hk45 => (intro wz hSw; (try dsimp only at hSw); go_simp; try with_reducible rfl)
                        (try simp only [Act.put]); (try simp only [List.setIfInBounds_toArray]); (try simp only [List.set_cons_succ]); (try simp only [List.set_cons_zero])
                        refine wpAnyH_take (i := 20) (oi := { dst := some 58, op := Op.pick (Operand.tmp 47) (Operand.const (Value.bool true)) (Operand.tmp 57), type := 4, pos := "ref.go:94", after := #[{ on := 9, ground := Ground.data }, { on := 19, ground := Ground.data }, { on := 1, ground := Ground.guard }], guard := some (1, true) }) (v := ?vk46) rfl (by kernel_rfl) (by kernel_rfl) (by kernel_rfl) (fun _ _ _ h => h) (Or.inl ⟨by rfl, ?hk46⟩) (DD3.old U44 HD.out) ?rk46
                        case hk46 => (intro wz hSw; (try dsimp only at hSw); go_simp; try with_reducible rfl)
                        (try simp only [Act.put]); (try simp only [List.setIfInBounds_toArray]); (try simp only [List.set_cons_succ]); (try simp only [List.set_cons_zero])
                        refine wpAnyH_take (i := 21) (oi := { dst := some 59, op := Op.pick (Operand.tmp 39) (Operand.tmp 58) (Operand.const (Value.bool false)), type := 4, pos := "ref.go:94", after := #[{ on := 1, ground := Ground.data }, { on := 20, ground := Ground.data }], guard := none }) (v := ?vk47) rfl (by kernel_rfl) (by kernel_rfl) (by kernel_rfl) (fun _ _ _ h => h) (Or.inl ⟨by rfl, ?hk47⟩) (DD3.old U44 HD.out) ?rk47
                        case hk47 => (intro wz hSw; (try dsimp only at hSw); go_simp; try with_reducible rfl)
                        (try simp only [Act.put]); (try simp only [List.setIfInBounds_toArray]); (try simp only [List.set_cons_succ]); (try simp only [List.set_cons_zero])
                        refine wpAnyH_ready (rs := [22]) (by kernel_rfl) (by simp) ?_
                        refine AllReadyH.cons (o := { dst := some 7, op := Op.assign (Operand.tmp 59), type := 4, pos := "ref.go:94", after := #[{ on := 21, ground := Ground.data }, { on := 18, ground := Ground.chain }, { on := 0, ground := Ground.phase }, { on := 1, ground := Ground.phase }, { on := 2, ground := Ground.phase }, { on := 3, ground := Ground.phase }, { on := 4, ground := Ground.phase }, { on := 5, ground := Ground.phase }, { on := 6, ground := Ground.phase }, { on := 7, ground := Ground.phase }, { on := 8, ground := Ground.phase }, { on := 9, ground := Ground.phase }, { on := 10, ground := Ground.phase }, { on := 11, ground := Ground.phase }, { on := 12, ground := Ground.phase }, { on := 13, ground := Ground.phase }, { on := 14, ground := Ground.phase }, { on := 15, ground := Ground.phase }, { on := 16, ground := Ground.phase }, { on := 17, ground := Ground.phase }, { on := 18, ground := Ground.phase }, { on := 19, ground := Ground.phase }, { on := 20, ground := Ground.phase }, { on := 21, ground := Ground.phase }], guard := none }) rfl (fun K hK => ?_) AllReadyH.nil
                        go_simp
                        refine hK.out _ _ (DD3.old U44 HD.out) (fun _ => ?_)
                        clear hK K
                        (try simp only [Act.put]); (try simp only [List.setIfInBounds_toArray]); (try simp only [List.set_cons_succ]); (try simp only [List.set_cons_zero])
                        refine wpAnyH_done (by kernel_rfl) ?_ _
                        refine NoPanic.normal ?_
                        have V5 := hid U44
                        go_wp2
                        go_roundw
                        case rel => exact ⟨t + 1, htt, by rw [HE.out], by go_num, V.out.trans V5.out⟩
                        case measure => simp [intOf]; omega
                    · skip
                      have HE := hid (show frU d C k (t + 1) = true from by rw [HFs.out]; simp)
                      clear HFs
                      go_upto_region 12 with fail
                      refine wp_region_noPanic ?_
                      refine wp_region_held_drew (S := DD3 g (off + t * 7) (off + k * 7) a b) (by kernel_rfl) ?_ (fun hHeld => ?_)
                      · exact DD3.old ((Old.refl _).drew) HD.out
                      (try simp only [Act.put]); (try simp only [List.setIfInBounds_toArray]); (try simp only [List.set_cons_succ]); (try simp only [List.set_cons_zero])
                      clear hHeld
                      refine wpAnyH_take (i := 0) (oi := { dst := some 38, op := Op.move (Operand.tmp 7), type := 4, pos := "ref.go:94", after := #[], guard := none }) (v := ?vk48) rfl (by kernel_rfl) (by kernel_rfl) (by kernel_rfl) (fun _ _ _ h => h) (Or.inl ⟨by rfl, ?hk48⟩) (DD3.old ((Old.refl wr).drew) HD.out) ?rk48
                      case hk48 => (intro wz hSw; (try dsimp only at hSw); go_simp; try with_reducible rfl)
                      (try simp only [Act.put]); (try simp only [List.setIfInBounds_toArray]); (try simp only [List.set_cons_succ]); (try simp only [List.set_cons_zero])
                      refine wpAnyH_take (i := 1) (oi := { dst := some 39, op := Op.move (Operand.tmp 38), type := 4, pos := "ref.go:94", after := #[{ on := 0, ground := Ground.data }], guard := none }) (v := ?vk49) rfl (by kernel_rfl) (by kernel_rfl) (by kernel_rfl) (fun _ _ _ h => h) (Or.inl ⟨by rfl, ?hk49⟩) (DD3.old ((Old.refl wr).drew) HD.out) ?rk49
                      case hk49 => (intro wz hSw; (try dsimp only at hSw); go_simp; try with_reducible rfl)
                      (try simp only [Act.put]); (try simp only [List.setIfInBounds_toArray]); (try simp only [List.set_cons_succ]); (try simp only [List.set_cons_zero])
                      refine wpAnyH_take (i := 2) (oi := { dst := some 40, op := Op.move (Operand.tmp 4), type := 37, pos := "ref.go:94", after := #[{ on := 1, ground := Ground.guard }], guard := some (1, true) }) (v := ?vk50) rfl (by kernel_rfl) (by kernel_rfl) (by kernel_rfl) (fun _ _ _ h => h) (Or.inl ⟨by rfl, ?hk50⟩) (DD3.old ((Old.refl wr).drew) HD.out) ?rk50
                      case hk50 => (intro wz hSw; (try dsimp only at hSw); go_simp; try with_reducible rfl)
                      (try simp only [Act.put]); (try simp only [List.setIfInBounds_toArray]); (try simp only [List.set_cons_succ]); (try simp only [List.set_cons_zero])
                      refine wpAnyH_take (i := 3) (oi := { dst := some 41, op := Op.move (Operand.tmp 0), type := 22, pos := "ref.go:94", after := #[{ on := 1, ground := Ground.guard }], guard := some (1, true) }) (v := ?vk51) rfl (by kernel_rfl) (by kernel_rfl) (by kernel_rfl) (fun _ _ _ h => h) (Or.inl ⟨by rfl, ?hk51⟩) (DD3.old ((Old.refl wr).drew) HD.out) ?rk51
                      case hk51 => (intro wz hSw; (try dsimp only at hSw); go_simp; try with_reducible rfl)
                      (try simp only [Act.put]); (try simp only [List.setIfInBounds_toArray]); (try simp only [List.set_cons_succ]); (try simp only [List.set_cons_zero])
                      refine wpAnyH_take (i := 4) (oi := { dst := some 42, op := Op.move (Operand.tmp 8), type := 3, pos := "ref.go:94", after := #[{ on := 1, ground := Ground.guard }], guard := some (1, true) }) (v := ?vk52) rfl (by kernel_rfl) (by kernel_rfl) (by kernel_rfl) (fun _ _ _ h => h) (Or.inl ⟨by rfl, ?hk52⟩) (DD3.old ((Old.refl wr).drew) HD.out) ?rk52
                      case hk52 => (intro wz hSw; (try dsimp only at hSw); go_simp; try with_reducible rfl)
                      (try simp only [Act.put]); (try simp only [List.setIfInBounds_toArray]); (try simp only [List.set_cons_succ]); (try simp only [List.set_cons_zero])
                      refine wpAnyH_take (i := 5) (oi := { dst := some 43, op := Op.indexAddr 22 (Operand.tmp 41) (Operand.tmp 42), type := 0, pos := "ref.go:94", after := #[{ on := 3, ground := Ground.data }, { on := 4, ground := Ground.data }, { on := 1, ground := Ground.guard }], guard := some (1, true) }) (v := ?vk53) rfl (by kernel_rfl) (by kernel_rfl) (by kernel_rfl) (fun _ _ _ h => h) (Or.inl ⟨by rfl, ?hk53⟩) (DD3.old ((Old.refl wr).drew) HD.out) ?rk53
                      case hk53 => (intro wz hSw; (try dsimp only at hSw); go_simp; try with_reducible rfl)
                      (try simp only [Act.put]); (try simp only [List.setIfInBounds_toArray]); (try simp only [List.set_cons_succ]); (try simp only [List.set_cons_zero])
                      refine wpAnyH_take (i := 6) (oi := { dst := some 44, op := Op.fieldAddr 33 (Operand.tmp 43) 0, type := 0, pos := "ref.go:94", after := #[{ on := 5, ground := Ground.data }, { on := 1, ground := Ground.guard }], guard := some (1, true) }) (v := ?vk54) rfl (by kernel_rfl) (by kernel_rfl) (by kernel_rfl) (fun _ _ _ h => h) (Or.inl ⟨by rfl, ?hk54⟩) (DD3.old ((Old.refl wr).drew) HD.out) ?rk54
                      case hk54 => (intro wz hSw; (try dsimp only at hSw); go_simp; try with_reducible rfl)
                      (try simp only [Act.put]); (try simp only [List.setIfInBounds_toArray]); (try simp only [List.set_cons_succ]); (try simp only [List.set_cons_zero])
                      refine wpAnyH_take (i := 7) (oi := { dst := some 45, op := Op.load 2 (Operand.tmp 44), type := 2, pos := "ref.go:94", after := #[{ on := 6, ground := Ground.data }, { on := 1, ground := Ground.guard }], guard := some (1, true) }) (v := ?vk55) rfl (by kernel_rfl) (by kernel_rfl) (by kernel_rfl) (fun _ _ _ h => h) (Or.inl ⟨by rfl, ?hk55⟩) (DD3.old ((Old.refl wr).drew) HD.out) ?rk55
                      case hk55 => (intro wz hSw; (try dsimp only at hSw); go_simp; try with_reducible rfl)
                      (try simp only [Act.put]); (try simp only [List.setIfInBounds_toArray]); (try simp only [List.set_cons_succ]); (try simp only [List.set_cons_zero])
                      refine wpAnyH_ready (rs := [8]) (by kernel_rfl) (by simp) ?_
                      refine AllReadyH.cons (o := { dst := some 46, op := Op.call { callee := Callee.value (Operand.func 31), args := #[Operand.tmp 40, Operand.tmp 45], argTypes := #[37, 2] }, type := 4, pos := "ref.go:94", after := #[{ on := 2, ground := Ground.data }, { on := 7, ground := Ground.data }, { on := 1, ground := Ground.chain }, { on := 1, ground := Ground.guard }], guard := some (1, true) }) rfl (fun K hK => ?_) AllReadyH.nil
                      refine wantCall2 ?_ 31 (.tmp 40) (.tmp 45) #[37, 2] ?_ (.slice po CL co) (.int .i64 a.n) ?_ ?_ ?_ (ent_rhas _ _) ?_
                      · rfl
                      · rfl
                      · rfl
                      · rfl
                      · rfl
                      refine (HHt.out _ ((Old.refl wr).drew)).mono ?_
                      rintro o x56 ⟨rfl, b56⟩
                      refine ⟨_, rfl, ?_⟩
                      have U56 := ((Old.refl wr).drew).trans b56
                      refine hK.out _ _ (DD3.old U56 HD.out) (fun _ => ?_)
                      clear hK K
                      (try simp only [Act.put]); (try simp only [List.setIfInBounds_toArray]); (try simp only [List.set_cons_succ]); (try simp only [List.set_cons_zero])
                      refine wpAnyH_take (i := 9) (oi := { dst := some 47, op := Op.move (Operand.tmp 46), type := 4, pos := "ref.go:94", after := #[{ on := 8, ground := Ground.data }, { on := 8, ground := Ground.chain }, { on := 1, ground := Ground.guard }], guard := some (1, true) }) (v := ?vk57) rfl (by kernel_rfl) (by kernel_rfl) (by kernel_rfl) (fun _ _ _ h => h) (Or.inl ⟨by rfl, ?hk57⟩) (DD3.old U56 HD.out) ?rk57
                      case hk57 => (intro wz hSw; (try dsimp only at hSw); go_simp; try with_reducible rfl)
                      (try simp only [Act.put]); (try simp only [List.setIfInBounds_toArray]); (try simp only [List.set_cons_succ]); (try simp only [List.set_cons_zero])
                      refine wpAnyH_take (i := 10) (oi := { dst := some 48, op := Op.move (Operand.tmp 0), type := 22, pos := "ref.go:94", after := #[{ on := 9, ground := Ground.guard }], guard := some (9, false) }) (v := undef) rfl (by kernel_rfl) (by kernel_rfl) (by kernel_rfl) (fun _ _ _ h => h) (Or.inr ⟨by rfl, rfl⟩) (DD3.old U56 HD.out) ?_
                      (try simp only [Act.put]); (try simp only [List.setIfInBounds_toArray]); (try simp only [List.set_cons_succ]); (try simp only [List.set_cons_zero])
                      refine wpAnyH_take (i := 11) (oi := { dst := some 49, op := Op.move (Operand.tmp 8), type := 3, pos := "ref.go:94", after := #[{ on := 9, ground := Ground.guard }], guard := some (9, false) }) (v := undef) rfl (by kernel_rfl) (by kernel_rfl) (by kernel_rfl) (fun _ _ _ h => h) (Or.inr ⟨by rfl, rfl⟩) (DD3.old U56 HD.out) ?_
                      (try simp only [Act.put]); (try simp only [List.setIfInBounds_toArray]); (try simp only [List.set_cons_succ]); (try simp only [List.set_cons_zero])
                      refine wpAnyH_take (i := 12) (oi := { dst := some 50, op := Op.indexAddr 22 (Operand.tmp 48) (Operand.tmp 49), type := 0, pos := "ref.go:94", after := #[{ on := 10, ground := Ground.data }, { on := 11, ground := Ground.data }, { on := 9, ground := Ground.guard }], guard := some (9, false) }) (v := undef) rfl (by kernel_rfl) (by kernel_rfl) (by kernel_rfl) (fun _ _ _ h => h) (Or.inr ⟨by rfl, rfl⟩) (DD3.old U56 HD.out) ?_
                      (try simp only [Act.put]); (try simp only [List.setIfInBounds_toArray]); (try simp only [List.set_cons_succ]); (try simp only [List.set_cons_zero])
                      refine wpAnyH_take (i := 13) (oi := { dst := some 51, op := Op.load 33 (Operand.tmp 50), type := 33, pos := "ref.go:94", after := #[{ on := 12, ground := Ground.data }, { on := 9, ground := Ground.guard }], guard := some (9, false) }) (v := undef) rfl (by kernel_rfl) (by kernel_rfl) (by kernel_rfl) (fun _ _ _ h => h) (Or.inr ⟨by rfl, rfl⟩) (DD3.old U56 HD.out) ?_
                      (try simp only [Act.put]); (try simp only [List.setIfInBounds_toArray]); (try simp only [List.set_cons_succ]); (try simp only [List.set_cons_zero])
                      refine wpAnyH_take (i := 14) (oi := { dst := some 52, op := Op.move (Operand.tmp 0), type := 22, pos := "ref.go:94", after := #[{ on := 9, ground := Ground.guard }], guard := some (9, false) }) (v := undef) rfl (by kernel_rfl) (by kernel_rfl) (by kernel_rfl) (fun _ _ _ h => h) (Or.inr ⟨by rfl, rfl⟩) (DD3.old U56 HD.out) ?_
                      (try simp only [Act.put]); (try simp only [List.setIfInBounds_toArray]); (try simp only [List.set_cons_succ]); (try simp only [List.set_cons_zero])
                      refine wpAnyH_take (i := 15) (oi := { dst := some 53, op := Op.move (Operand.tmp 6), type := 3, pos := "ref.go:94", after := #[{ on := 9, ground := Ground.guard }], guard := some (9, false) }) (v := undef) rfl (by kernel_rfl) (by kernel_rfl) (by kernel_rfl) (fun _ _ _ h => h) (Or.inr ⟨by rfl, rfl⟩) (DD3.old U56 HD.out) ?_
                      (try simp only [Act.put]); (try simp only [List.setIfInBounds_toArray]); (try simp only [List.set_cons_succ]); (try simp only [List.set_cons_zero])
                      refine wpAnyH_take (i := 16) (oi := { dst := some 54, op := Op.indexAddr 22 (Operand.tmp 52) (Operand.tmp 53), type := 0, pos := "ref.go:94", after := #[{ on := 14, ground := Ground.data }, { on := 15, ground := Ground.data }, { on := 9, ground := Ground.guard }], guard := some (9, false) }) (v := undef) rfl (by kernel_rfl) (by kernel_rfl) (by kernel_rfl) (fun _ _ _ h => h) (Or.inr ⟨by rfl, rfl⟩) (DD3.old U56 HD.out) ?_
                      (try simp only [Act.put]); (try simp only [List.setIfInBounds_toArray]); (try simp only [List.set_cons_succ]); (try simp only [List.set_cons_zero])
                      refine wpAnyH_take (i := 17) (oi := { dst := some 55, op := Op.load 33 (Operand.tmp 54), type := 33, pos := "ref.go:94", after := #[{ on := 16, ground := Ground.data }, { on := 9, ground := Ground.guard }], guard := some (9, false) }) (v := undef) rfl (by kernel_rfl) (by kernel_rfl) (by kernel_rfl) (fun _ _ _ h => h) (Or.inr ⟨by rfl, rfl⟩) (DD3.old U56 HD.out) ?_
                      (try simp only [Act.put]); (try simp only [List.setIfInBounds_toArray]); (try simp only [List.set_cons_succ]); (try simp only [List.set_cons_zero])
                      refine wpAnyH_take (i := 18) (oi := { dst := some 56, op := Op.call { callee := Callee.value (Operand.func 12), args := #[Operand.tmp 51, Operand.tmp 55], argTypes := #[33, 33] }, type := 4, pos := "ref.go:94", after := #[{ on := 13, ground := Ground.data }, { on := 17, ground := Ground.data }, { on := 9, ground := Ground.chain }, { on := 9, ground := Ground.guard }], guard := some (9, false) }) (v := undef) rfl (by kernel_rfl) (by kernel_rfl) (by kernel_rfl) (fun _ _ _ h => h) (Or.inr ⟨by rfl, rfl⟩) (DD3.old U56 HD.out) ?_
                      (try simp only [Act.put]); (try simp only [List.setIfInBounds_toArray]); (try simp only [List.set_cons_succ]); (try simp only [List.set_cons_zero])
                      refine wpAnyH_take (i := 19) (oi := { dst := some 57, op := Op.unOp UnOp.not 4 (Operand.tmp 56), type := 4, pos := "ref.go:94", after := #[{ on := 18, ground := Ground.data }, { on := 9, ground := Ground.guard }], guard := some (9, false) }) (v := undef) rfl (by kernel_rfl) (by kernel_rfl) (by kernel_rfl) (fun _ _ _ h => h) (Or.inr ⟨by rfl, rfl⟩) (DD3.old U56 HD.out) ?_
                      (try simp only [Act.put]); (try simp only [List.setIfInBounds_toArray]); (try simp only [List.set_cons_succ]); (try simp only [List.set_cons_zero])
                      refine wpAnyH_take (i := 20) (oi := { dst := some 58, op := Op.pick (Operand.tmp 47) (Operand.const (Value.bool true)) (Operand.tmp 57), type := 4, pos := "ref.go:94", after := #[{ on := 9, ground := Ground.data }, { on := 19, ground := Ground.data }, { on := 1, ground := Ground.guard }], guard := some (1, true) }) (v := ?vk58) rfl (by kernel_rfl) (by kernel_rfl) (by kernel_rfl) (fun _ _ _ h => h) (Or.inl ⟨by rfl, ?hk58⟩) (DD3.old U56 HD.out) ?rk58
                      case hk58 => (intro wz hSw; (try dsimp only at hSw); go_simp; try with_reducible rfl)
                      (try simp only [Act.put]); (try simp only [List.setIfInBounds_toArray]); (try simp only [List.set_cons_succ]); (try simp only [List.set_cons_zero])
                      refine wpAnyH_take (i := 21) (oi := { dst := some 59, op := Op.pick (Operand.tmp 39) (Operand.tmp 58) (Operand.const (Value.bool false)), type := 4, pos := "ref.go:94", after := #[{ on := 1, ground := Ground.data }, { on := 20, ground := Ground.data }], guard := none }) (v := ?vk59) rfl (by kernel_rfl) (by kernel_rfl) (by kernel_rfl) (fun _ _ _ h => h) (Or.inl ⟨by rfl, ?hk59⟩) (DD3.old U56 HD.out) ?rk59
                      case hk59 => (intro wz hSw; (try dsimp only at hSw); go_simp; try with_reducible rfl)
                      (try simp only [Act.put]); (try simp only [List.setIfInBounds_toArray]); (try simp only [List.set_cons_succ]); (try simp only [List.set_cons_zero])
                      refine wpAnyH_ready (rs := [22]) (by kernel_rfl) (by simp) ?_
                      refine AllReadyH.cons (o := { dst := some 7, op := Op.assign (Operand.tmp 59), type := 4, pos := "ref.go:94", after := #[{ on := 21, ground := Ground.data }, { on := 18, ground := Ground.chain }, { on := 0, ground := Ground.phase }, { on := 1, ground := Ground.phase }, { on := 2, ground := Ground.phase }, { on := 3, ground := Ground.phase }, { on := 4, ground := Ground.phase }, { on := 5, ground := Ground.phase }, { on := 6, ground := Ground.phase }, { on := 7, ground := Ground.phase }, { on := 8, ground := Ground.phase }, { on := 9, ground := Ground.phase }, { on := 10, ground := Ground.phase }, { on := 11, ground := Ground.phase }, { on := 12, ground := Ground.phase }, { on := 13, ground := Ground.phase }, { on := 14, ground := Ground.phase }, { on := 15, ground := Ground.phase }, { on := 16, ground := Ground.phase }, { on := 17, ground := Ground.phase }, { on := 18, ground := Ground.phase }, { on := 19, ground := Ground.phase }, { on := 20, ground := Ground.phase }, { on := 21, ground := Ground.phase }], guard := none }) rfl (fun K hK => ?_) AllReadyH.nil
                      go_simp
                      refine hK.out _ _ (DD3.old U56 HD.out) (fun _ => ?_)
                      clear hK K
                      (try simp only [Act.put]); (try simp only [List.setIfInBounds_toArray]); (try simp only [List.set_cons_succ]); (try simp only [List.set_cons_zero])
                      refine wpAnyH_done (by kernel_rfl) ?_ _
                      refine NoPanic.normal ?_
                      have V5 := hid U56
                      go_wp2
                      go_roundw
                      case rel => exact ⟨t + 1, htt, by rw [HE.out], by go_num, V.out.trans V5.out⟩
                      case measure => simp [intOf]; omega
                · obtain rfl : n = t := by omega
                  obtain ⟨x0, x1, x2, x3, x4, x5, x6⟩ := HDk.out _ V.out
                  clear HC HDk HSk
                  cases hf : frU d C k n
                  · have HS := hid (show nxU d n C (k + 1) = none from by rw [HSt.out, hf]; rfl)
                    clear hf HSt HUp
                    go_wp2
                    go_roundw
                    case rel => exact ⟨k + 1, hkt, by go_num, Or.inl ⟨rfl, HS.out⟩, V.out⟩
                    case measure => simp [intOf]; omega
                  · have HS := hid (HUp.out (by rw [HSt.out, hf]; rfl))
                    rw [HNk.out] at x0
                    clear hf HSt HUp
                    go_wp2
                    go_roundw
                    case rel => exact ⟨k + 1, hkt, by go_num, Or.inr ⟨k, hkt, rfl, HS.out⟩, V.out⟩
                    case measure => simp [intOf]; omega
            · rw [hh] at HSt HHk
              have HS := hid (show nxU d n C (k + 1) = none from by rw [HSt.out]; rfl)
              clear hh HSt HUp HC
              go_wp2_with (go_at_call 31; refine (HHk.out _ V.out).mono ?_; rintro e w3 ⟨rfl, v3⟩; have V3 := hid (V.out.trans v3); clear v3)
              go_roundw
              case rel => exact ⟨k + 1, hkt, by go_num, Or.inl ⟨rfl, HS.out⟩, V3.out⟩
              case measure => simp [intOf]; omega
          · obtain rfl : n = k := by omega
            have HE := hid (show RES = (C, false) from by rw [← HR.out]; exact HNone.out HN.out)
            clear HC HN HNone HSome
            go_wp2
            go_ret2
            exact ⟨.slice po CL co, by rw [HE.out]; rfl, by rw [HE.out]; exact HO.out.up V.out, HU.out.trans V.out⟩
        · have HS := hid (show roF d n (n - (C ++ [(j : Int) + 1]).length) (C ++ [(j : Int) + 1]) = RES from by rw [← HNum.out j hj, ← HSome.out j hnx]; exact HR.out)
          have z1 : ¬ ((j : Int) + 1 = 0) := by omega
          have z2 : ((j : Int) + 1 == 0) = false := by rw [beq_eq_false_iff_ne]; exact z1
          clear hnx HC HNone HSome HR HNum
          have HLb := hid (show C.length + 1 ≤ 1000000 by have := HCl3.out; have := HCl2.out; omega)
          by_cases hkt : k < n
          · have m2 : (k : Int) < (n : Int) := by omega
            go_wp2_with (first | (at_builtin; refine wp_appN rfl (.tmp 69) (.tmp 71) rfl w.heap.size _ C _ 1 ((j : Int) + 1) rfl rfl (OwnN.up HO.out (V.out.alloc _)) (cell_oneN _ _ _ (by simp)) (by have := HLb.out; omega) (by have := (HU.out.trans V.out).size; simp; omega) ?_; intro v8 w8 o8 g8; have O8 := hid o8; have V8 := hid (show Old w w8 from Below.grown ((HU.out.trans V.out).alloc _) g8 (by have := (HU.out.trans V.out).size; simp; omega) (fun q e => (World.ownsRow.lt HO.out q e).1)); clear o8 g8))
            go_roundw
            case rel => exact ⟨C ++ [(j : Int) + 1], _, rfl, by have := HCl3.out; have := HCl2.out; simp; omega, O8.out, HS.out, V8.out⟩
            case measure => rw [O8.out.vlen]; have := HCl3.out; have := HCl2.out; have := HVl.out; simp [vlen]; omega
          · have m2 : ¬ (k : Int) < (n : Int) := by omega
            go_wp2_with (first | (at_builtin; refine wp_appN rfl (.tmp 69) (.tmp 71) rfl w.heap.size _ C _ 1 ((j : Int) + 1) rfl rfl (OwnN.up HO.out (V.out.alloc _)) (cell_oneN _ _ _ (by simp)) (by have := HLb.out; omega) (by have := (HU.out.trans V.out).size; simp; omega) ?_; intro v8 w8 o8 g8; have O8 := hid o8; have V8 := hid (show Old w w8 from Below.grown ((HU.out.trans V.out).alloc _) g8 (by have := (HU.out.trans V.out).size; simp; omega) (fun q e => (World.ownsRow.lt HO.out q e).1)); clear o8 g8))
            go_roundw
            case rel => exact ⟨C ++ [(j : Int) + 1], _, rfl, by have := HCl3.out; have := HCl2.out; simp; omega, O8.out, HS.out, V8.out⟩
            case measure => rw [O8.out.vlen]; have := HCl3.out; have := HCl2.out; have := HVl.out; simp [vlen]; omega
    · have l1 : ¬ (C.length : Int) < (n : Int) := by omega
      have HE := hid (show RES = (C, true) from by rw [← HR.out]; exact ro_end (by omega))
      subst eo
      clear HC
      go_wp2
      go_ret2
      exact ⟨.slice po C.length co, by rw [HE.out]; rfl, by rw [HE.out]; exact HO.out, HU.out⟩
end Go.Proofs.YtbkbnfgjkefcmaaGreat
namespace Go.Proofs.YtbkbnfgjkefcmaaGreat
open Go.RowKit Go.Lib
set_option linter.unusedVariables false
set_option linter.unusedSimpArgs false
set_option maxRecDepth 20000
theorem getD_at {L : List Int} {i : Nat} (h : i < L.length) : L.getD i 0 = L[i] := by simp [List.getD_eq_getElem?_getD, h]
theorem NRow.shape {w : World} {v : Value} {L : List Int} (h : NRow w v L) : ∃ p c, v = .slice p L.length c ∧ ∀ i, i < L.length → ∃ g off, p = some ⟨g, off, none⟩ ∧ w.cell? ⟨g, off + i, none⟩ = some (.int .i64 (L.getD i 0)) := by
  obtain ⟨_, p, c, e, hc⟩ := h
  exact ⟨p, c, e, hc⟩
attribute [local go_sem] run_bits run_frombits run_store_float eqF
set_option maxHeartbeats 8000000 in
set_option maxRecDepth 20000 in
theorem ordersLaw (v : Value) (n0 : Nat) (d : Nat → Dn) (w : World) (hv : DRowL w v n0 d) :
    Calls Tryz.prog 4 #[v] w fun e w' => e = .returned (.bool true) ∧ Old w w' := by
  have HF := hid (fun (W : World) (u : Old w W) => few_any v n0 d W (hv.old u))
  clear hv
  go_enter Tryz.func4, Tryz.ntmps4
  go_upto_region 4 with (first | (go_at_call 7; refine (alive_any _).mono ?_; rintro e w0 ⟨rfl, u1⟩; have U1 := hid u1; clear u1) | (go_at_call 8; refine (HF.out _ U1.out).mono ?_; rintro e w1 ⟨v1, n, hn, rfl, hd, rfl⟩; have D1 := hid hd; clear hd))
  clear HF
  have HO := hid (order_any v1 n d w1 D1.out)
  have HS := hid (fun (W : World) (u : Old w1 W) => stuck_any v1 n d W (D1.out.old u))
  have HR := hid (fun (W : World) (u : Old w1 W) => rright_any v1 n d W (D1.out.old u))
  have HRo := hid (fun (hr : rtB d n = true) (W : World) (u : Old w1 W) => rorder_any v1 n d W (D1.out.old u) hr)
  obtain ⟨_, p, c, rfl, hnc, hcm, _⟩ := D1.out
  cases hrt : rtB d n
  · have e1 : orB d n = false := by unfold orB; rw [hrt]; rfl
    have e2 : orL d n = [] := by unfold orL; rw [e1]; rfl
    have e3 : stB d n = [] := by unfold stB; rw [hrt]; rfl
    rw [e1, e2] at HO
    rw [e3] at HS
    rw [hrt] at HR
    clear e1 e2 e3 hrt HRo
    go_wp2_with (first | (go_at_call 13; refine HO.out.mono ?_; rintro e w2 ⟨vo, rfl, o2, u2⟩; obtain ⟨po, co, eo⟩ := OwnN.len o2; subst eo; have V2 := hid u2; clear o2 u2) | (go_at_call 14; refine (HS.out _ V2.out).mono ?_; rintro e w3 ⟨vs, rfl, o3, u3⟩; obtain ⟨ps, cs, es⟩ := OwnN.len o3; subst es; have V3 := hid (V2.out.trans u3); clear o3 u3) | (go_at_call 9; refine (HR.out _ V3.out).mono ?_; rintro e w4 ⟨rfl, u4⟩; have V4 := hid (V3.out.trans u4); clear u4))
    go_ret
    exact ⟨rfl, U1.out.trans V4.out⟩
  · have hn64 := rtB_64 hrt
    have HRo2 := hid (HRo.out hrt)
    have hro := ro_cw hrt
    have e3 : stB d n = stkF d (cwF d n).2 n := by unfold stB; rw [if_pos hrt]
    have hcl : (cwF d n).1.length ≤ 64 := by have q := cw_inv hrt; have := nod_le n _ q.nod q.rng; omega
    have hsl : (stkF d (cwF d n).2 n).length ≤ 64 := Nat.le_trans (stkF_len d _ n) hn64
    rw [hro] at HRo2
    rw [e3] at HS
    rw [hrt] at HR
    by_cases hs : stkF d (cwF d n).2 n = []
    · have e1 : orB d n = true := by unfold orB; rw [hrt, decide_eq_true hs]; rfl
      have e2 : orL d n = (cwF d n).1 := by unfold orL; rw [e1]; rfl
      rw [e1, e2] at HO
      rw [hs] at HS
      simp only [hs, decide_true] at HRo2
      clear e1 e2 e3 hs hro hrt HRo hsl
      generalize (cwF d n).1 = C at *
      have HCl := hid (show C.length ≤ 1000000 by omega)
      clear hcl
      have HSn := hid (fun (W : World) (a b : Value) (ha : NRow W a C) (hb : NRow W b C) => sameNums_eq a b C W ha hb)
      go_wp2_with (first | (go_at_call 13; refine HO.out.mono ?_; rintro e w2 ⟨vo, rfl, o2, u2⟩; have N2 := hid (OwnN.nrow o2 HCl.out); have V2 := hid u2; clear o2 u2) | (go_at_call 14; refine (HS.out _ V2.out).mono ?_; rintro e w3 ⟨vs, rfl, o3, u3⟩; obtain ⟨ps, cs, es⟩ := OwnN.len o3; subst es; have V3 := hid (V2.out.trans u3); have N3 := hid (N2.out.old u3); clear o3 u3) | (go_at_call 9; refine (HR.out _ V3.out).mono ?_; rintro e w4 ⟨rfl, u4⟩; have V4 := hid (V3.out.trans u4); have N4 := hid (N3.out.old u4); clear u4) | (go_at_call 15; refine (HRo2.out _ V4.out).mono ?_; rintro e w5 ⟨vr, rfl, o5, u5⟩; have M5 := hid (OwnN.nrow o5 HCl.out); have V5 := hid (V4.out.trans u5); have N5 := hid (N4.out.old u5); clear o5 u5) | (go_at_call 16; refine (HSn.out _ _ _ N5.out M5.out).mono ?_; rintro e w6 ⟨rfl, u6⟩; have V6 := hid (V5.out.trans u6); clear u6))
      go_ret
      exact ⟨rfl, U1.out.trans V6.out⟩
    · have e1 : orB d n = false := by unfold orB; rw [hrt, decide_eq_false hs]; rfl
      have e2 : orL d n = [] := by unfold orL; rw [e1]; rfl
      obtain ⟨a1, a2, a3, a4⟩ := left_all hrt hs
      rw [e1, e2] at HO
      rw [decide_eq_false hs] at HRo2
      clear e1 e2 e3 hs hro hrt HRo
      generalize (cwF d n).1 = C at *
      generalize stkF d (cwF d n).2 n = S at *
      have HCl := hid (show C.length ≤ 1000000 by omega)
      have HSl := hid (show S.length ≤ 1000000 by omega)
      have HUp := hid (show ∀ i, 0 < i → i < S.length → S.getD (i - 1) 0 < S.getD i 0 from fun i h1 h2 => by
        rw [getD_at h2, getD_at (show i - 1 < S.length by omega)]
        exact List.pairwise_iff_getElem.1 a3 (i - 1) i (by omega) h2 (by omega))
      have HOut := hid (show ∀ i j, i < S.length → j < C.length → C.getD j 0 ≠ S.getD i 0 from fun i j h1 h2 e => a4 (S.getD i 0) (mem_getN S i h1) (by rw [← e]; exact mem_getN C j h2))
      have b1 : (S.length : Int) + (C.length : Int) = (n : Int) := by omega
      have b2 : ¬ (S.length : Int) < 2 := by omega
      have b3 : (S.length : Int) ≤ 64 := by omega
      have b4 : (C.length : Int) ≤ 64 := by omega
      clear a1 a2 a3 a4 hcl hsl
      generalize hSL : S.length = SL at *
      generalize hCL : C.length = CL at *
      have HSL := hid hSL
      have HCL := hid hCL
      have HB1 := hid b1
      clear hSL hCL b1
      obtain rfl : n = SL + CL := by have := HB1.out; omega
      go_upto_region 13 with (first | (go_at_call 13; refine HO.out.mono ?_; rintro e w2 ⟨vo, rfl, o2, u2⟩; obtain ⟨po, co, eo⟩ := OwnN.len o2; subst eo; have V2 := hid u2; clear o2 u2) | (go_at_call 14; refine (HS.out _ V2.out).mono ?_; rintro e w3 ⟨vs, rfl, o3, u3⟩; have N3 := hid (OwnN.nrow o3 (by rw [HSL.out]; exact HSl.out)); obtain ⟨ps, cs, es⟩ := OwnN.len o3; rw [HSL.out] at es; subst es; have V3 := hid (V2.out.trans u3); clear o3 u3) | (go_at_call 9; refine (HR.out _ V3.out).mono ?_; rintro e w4 ⟨rfl, u4⟩; have V4 := hid (V3.out.trans u4); have N4 := hid (N3.out.old u4); clear u4) | (go_at_call 15; refine (HRo2.out _ V4.out).mono ?_; rintro e w5 ⟨vr, rfl, o5, u5⟩; have M5 := hid (OwnN.nrow o5 (by rw [HCL.out]; exact HCl.out)); obtain ⟨pr, cr, er⟩ := OwnN.len o5; rw [HCL.out] at er; subst er; have V5 := hid (V4.out.trans u5); have N5 := hid (N4.out.old u5); clear o5 u5))
      clear HO HS HR HRo2 V2 V3 V4 N3 N4
      obtain ⟨p3, c3, e3, hcS⟩ := N5.out.shape
      rw [HSL.out] at e3 hcS
      cases e3
      obtain ⟨p4, c4, e4, hcC⟩ := M5.out.shape
      rw [HCL.out] at e4 hcC
      cases e4
      have HcS := hid hcS
      have HcC := hid hcC
      clear hcS hcC N5 M5
      have z1 : (((SL + CL : Nat) : Int)) = (SL : Int) + (CL : Int) := by omega
      go_wp2
      go_loopw [75] (fun i wr => ∃ k : Nat, k ≤ SL ∧ i = .int .i64 (k : Nat) ∧ Old w5 wr) (fun i _ => SL - (intOf i).toNat)
      case atStart => exact ⟨0, Nat.zero_le _, rfl, Old.refl _⟩
      case round =>
        obtain ⟨k, hk, rfl, hu⟩ := hrel
        have U := hid hu
        by_cases hlt : k < SL
        · obtain ⟨gs, os, ha, c0⟩ := HcS.out k hlt
          subst ha
          have x0 := hu.keep c0
          have l1 : (0 : Int) ≤ (k : Int) := by omega
          have l2 : (k : Int) < (SL : Int) := by omega
          have HOk := hid (HOut.out k)
          have HUk := hid (HUp.out k)
          have HXp := hid (show ∀ j, k = j + 1 → wr.cell? ⟨gs, os + j, none⟩ = some (.int .i64 (S.getD j 0)) from fun j e => by obtain ⟨g', o', e', c'⟩ := HcS.out j (by omega); cases e'; exact hu.keep c')
          clear c0 hu HcS
          generalize S.getD k 0 = y at *
          rcases Nat.eq_zero_or_pos k with rfl | hp
          · have l3 : ¬ ((0 : Int) < (0 : Int)) := by omega
            have x0' : wr.cell? ⟨gs, os, none⟩ = some (.int .i64 y) := by simpa using x0
            have l2' : (0 : Int) < (SL : Int) := by omega
            have l4 : 0 < SL := by omega
            clear x0 l1 l2 HXp HUk
            go_wp2
            go_loopw [93] (fun i wr => ∃ j : Nat, j ≤ CL ∧ i = .int .i64 (j : Nat) ∧ Old w5 wr) (fun i _ => CL - (intOf i).toNat)
            case atStart => exact ⟨0, Nat.zero_le _, rfl, U.out⟩
            case round =>
              obtain ⟨j, hj, rfl, hu⟩ := hrel
              have V := hid hu
              by_cases hjt : j < CL
              · obtain ⟨gc, oc, hac, c1⟩ := HcC.out j hjt
                subst hac
                have y0 := hu.keep c1
                have q := HOk.out j (by omega) hjt
                have q1 : (C.getD j 0 == y) = false := by rw [beq_eq_false_iff_ne]; exact q
                have m1 : (0 : Int) ≤ (j : Int) := by omega
                have m2 : (j : Int) < (CL : Int) := by omega
                clear c1 hu HcC
                generalize C.getD j 0 = z at *
                go_wp2
                go_roundw
                case rel => exact ⟨j + 1, hjt, by go_num, V.out⟩
                case measure => simp [intOf]; omega
              · obtain rfl : CL = j := by omega
                clear HcC
                go_wp2
                go_roundw
                case rel => exact ⟨0 + 1, hlt, by go_num, V.out⟩
                case measure => simp [intOf]; omega
          · obtain ⟨k', rfl⟩ : ∃ k', k = k' + 1 := ⟨k - 1, by omega⟩
            have x1 := HXp.out k' rfl
            have q0 := HUk.out hp hlt
            simp only [Nat.add_sub_cancel] at q0
            generalize S.getD k' 0 = y1 at *
            have l3 : (0 : Int) < ((k' : Int) + 1) := by omega
            have l4 : ¬ y ≤ y1 := by omega
            have l5 : (0 : Int) ≤ (k' : Int) := by omega
            have l6 : (k' : Int) < (SL : Int) := by omega
            clear q0 HXp
            go_wp2
            go_loopw [93] (fun i wr => ∃ j : Nat, j ≤ CL ∧ i = .int .i64 (j : Nat) ∧ Old w5 wr) (fun i _ => CL - (intOf i).toNat)
            case atStart => exact ⟨0, Nat.zero_le _, rfl, U.out⟩
            case round =>
              obtain ⟨j, hj, rfl, hu⟩ := hrel
              have V := hid hu
              by_cases hjt : j < CL
              · obtain ⟨gc, oc, hac, c1⟩ := HcC.out j hjt
                subst hac
                have y0 := hu.keep c1
                have q := HOk.out j (by omega) hjt
                have q1 : (C.getD j 0 == y) = false := by rw [beq_eq_false_iff_ne]; exact q
                have m1 : (0 : Int) ≤ (j : Int) := by omega
                have m2 : (j : Int) < (CL : Int) := by omega
                clear c1 hu HcC
                generalize C.getD j 0 = z at *
                go_wp2
                go_roundw
                case rel => exact ⟨j + 1, hjt, by go_num, V.out⟩
                case measure => simp [intOf]; omega
              · obtain rfl : CL = j := by omega
                clear HcC
                go_wp2
                go_roundw
                case rel => exact ⟨k' + 1 + 1, hlt, by go_num, V.out⟩
                case measure => simp [intOf]; omega
        · obtain rfl : SL = k := by omega
          clear HcS HcC
          go_wp2
          go_ret
          exact ⟨rfl, U1.out.trans (V5.out.trans U.out)⟩
end Go.Proofs.YtbkbnfgjkefcmaaGreat
