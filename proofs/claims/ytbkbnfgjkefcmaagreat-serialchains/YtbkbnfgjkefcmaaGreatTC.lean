/- The document's order (layer 12), plain: it is the one that line makes; what is left is two or more; no condition. -/
import Derived.Test.YtbkbnfgjkefcmaaGreatTH
import Derived.Laws.FloatArith
namespace Go.Proofs.YtbkbnfgjkefcmaaGreat
open Go.RowKit Go.Lib
set_option linter.unusedVariables false
set_option linter.unusedSimpArgs false
set_option maxRecDepth 20000
/-- May one come, of the first so many that lead to it? -/
def frU (d : Nat → Dn) (C : List Int) (i : Nat) : Nat → Bool
  | 0 => true
  | k + 1 => frU d C i k && (hasN C (d k).n || !ldB (d k) (d i))
/-- The least one that may come, of the first so many. -/
def nxU (d : Nat → Dn) (n : Nat) (C : List Int) : Nat → Option Nat
  | 0 => none
  | k + 1 => match nxU d n C k with
    | some j => some j
    | none => if (!hasN C (d k).n && frU d C k n) = true then some k else none
/-- The document's order. -/
def roF (d : Nat → Dn) (n : Nat) : Nat → List Int → List Int × Bool
  | 0, C => (C, true)
  | f + 1, C => if C.length < n then (match nxU d n C n with
    | none => (C, false)
    | some i => roF d n f (C ++ [(d i).n])) else (C, true)
theorem frU_iff {d : Nat → Dn} {C : List Int} {i : Nat} : ∀ {k : Nat}, frU d C i k = true ↔ ∀ j, j < k → hasN C (d j).n = true ∨ ldB (d j) (d i) = false
  | 0 => ⟨fun _ j hj => by omega, fun _ => rfl⟩
  | k + 1 => by
    show (frU d C i k && _) = true ↔ _
    rw [Bool.and_eq_true, frU_iff, Bool.or_eq_true, Bool.not_eq_true']
    constructor
    · rintro ⟨a, b⟩ j hj
      by_cases e : j = k
      · subst e; exact b
      · exact a j (by omega)
    · intro h
      exact ⟨fun j hj => h j (by omega), h k (by omega)⟩
theorem nxU_some {d : Nat → Dn} {n : Nat} {C : List Int} : ∀ {k i : Nat}, nxU d n C k = some i → i < k ∧ (!hasN C (d i).n && frU d C i n) = true ∧ ∀ j, j < i → (!hasN C (d j).n && frU d C j n) = false
  | 0, i, h => by cases h
  | k + 1, i, h => by
    unfold nxU at h
    cases e : nxU d n C k with
    | some j =>
      rw [e] at h
      cases h
      have q := nxU_some e
      exact ⟨by omega, q.2⟩
    | none =>
      rw [e] at h
      simp only at h
      split at h
      · rename_i q
        cases h
        refine ⟨by omega, q, ?_⟩
        have : ∀ m, nxU d n C m = none → ∀ j, j < m → (!hasN C (d j).n && frU d C j n) = false := by
          intro m
          induction m with
          | zero => intro _ j hj; omega
          | succ m ih =>
            intro h j hj
            unfold nxU at h
            cases e2 : nxU d n C m with
            | some x => rw [e2] at h; cases h
            | none =>
              rw [e2] at h
              simp only at h
              split at h
              · cases h
              · rename_i q2
                by_cases e3 : j = m
                · subst e3; simpa using q2
                · exact ih e2 j (by omega)
        exact this k e
      · cases h
theorem nxU_none {d : Nat → Dn} {n : Nat} {C : List Int} : ∀ {m : Nat}, nxU d n C m = none → ∀ j, j < m → (!hasN C (d j).n && frU d C j n) = false
  | 0, _, j, hj => by omega
  | m + 1, h, j, hj => by
    unfold nxU at h
    cases e2 : nxU d n C m with
    | some x => rw [e2] at h; cases h
    | none =>
      rw [e2] at h
      simp only at h
      split at h
      · cases h
      · rename_i q2
        by_cases e3 : j = m
        · subst e3; simpa using q2
        · exact nxU_none e2 j (by omega)
theorem idx0_first : ∀ (W : List Int) (k : Nat), idx0 W = some k → ∀ i, i < k → W.getD i 0 ≠ 0
  | [], k, h, _, _ => by cases h
  | x :: t, k, h, i, hi => by
    unfold idx0 at h
    split at h
    · cases h; omega
    · rename_i q
      cases e : idx0 t with
      | none => rw [e] at h; cases h
      | some j =>
        rw [e] at h
        cases h
        cases i with
        | zero => exact q
        | succ i => exact idx0_first t j e i (by have hi' : i + 1 < j + 1 := hi; omega)
theorem idx0_no : ∀ (W : List Int), idx0 W = none → ∀ i, i < W.length → W.getD i 0 ≠ 0
  | [], _, i, hi => by simp at hi
  | x :: t, h, i, hi => by
    unfold idx0 at h
    split at h
    · cases h
    · rename_i q
      cases e : idx0 t with
      | some j => rw [e] at h; cases h
      | none =>
        cases i with
        | zero => exact q
        | succ i => exact idx0_no t e i (by simpa using hi)
/-- Nought is written where one may come. -/
theorem Inv.nought {d : Nat → Dn} {n : Nat} {C W : List Int} (h : Inv (edU d n n) n C W) (hd : ∀ i, i < n → (d i).n = (i : Int) + 1) (i : Nat) (hi : i < n) : W.getD i 0 = 0 ↔ (!hasN C (d i).n && frU d C i n) = true := by
  rw [Bool.and_eq_true, Bool.not_eq_true', frU_iff]
  constructor
  · intro z
    have hc : (i : Int) + 1 ∉ C := fun q => by have := h.done i hi q; omega
    have hw := h.wait i hi hc
    rw [z] at hw
    refine ⟨?_, fun j hj => ?_⟩
    · cases e : hasN C (d i).n
      · rfl
      · exact absurd (by have := hasN_iff.1 e; rwa [hd i hi] at this) hc
    · cases e : ldB (d j) (d i)
      · exact Or.inr rfl
      · left
        rw [hasN_iff]
        by_cases c : (d j).n ∈ C
        · exact c
        · exfalso
          have : 0 < (edU d n n).countP (fun e => decide (e.2 = (i : Int) + 1) && !decide (e.1 ∈ C)) := List.countP_pos_iff.2 ⟨((d j).n, (d i).n), (edU_mem _).2 ⟨j, i, hj, hi, e, rfl⟩, by simp [hd i hi, c]⟩
          omega
  · rintro ⟨a, b⟩
    have hc : (i : Int) + 1 ∉ C := fun q => by
      have := hasN_iff.2 (by rw [hd i hi]; exact q : (d i).n ∈ C)
      rw [this] at a
      cases a
    rw [h.wait i hi hc]
    have : (edU d n n).countP (fun e => decide (e.2 = (i : Int) + 1) && !decide (e.1 ∈ C)) = 0 := by
      rw [List.countP_eq_zero]
      intro e he q
      simp at q
      obtain ⟨x, y, hx, hy, l, rfl⟩ := (edU_mem e).1 he
      have ey : y = i := by have := hd y hy; have := q.1; simp only at this; omega
      subst ey
      rcases b x hx with c | c
      · exact q.2 (hasN_iff.1 c)
      · rw [l] at c; cases c
    rw [this]
    rfl
theorem Inv.next {d : Nat → Dn} {n : Nat} {C W : List Int} (h : Inv (edU d n n) n C W) (hd : ∀ i, i < n → (d i).n = (i : Int) + 1) : nxU d n C n = idx0 W := by
  cases e : nxU d n C n with
  | none =>
    symm
    refine idx0_none W fun i hi z => ?_
    rw [h.len] at hi
    have a := nxU_none e i hi
    rw [(h.nought hd i hi).1 z] at a
    cases a
  | some i =>
    obtain ⟨a, b, c⟩ := nxU_some e
    symm
    refine idx0_some W i (by rw [h.len]; exact a) (fun j hj z => ?_) ((h.nought hd i a).2 b)
    have q := c j hj
    rw [(h.nought hd j (by omega)).1 z] at q
    cases q
theorem nod_le : ∀ (n : Nat) (C : List Int), C.Nodup → (∀ x ∈ C, 1 ≤ x ∧ x ≤ n) → C.length ≤ n
  | 0, C, _, h => by
    cases C with
    | nil => exact Nat.le_refl _
    | cons a t => have := h a (List.mem_cons_self ..); omega
  | n + 1, C, hn, h => by
    by_cases hm : ((n : Int) + 1) ∈ C
    · have a := nod_le n (C.erase ((n : Int) + 1)) (hn.erase _) (fun x hx => by
        have b := (hn.mem_erase_iff).1 hx
        have := h x b.2
        have := b.1
        omega)
      rw [List.length_erase_of_mem hm] at a
      omega
    · have a := nod_le n C hn (fun x hx => by
        have := h x hx
        have : x ≠ (n : Int) + 1 := fun e => hm (by rw [← e]; exact hx)
        omega)
      omega
theorem nod_all {n : Nat} {C : List Int} (hn : C.Nodup) (h : ∀ x ∈ C, 1 ≤ x ∧ x ≤ n) (hl : C.length = n) (i : Nat) (hi : i < n) : (i : Int) + 1 ∈ C := by
  by_cases c : (i : Int) + 1 ∈ C
  · exact c
  · exfalso
    have a := nod_le n (((i : Int) + 1) :: C) (List.nodup_cons.2 ⟨c, hn⟩) (fun x hx => by
      rcases List.mem_cons.1 hx with q | q
      · omega
      · exact h x q)
    simp at a
    omega
theorem stk_of {d : Nat → Dn} {W : List Int} : ∀ {n : Nat}, (∀ i, i < n → W.getD i 0 = -1) → stkF d W n = []
  | 0, _ => rfl
  | n + 1, h => by
    show stkF d W n ++ _ = []
    rw [stk_of (fun i hi => h i (by omega)), if_pos (h n (by omega))]
    rfl
/-- The document's order is the one that line makes. -/
theorem ro_line {d : Nat → Dn} {n : Nat} (hd : ∀ i, i < n → (d i).n = (i : Int) + 1) (hE : ∀ e ∈ edU d n n, (1 ≤ e.1 ∧ e.1 ≤ n) ∧ 1 ≤ e.2 ∧ e.2 ≤ n) (hne : ∀ e ∈ edU d n n, e.1 ≠ e.2) : ∀ (f g : Nat) (C W : List Int), Inv (edU d n n) n C W → n ≤ f + C.length → n ≤ g + C.length →
    roF d n g C = ((lineF d (edU d n n) f C W).1, decide (stkF d (lineF d (edU d n n) f C W).2 n = [])) := by
  intro f
  induction f with
  | zero =>
    intro g C W h hf hg
    have hl : C.length = n := by have := nod_le n C h.nod h.rng; omega
    have e1 : roF d n g C = (C, true) := by
      cases g with
      | zero => rfl
      | succ g => unfold roF; rw [if_neg (by omega)]
    rw [e1]
    show (C, true) = (C, decide (stkF d W n = []))
    rw [stk_of (fun i hi => h.done i hi (nod_all h.nod h.rng hl i hi))]
    rfl
  | succ f ih =>
    intro g C W h hf hg
    by_cases hl : C.length < n
    · cases g with
      | zero => omega
      | succ g =>
        cases e : idx0 W with
        | none =>
          have e1 : roF d n (g + 1) C = (C, false) := by unfold roF; rw [if_pos hl, h.next hd, e]
          have e2 : lineF d (edU d n n) (f + 1) C W = (C, W) := by unfold lineF; rw [e]
          rw [e1, e2]
          have : stkF d W n ≠ [] := fun q => by
            have a := h.all (stk_none q)
            have := nod_len n C h.nod h.rng a
            omega
          show (C, false) = (C, decide (stkF d W n = []))
          rw [decide_eq_false this]
        | some i =>
          obtain ⟨hi, hz⟩ := idx0_spec W i e
          rw [h.len] at hi
          have e1 : roF d n (g + 1) C = roF d n g (C ++ [(i : Int) + 1]) := by
            have : roF d n (g + 1) C = roF d n g (C ++ [(d i).n]) := by
              show (if C.length < n then _ else _) = _
              rw [if_pos hl, h.next hd, e]
            rw [this, hd i hi]
          have e2 : lineF d (edU d n n) (f + 1) C W = lineF d (edU d n n) f (C ++ [(i : Int) + 1]) (decW ((i : Int) + 1) (edU d n n) (W.set i (-1))) := by
            have : lineF d (edU d n n) (f + 1) C W = lineF d (edU d n n) f (C ++ [(d i).n]) (decW (d i).n (edU d n n) (W.set i (-1))) := by
              show (match idx0 W with | none => _ | some i => _) = _
              rw [e]
            rw [this, hd i hi]
          rw [e1, e2]
          exact ih g _ _ (h.step hE hne i hi hz) (by simp; omega) (by simp; omega)
    · have hl' : C.length = n := by have := nod_le n C h.nod h.rng; omega
      have hall := fun i hi => h.done i hi (nod_all h.nod h.rng hl' i hi)
      have e1 : roF d n g C = (C, true) := by
        cases g with
        | zero => rfl
        | succ g => unfold roF; rw [if_neg hl]
      have e0 : idx0 W = none := idx0_none W fun i hi z => by
        rw [h.len] at hi
        have := hall i hi
        omega
      have e2 : lineF d (edU d n n) (f + 1) C W = (C, W) := by unfold lineF; rw [e0]
      rw [e1, e2]
      show (C, true) = (C, decide (stkF d W n = []))
      rw [stk_of hall]
      rfl
theorem ro_cw {d : Nat → Dn} {n : Nat} (h : rtB d n = true) : roF d n n [] = ((cwF d n).1, decide (stkF d (cwF d n).2 n = [])) := by
  have hn := okU_num (rt_okU h)
  have hE := edU_rng hn n (Nat.le_refl _)
  exact ro_line hn hE (fun e he => by
    obtain ⟨i, j, _, _, a, b⟩ := (edU_mem e).1 he
    rw [b]
    exact ldB_ne a) _ n [] _ (Inv.start _ n hE) (by simp) (by simp)
/-- Where line has come to its end, no nought is left. -/
theorem line_end {d : Nat → Dn} {E : List (Int × Int)} {n : Nat} (hE : ∀ e ∈ E, (1 ≤ e.1 ∧ e.1 ≤ n) ∧ 1 ≤ e.2 ∧ e.2 ≤ n) (hne : ∀ e ∈ E, e.1 ≠ e.2) (hd : ∀ i, i < n → (d i).n = (i : Int) + 1) : ∀ (f : Nat) (C W : List Int), Inv E n C W → n ≤ f + C.length → idx0 (lineF d E f C W).2 = none
  | 0, C, W, h, hf => by
    have hl : C.length = n := by have := nod_le n C h.nod h.rng; omega
    show idx0 W = none
    refine idx0_none W fun i hi z => ?_
    rw [h.len] at hi
    have := h.done i hi (nod_all h.nod h.rng hl i hi)
    omega
  | f + 1, C, W, h, hf => by
    unfold lineF
    cases e : idx0 W with
    | none => exact e
    | some i =>
      simp only
      obtain ⟨hi, hz⟩ := idx0_spec W i e
      rw [h.len] at hi
      rw [hd i hi]
      exact line_end hE hne hd f _ _ (h.step hE hne i hi hz) (by simp; omega)
/-- Those that are left, as places. -/
def lfL (W : List Int) : Nat → List Nat
  | 0 => []
  | k + 1 => lfL W k ++ (if W.getD k 0 = -1 then [] else [k])
theorem stk_lf {d : Nat → Dn} {W : List Int} : ∀ {k : Nat}, (∀ i, i < k → (d i).n = (i : Int) + 1) → stkF d W k = (lfL W k).map fun i : Nat => (i : Int) + 1
  | 0, _ => rfl
  | k + 1, h => by
    show stkF d W k ++ _ = (lfL W k ++ _).map _
    rw [stk_lf (fun i hi => h i (by omega)), List.map_append]
    congr 1
    split
    · rfl
    · simp [h k (by omega)]
theorem lf_mem {W : List Int} : ∀ {k i : Nat}, i ∈ lfL W k ↔ i < k ∧ W.getD i 0 ≠ -1
  | 0, i => by simp [lfL]
  | k + 1, i => by
    show i ∈ lfL W k ++ _ ↔ _
    rw [List.mem_append, lf_mem]
    by_cases q : W.getD k 0 = -1
    · rw [if_pos q]
      constructor
      · rintro (⟨a, b⟩ | a)
        · exact ⟨by omega, b⟩
        · cases a
      · rintro ⟨a, b⟩
        left
        refine ⟨?_, b⟩
        by_cases e : i = k
        · subst e; exact absurd q b
        · omega
    · rw [if_neg q]
      constructor
      · rintro (⟨a, b⟩ | a)
        · exact ⟨by omega, b⟩
        · simp at a; subst a; exact ⟨by omega, q⟩
      · rintro ⟨a, b⟩
        by_cases e : i = k
        · right; simp [e]
        · left; exact ⟨by omega, b⟩
theorem lf_up {W : List Int} : ∀ {k : Nat}, (lfL W k).Pairwise (· < ·)
  | 0 => List.Pairwise.nil
  | k + 1 => by
    show (lfL W k ++ _).Pairwise _
    rw [List.pairwise_append]
    refine ⟨lf_up, ?_, ?_⟩
    · split <;> simp
    · intro a ha b hb
      have := (lf_mem.1 ha).1
      split at hb
      · cases hb
      · simp at hb; omega
/-- How many have come and how many are left is all. -/
theorem lf_len {W C : List Int} : ∀ {n : Nat}, C.Nodup → (∀ x ∈ C, 1 ≤ x ∧ x ≤ n) → (∀ i : Nat, i < n → ((i : Int) + 1 ∈ C ↔ W.getD i 0 = -1)) → (lfL W n).length + C.length = n
  | 0, _, hr, _ => by
    cases C with
    | nil => rfl
    | cons a t => have := hr a (List.mem_cons_self ..); omega
  | n + 1, hn, hr, hw => by
    show (lfL W n ++ _).length + _ = _
    rw [List.length_append]
    by_cases q : W.getD n 0 = -1
    · rw [if_pos q]
      have hm := (hw n (by omega)).2 q
      have a := lf_len (W := W) (C := C.erase ((n : Int) + 1)) (n := n) (hn.erase _) (fun x hx => by
        have b := (hn.mem_erase_iff).1 hx
        have := hr x b.2
        have := b.1
        omega) (fun i hi => by
          rw [hn.mem_erase_iff]
          constructor
          · rintro ⟨_, b⟩; exact (hw i (by omega)).1 b
          · intro b; exact ⟨by omega, (hw i (by omega)).2 b⟩)
      rw [List.length_erase_of_mem hm] at a
      have : 0 < C.length := List.length_pos_of_mem hm
      simp
      omega
    · rw [if_neg q]
      have a := lf_len (W := W) (C := C) (n := n) hn (fun x hx => by
        have := hr x hx
        have : x ≠ (n : Int) + 1 := fun e => q ((hw n (by omega)).1 (by rw [← e]; exact hx))
        omega) (fun i hi => hw i (by omega))
      simp
      omega
/-- What is left, where it is not all that comes: two or more, rising, none of which has come. -/
theorem left_all {d : Nat → Dn} {n : Nat} (h : rtB d n = true) (hs : stkF d (cwF d n).2 n ≠ []) :
    (stkF d (cwF d n).2 n).length + (cwF d n).1.length = n ∧ 2 ≤ (stkF d (cwF d n).2 n).length ∧ (stkF d (cwF d n).2 n).Pairwise (· < ·) ∧ ∀ x ∈ stkF d (cwF d n).2 n, x ∉ (cwF d n).1 := by
  have hn := okU_num (rt_okU h)
  have hE := edU_rng hn n (Nat.le_refl _)
  have hne : ∀ e ∈ edU d n n, e.1 ≠ e.2 := fun e he => by
    obtain ⟨i, j, _, _, a, b⟩ := (edU_mem e).1 he
    rw [b]
    exact ldB_ne a
  have hi := cw_inv h
  have h0 : idx0 (cwF d n).2 = none := line_end hE hne hn _ _ _ (Inv.start _ n hE) (by simp)
  generalize (cwF d n).1 = C at *
  generalize (cwF d n).2 = W at *
  have hw : ∀ i : Nat, i < n → ((i : Int) + 1 ∈ C ↔ W.getD i 0 = -1) := fun i hi' => by
    constructor
    · exact hi.done i hi'
    · intro z
      by_cases c : (i : Int) + 1 ∈ C
      · exact c
      · have := hi.wait i hi' c; omega
  have hsl := stk_lf (d := d) (W := W) (k := n) hn
  have hl := lf_len hi.nod hi.rng hw
  have hx : ∀ i, i ∈ lfL W n → ∃ j, j ∈ lfL W n ∧ j ≠ i := fun i hm => by
    obtain ⟨hin, hv⟩ := lf_mem.1 hm
    have hc : (i : Int) + 1 ∉ C := fun q => hv ((hw i hin).1 q)
    have a := hi.wait i hin hc
    have b := idx0_no W h0 i (by rw [hi.len]; exact hin)
    have c : 0 < (edU d n n).countP (fun e => decide (e.2 = (i : Int) + 1) && !decide (e.1 ∈ C)) := by omega
    obtain ⟨e, he, q⟩ := List.countP_pos_iff.1 c
    simp at q
    obtain ⟨x, y, hx, hy, l, rfl⟩ := (edU_mem e).1 he
    refine ⟨x, lf_mem.2 ⟨hx, fun z => q.2 ?_⟩, fun e => ?_⟩
    · simp only; rw [hn x hx]; exact (hw x hx).2 z
    · have := hne _ he
      simp only at this
      have q1 := q.1
      simp only at q1
      rw [hn x hx, e] at this
      omega
  rw [hsl] at hs ⊢
  refine ⟨by rw [List.length_map]; exact hl, ?_, ?_, ?_⟩
  · rw [List.length_map]
    match e : lfL W n with
    | [] => rw [e] at hs; exact absurd rfl hs
    | [a] =>
      obtain ⟨j, hj, hja⟩ := hx a (by rw [e]; simp)
      rw [e] at hj
      simp at hj
      exact absurd hj hja
    | a :: b :: t => simp
  · rw [List.pairwise_map]
    exact lf_up.imp (fun h => by omega)
  · intro x hm
    obtain ⟨i, hm2, rfl⟩ := List.mem_map.1 hm
    obtain ⟨hin, hv⟩ := lf_mem.1 hm2
    exact fun q => hv ((hw i hin).1 q)
end Go.Proofs.YtbkbnfgjkefcmaaGreat
namespace Go.Proofs.YtbkbnfgjkefcmaaGreat
open Go.RowKit Go.Lib
set_option linter.unusedVariables false
set_option linter.unusedSimpArgs false
set_option maxRecDepth 20000
theorem okU_iff' {d : Nat → Dn} : ∀ {n : Nat}, okU d n = true ↔ ∀ i, i < n → okB d i = true
  | 0 => ⟨fun _ i hi => by omega, fun _ => rfl⟩
  | n + 1 => by
    show (okU d n && okB d n) = true ↔ _
    rw [Bool.and_eq_true, okU_iff']
    constructor
    · rintro ⟨a, b⟩ i hi
      by_cases e : i = n
      · subst e; exact b
      · exact a i (by omega)
    · intro h
      exact ⟨fun i hi => h i (by omega), h n (by omega)⟩
theorem chk_nan' {s : Sb} (h : s.chk = 0) {j : Nat} (hj : j < s.n3) : Fl.nan (s.x3 j) = false := by
  have q := (chk_parts h).2.2.1
  rw [Bool.or_eq_false_iff] at q
  cases e : Fl.nan (s.x3 j)
  · rfl
  · have := Fl.anyG_true (fun i => Fl.nan (s.x3 i)) s.n3 j hj e
    rw [q.2] at this
    cases this
/-- To each that is left an edge leads from another one that is left. -/
theorem left_edge {d : Nat → Dn} {n : Nat} (h : rtB d n = true) : ∀ i, i ∈ lfL (cwF d n).2 n → ∃ j, j ∈ lfL (cwF d n).2 n ∧ ldB (d j) (d i) = true := by
  have hn := okU_num (rt_okU h)
  have hE := edU_rng hn n (Nat.le_refl _)
  have hne : ∀ e ∈ edU d n n, e.1 ≠ e.2 := fun e he => by
    obtain ⟨i, j, _, _, a, b⟩ := (edU_mem e).1 he
    rw [b]
    exact ldB_ne a
  have hi := cw_inv h
  have h0 : idx0 (cwF d n).2 = none := line_end hE hne hn _ _ _ (Inv.start _ n hE) (by simp)
  generalize (cwF d n).1 = C at *
  generalize (cwF d n).2 = W at *
  have hw : ∀ i : Nat, i < n → ((i : Int) + 1 ∈ C ↔ W.getD i 0 = -1) := fun i hi' => by
    constructor
    · exact hi.done i hi'
    · intro z
      by_cases c : (i : Int) + 1 ∈ C
      · exact c
      · have := hi.wait i hi' c; omega
  intro i hm
  obtain ⟨hin, hv⟩ := lf_mem.1 hm
  have hc : (i : Int) + 1 ∉ C := fun q => hv ((hw i hin).1 q)
  have a := hi.wait i hin hc
  have b := idx0_no W h0 i (by rw [hi.len]; exact hin)
  have c : 0 < (edU d n n).countP (fun e => decide (e.2 = (i : Int) + 1) && !decide (e.1 ∈ C)) := by omega
  obtain ⟨e, he, q⟩ := List.countP_pos_iff.1 c
  simp at q
  obtain ⟨x, y, hx, hy, l, rfl⟩ := (edU_mem e).1 he
  have ey : y = i := by have q1 := q.1; simp only at q1; rw [hn y hy] at q1; omega
  subst ey
  refine ⟨x, lf_mem.2 ⟨hx, fun z => q.2 ?_⟩, l⟩
  simp only
  rw [hn x hx]
  exact (hw x hx).2 z
/-- A chain: an edge leads from each to all behind it, and nowhere else. -/
def Chain (d : Nat → Dn) (n : Nat) : Prop := ∀ i j, i < n → j < n → ldB (d i) (d j) = decide (i < j)
theorem Chain.or {d : Nat → Dn} {n : Nat} (hc : Chain d n) (h : rtB d n = true) : orB d n = true := by
  have hn := okU_num (rt_okU h)
  have no : ∀ m i, i < m → i ∉ lfL (cwF d n).2 n := by
    intro m
    induction m with
    | zero => intro i hi; omega
    | succ m ih =>
      intro i hi hm
      obtain ⟨j, hj, l⟩ := left_edge h i hm
      rw [hc j i (lf_mem.1 hj).1 (lf_mem.1 hm).1, decide_eq_true_eq] at l
      exact ih j (by omega) hj
  have e : lfL (cwF d n).2 n = [] := by
    match e : lfL (cwF d n).2 n with
    | [] => rfl
    | a :: t => exact absurd (by rw [e]; exact List.mem_cons_self ..) (no (a + 1) a (by omega))
  unfold orB
  rw [h, stk_lf hn, e]
  rfl
theorem Ord.up {d : Nat → Dn} {n : Nat} {C : List Int} (h : Ord d n C) (hc : Chain d n) {a b : Nat} (hab : a < b) (hb : b < C.length) : C.getD a 0 < C.getD b 0 := by
  have ea : C.getD a 0 = C[a]'(by omega) := by simp [List.getD_eq_getElem?_getD, show a < C.length by omega]
  have eb : C.getD b 0 = C[b] := by simp [List.getD_eq_getElem?_getD, hb]
  have hne : C[a]'(by omega) ≠ C[b] := List.pairwise_iff_getElem.1 h.nod a b (by omega) hb hab
  rw [ea, eb]
  by_cases q : C[a]'(by omega) < C[b]
  · exact q
  · exfalso
    have ra := h.rng _ (List.getElem_mem (show a < C.length by omega))
    have rb := h.rng _ (List.getElem_mem hb)
    obtain ⟨i, hi⟩ : ∃ i : Nat, C[b] = (i : Int) + 1 := ⟨(C[b] - 1).toNat, by omega⟩
    obtain ⟨j, hj⟩ : ∃ j : Nat, C[a]'(by omega) = (j : Int) + 1 := ⟨(C[a]'(by omega) - 1).toNat, by omega⟩
    have hs : C = C.take a ++ ((j : Int) + 1) :: C.drop (a + 1) := by
      rw [← hj]
      simp
    have m := h.ahead (i := i) (j := j) (by omega) (by omega) (by rw [hc i j (by omega) (by omega), decide_eq_true_eq]; omega) hs
    rw [← hi] at m
    obtain ⟨k, hk, ek⟩ := List.getElem_of_mem m
    rw [List.length_take] at hk
    rw [List.getElem_take] at ek
    exact List.pairwise_iff_getElem.1 h.nod k b (by omega) hb (by omega) ek
theorem up_lo {C : List Int} {n : Nat} (hl : C.length = n) (hr : ∀ x ∈ C, 1 ≤ x ∧ x ≤ n) (hu : ∀ a b, a < b → b < C.length → C.getD a 0 < C.getD b 0) : ∀ a, a < n → (a : Int) + 1 ≤ C.getD a 0
  | 0, h => by have := hr _ (mem_getN C 0 (by omega)); omega
  | a + 1, h => by
    have q := up_lo hl hr hu a (by omega)
    have := hu a (a + 1) (by omega) (by omega)
    omega
theorem up_hi {C : List Int} {n : Nat} (hl : C.length = n) (hr : ∀ x ∈ C, 1 ≤ x ∧ x ≤ n) (hu : ∀ a b, a < b → b < C.length → C.getD a 0 < C.getD b 0) : ∀ m a, a + m + 1 = n → C.getD a 0 ≤ (a : Int) + 1
  | 0, a, h => by have := hr _ (mem_getN C a (by omega)); omega
  | m + 1, a, h => by
    have q := up_hi hl hr hu m (a + 1) (by omega)
    have := hu a (a + 1) (by omega) (by omega)
    omega
/-- A chain's order is that of its numbers. -/
theorem Chain.num {d : Nat → Dn} {n : Nat} (hc : Chain d n) (h : rtB d n = true) : (orL d n).length = n ∧ ∀ a, a < n → (orL d n).getD a 0 = (a : Int) + 1 := by
  obtain ⟨ho, hl⟩ := or_ord (hc.or h)
  have hu : ∀ a b, a < b → b < (orL d n).length → (orL d n).getD a 0 < (orL d n).getD b 0 := fun a b h1 h2 => ho.up hc h1 h2
  refine ⟨hl, fun a ha => ?_⟩
  have := up_lo hl ho.rng hu a ha
  have := up_hi hl ho.rng hu (n - a - 1) a (by omega)
  omega
theorem Chain.edR {d : Nat → Dn} {n : Nat} (hc : Chain d n) {k : Nat} (hk : k < n) : ∀ m, m ≤ n → (Go.Proofs.YtbkbnfgjkefcmaaGreat.edR d k m).length = m - (k + 1)
  | 0, _ => by simp [Go.Proofs.YtbkbnfgjkefcmaaGreat.edR]
  | m + 1, h => by
    show (Go.Proofs.YtbkbnfgjkefcmaaGreat.edR d k m ++ (if ldB (d k) (d m) = true then _ else _)).length = _
    rw [List.length_append, hc.edR hk m (by omega), hc k m hk (by omega)]
    by_cases q : k < m
    · rw [decide_eq_true q]; simp; omega
    · rw [decide_eq_false q]; simp; omega
theorem Chain.edU {d : Nat → Dn} {n : Nat} (hc : Chain d n) : ∀ k, k ≤ n → 2 * (Go.Proofs.YtbkbnfgjkefcmaaGreat.edU d n k).length + k * k + k = 2 * (n * k)
  | 0, _ => by simp [Go.Proofs.YtbkbnfgjkefcmaaGreat.edU]
  | k + 1, h => by
    have q := hc.edU k (by omega)
    have e : (Go.Proofs.YtbkbnfgjkefcmaaGreat.edU d n (k + 1)).length = (Go.Proofs.YtbkbnfgjkefcmaaGreat.edU d n k).length + (n - (k + 1)) := by
      show (Go.Proofs.YtbkbnfgjkefcmaaGreat.edU d n k ++ Go.Proofs.YtbkbnfgjkefcmaaGreat.edR d k n).length = _
      rw [List.length_append, hc.edR (by omega) n (Nat.le_refl _)]
    rw [e, Nat.mul_add n k 1, show (k + 1) * (k + 1) = k * k + 2 * k + 1 by rw [Nat.add_mul, Nat.mul_add]; omega]
    generalize k * k = a at *
    generalize n * k = b at *
    omega
theorem Chain.many {d : Nat → Dn} {n : Nat} (hc : Chain d n) : (n : Int) * ((n : Int) - 1) = 2 * ((Go.Proofs.YtbkbnfgjkefcmaaGreat.edU d n n).length : Int) := by
  have q := hc.edU n (Nat.le_refl _)
  have e : (n : Int) * ((n : Int) - 1) = (n : Int) * (n : Int) - (n : Int) := by rw [Int.mul_sub, Int.mul_one]
  rw [e]
  have e2 : ((n * n : Nat) : Int) = (n : Int) * (n : Int) := by simp
  rw [← e2]
  generalize n * n = a at *
  omega
/-- Transactions with one key, each on the number ahead of it, are a chain where they are right. -/
theorem chain_of {d : Nat → Dn} {n : Nat} {k : Nat} (h : rtB d n = true) (hs : ∀ i, i < n → (d i).s.s3 = (i : Int)) (h3 : ∀ i, i < n → (d i).s.n3 = 1 ∧ (d i).s.x3 0 = k) : Chain d n := by
  intro i j hi hj
  have hn := okU_num (rt_okU h)
  have ei := hn i hi
  have ej := hn j hj
  have si := hs i hi
  have sj := hs j hj
  have nank : Fl.nan k = false := by
    have q := okU_iff'.1 (rt_okU h) i hi
    rw [← (h3 i hi).2]
    refine chk_nan' ?_ (by rw [(h3 i hi).1]; omega)
    unfold okB at q
    rw [Bool.and_eq_true, Bool.and_eq_true, decide_eq_true_eq, decide_eq_true_eq] at q
    exact q.2.1
  have hw : ∀ m, m < n → writeB (d m).s k = true := fun m hm => by
    refine anyG_iff.2 ⟨0, by rw [(h3 m hm).1]; omega, ?_⟩
    unfold keyEq
    rw [(h3 m hm).2, nank]
    simp
  unfold ldB
  by_cases q : i < j
  · have a1 : ¬ (d i).n = (d j).n := by omega
    have a2 : (d i).n < (d j).n := by omega
    rw [decide_eq_true q, decide_eq_false a1, decide_eq_true a2, bw_of (hw i hi) (hw j hj)]
    simp
  · by_cases e : i = j
    · subst e; simp
    · have a2 : ¬ (d i).n < (d j).n := by omega
      have a3 : ¬ (d i).n ≤ (d j).s.s3 := by omega
      have a4 : ¬ (d i).s.s3 < (d j).n := by omega
      rw [decide_eq_false q, decide_eq_false a2, decide_eq_false a3, decide_eq_false a4]
      simp
end Go.Proofs.YtbkbnfgjkefcmaaGreat
namespace Go.Proofs.YtbkbnfgjkefcmaaGreat
open Go.RowKit Go.Lib
set_option linter.unusedVariables false
set_option linter.unusedSimpArgs false
set_option maxRecDepth 20000
abbrev dRow (a : Dn) : List Value := [.int .i64 a.n, .int .i64 a.s.s1, .int .i64 a.s.s2, .int .i64 a.s.s3, .slice a.s.a1 a.s.n1 a.s.c1, .slice a.s.a2 a.s.n2 a.s.c2, .slice a.s.a3 a.s.n3 a.s.c3]
def dcs : List Dn → List Value | [] => [] | a :: t => dRow a ++ dcs t
theorem dcs_app : ∀ (L M : List Dn), dcs L ++ dcs M = dcs (L ++ M)
  | [], M => rfl
  | a :: t, M => by show (dRow a ++ dcs t) ++ dcs M = dRow a ++ dcs (t ++ M); rw [List.append_assoc, dcs_app t M]
theorem dcs_at : ∀ (L : List Dn) (i : Nat) (hi : i < L.length) (j : Nat), j < 7 → (dcs L)[i * 7 + j]? = (dRow L[i])[j]?
  | [], i, hi, _, _ => by simp at hi
  | a :: t, 0, hi, j, hj => by
    show (dRow a ++ dcs t)[0 * 7 + j]? = _
    rw [show 0 * 7 + j = j by omega, List.getElem?_append_left (by simpa using hj)]
    rfl
  | a :: t, i + 1, hi, j, hj => by
    show (dRow a ++ dcs t)[(i + 1) * 7 + j]? = _
    rw [List.getElem?_append_right (by simp; omega), show (i + 1) * 7 + j - (dRow a).length = i * 7 + j by simp; omega]
    exact dcs_at t i (by simpa using hi) j hj
theorem infoDn : (Tryz.prog.info? 33).map (fun i => (i.zero, i.size, i.bytes)) = some (some (.agg #[.int .i64 0, .int .i64 0, .int .i64 0, .int .i64 0, .slice none 0 0, .slice none 0 0, .slice none 0 0]), 7, 104) := by kernel_rfl
def OwnD (base : Nat) (w : World) (v : Value) (L : List Dn) : Prop := w.ownsRow base 33 7 v L.length (dcs L)
theorem OwnD.old {base : Nat} {w w' : World} {v : Value} {L : List Dn} (h : OwnD base w v L) (u : Old w w') : OwnD base w' v L := own_old h u
theorem OwnD.empty {base g : Nat} {w : World} (hb : base ≤ w.heap.size) (hg : w.heap.size = g) : OwnD base (w.alloc (.cells #[] 33)) (.slice (some ⟨g, 0, none⟩) 0 0) [] := by
  subst hg
  exact World.ownsRow_made w #[] 0 hb (by unfold maxLen; omega) rfl
theorem wp_appD {ops : Array Oper} {rest : List Oper} {o : Oper} {a : Act} {Q : Exit → Act → World → Prop} {w : World} (hgd : o.guard = none) (s x : Operand)
    (ho : o.op = .call { callee := .builtin .append, args := #[s, x], argTypes := #[22, 22] }) (base : Nat) (v : Value) (L : List Dn) (r : Dn) (g c1 : Nat)
    (hs : a.eval s = v) (hx : a.eval x = .slice (some ⟨g, 0, none⟩) 1 c1) (hown : OwnD base w v L) (hc : ∀ j, j < 7 → w.cell? ⟨g, j, none⟩ = (dRow r)[j]?) (hb : L.length + 1 ≤ 1000000) (hbase : base ≤ w.heap.size)
    (h : ∀ v' w', OwnD base w' v' (L ++ [r]) → w.grownBy w' v.ownBlock → (v'.ownBlock = v.ownBlock ∨ v'.ownBlock = some w.heap.size) → wpList Tryz.prog ops Q rest (a.put o.dst v') w') : wpList Tryz.prog ops Q (o :: rest) a w := by
  obtain ⟨i0, hi, hz0, hz1, hz2⟩ := info_parts infoDn
  refine wpList_append_own_at w hgd s x 22 ho base 33 i0 _ 7 104 Tryz.underlying22 hi hz0 hz1 hz2 rfl (by decide) v L.length (dcs L) hs hown ⟨g, 0, none⟩ 1 c1 (dcs [r]) hx rfl ?_ ?_ (by unfold maxLen; omega) (by omega) hbase ?_
  · intro j u hj
    rw [Go.WideShapes.add_plain]
    have hj7 : j < 7 := by
      by_cases q : j < 7
      · exact q
      · rw [List.getElem?_eq_none (by simp [dcs]; omega)] at hj; cases hj
    have e : (dcs [r])[j]? = (dRow r)[j]? := by
      have := dcs_at [r] 0 (by simp) j hj7
      rw [show 0 * 7 + j = j by omega] at this
      exact this
    rw [Nat.zero_add, hc j hj7, ← e]
    exact hj
  · intro u hu
    simp [dcs, dRow] at hu
    rcases hu with rfl | rfl | rfl | rfl | rfl | rfl | rfl <;> rfl
  · intro v' w' h1 h2 h3 h4
    exact h v' w' (by unfold OwnD; rw [dcs_app] at h1; simpa using h1) h2 h4
theorem cellD (w : World) (r : Dn) (g : Nat) (hg : w.heap.size = g) : ∀ j, j < 7 → (w.alloc (.cells #[.int .i64 r.n, .int .i64 r.s.s1, .int .i64 r.s.s2, .int .i64 r.s.s3, .slice r.s.a1 r.s.n1 r.s.c1, .slice r.s.a2 r.s.n2 r.s.c2, .slice r.s.a3 r.s.n3 r.s.c3] 33)).cell? ⟨g, j, none⟩ = (dRow r)[j]? := by
  subst hg
  intro j hj
  match j, hj with
  | 0, _ | 1, _ | 2, _ | 3, _ | 4, _ | 5, _ | 6, _ => simp
theorem OwnD.shape {base : Nat} {w : World} {v : Value} {L : List Dn} (h : OwnD base w v L) : ∃ p c, v = .slice p L.length c ∧ L.length ≤ c ∧ c ≤ 9223372036854775807 ∧ (L.length = 0 ∨ ∃ g, p = some ⟨g, 0, none⟩ ∧ v.ownBlock = some g ∧ base ≤ g ∧ Blk w g (L.length * 7) ∧ ∀ i (hi : i < L.length), DnIn w g (0 + i * 7) L[i]) := by
  have h2 := h
  unfold OwnD at h2
  rcases h2.2 with ⟨e1, e⟩ | ⟨g, cap, cur, rfl, hb, hg, hnc, hcm, hcs, htk⟩
  · exact ⟨none, 0, by rw [e1, e], by omega, by omega, Or.inl e⟩
  · refine ⟨_, cap, rfl, hnc, by unfold maxLen at hcm; omega, Or.inr ⟨g, rfl, rfl, hb, ⟨cur, _, hg, by rw [hcs]; exact Nat.mul_le_mul_right _ hnc⟩, fun i hi => ?_⟩⟩
    have c : ∀ j, j < 7 → w.cell? ⟨g, i * 7 + j, none⟩ = (dRow L[i])[j]? := fun j hj => by
      rw [h2.cellAt (i * 7 + j) (by omega)]
      exact dcs_at L i hi j hj
    rw [Nat.zero_add]
    exact ⟨c 0 (by omega), c 1 (by omega), c 2 (by omega), c 3 (by omega), c 4 (by omega), c 5 (by omega), c 6 (by omega)⟩
/-- Transactions that were made: each with its two rows of one key, none of which is the row's own block. -/
def Made (w : World) (own : Option Nat) (L : List Dn) (X : Nat) : Prop := ∀ i (hi : i < L.length), ∃ ra rb, L[i] = dnS ((i : Int) + 1) (i : Int) X X ra rb ∧ w.cell? ⟨ra, 0, none⟩ = some (.float .f64 X) ∧ w.cell? ⟨rb, 0, none⟩ = some (.float .f64 X) ∧ own ≠ some ra ∧ own ≠ some rb
/-- Transactions in a row whose first so many have new rows of keys. -/
def Turned (w : World) (g n k K : Nat) (e : Nat → Dn) : Prop := ∀ i, i < n → ∃ ra rb xa xb, e i = dnS ((i : Int) + 1) (i : Int) xa xb ra rb ∧ DnIn w g (0 + i * 7) (e i) ∧ w.cell? ⟨ra, 0, none⟩ = some (.float .f64 xa) ∧ w.cell? ⟨rb, 0, none⟩ = some (.float .f64 xb) ∧ ra ≠ g ∧ rb ≠ g ∧ Fl.W xa ∧ Fl.W xb ∧ (i < k → xa = K ∧ xb = K)
theorem DnIn.put {w : World} {g o : Nat} {d : Dn} (h : DnIn w g o d) (p : Nat) (hp : p < o ∨ o + 7 ≤ p) (v : Value) : DnIn (w.setCell ⟨g, p, none⟩ v) g o d := by
  have C : ∀ j, j < 7 → (w.setCell ⟨g, p, none⟩ v).cell? ⟨g, o + j, none⟩ = w.cell? ⟨g, o + j, none⟩ := fun j hj => World.cell?_setCell_other _ _ _ _ (by intro e; injection e with _ e _; omega)
  exact ⟨(C 0 (by omega)).trans h.1, (C 1 (by omega)).trans h.2.1, (C 2 (by omega)).trans h.2.2.1, (C 3 (by omega)).trans h.2.2.2.1, (C 4 (by omega)).trans h.2.2.2.2.1, (C 5 (by omega)).trans h.2.2.2.2.2.1, (C 6 (by omega)).trans h.2.2.2.2.2.2⟩
theorem setFar {w : World} {g p r : Nat} {u v : Value} (h : w.cell? ⟨r, 0, none⟩ = some u) (hr : r ≠ g) : (w.setCell ⟨g, p, none⟩ v).cell? ⟨r, 0, none⟩ = some u := by
  rw [World.cell?_setCell_other _ _ _ _ (by intro e; injection e with e _ _; exact hr e.symm)]
  exact h
theorem Turned.old {w w' : World} {g n k K : Nat} {e : Nat → Dn} (h : Turned w g n k K e) (u : Old w w') : Turned w' g n k K e := fun i hi => by
  obtain ⟨ra, rb, xa, xb, h1, h2, h3, h4, h5⟩ := h i hi
  exact ⟨ra, rb, xa, xb, h1, h2.old u, u.keep h3, u.keep h4, h5⟩
/-- New keys that are read. -/
theorem Turned.setA {w : World} {g n k K : Nat} {e : Nat → Dn} (h : Turned w g n k K e) (hk : k < n) (m : Nat) (hm : w.cell? ⟨m, 0, none⟩ = some (.float .f64 K)) (hmg : m ≠ g) (hK : Fl.W K) : ∃ e', Turned (w.setCell ⟨g, k * 7 + 4, none⟩ (.slice (some ⟨m, 0, none⟩) 1 1)) g n k K e' ∧ ∃ rb xb, e' k = dnS ((k : Int) + 1) (k : Int) K xb m rb := by
  obtain ⟨ra, rb, xa, xb, h1, h2, h3, h4, h5, h6, h7, h8, h9⟩ := h k hk
  refine ⟨fun i => if i = k then dnS ((k : Int) + 1) (k : Int) K xb m rb else e i, fun i hi => ?_, rb, xb, by simp⟩
  by_cases q : i = k
  · subst q
    refine ⟨m, rb, K, xb, by simp, ?_, setFar hm hmg, setFar h4 h6, hmg, h6, hK, h8, fun z => by omega⟩
    simp only [if_true]
    rw [h1] at h2
    rw [Nat.zero_add] at h2 ⊢
    have C : ∀ j, j < 7 → j ≠ 4 → (w.setCell ⟨g, i * 7 + 4, none⟩ (.slice (some ⟨m, 0, none⟩) 1 1)).cell? ⟨g, i * 7 + j, none⟩ = w.cell? ⟨g, i * 7 + j, none⟩ := fun j hj hn => World.cell?_setCell_other _ _ _ _ (by intro e; injection e with _ e _; omega)
    exact ⟨(C 0 (by omega) (by omega)).trans h2.1, (C 1 (by omega) (by omega)).trans h2.2.1, (C 2 (by omega) (by omega)).trans h2.2.2.1, (C 3 (by omega) (by omega)).trans h2.2.2.2.1, World.cell?_setCell_same _ _ _ h2.2.2.2.2.1, (C 5 (by omega) (by omega)).trans h2.2.2.2.2.2.1, (C 6 (by omega) (by omega)).trans h2.2.2.2.2.2.2⟩
  · obtain ⟨ra', rb', xa', xb', g1, g2, g3, g4, g5, g6, g7, g8, g9⟩ := h i hi
    refine ⟨ra', rb', xa', xb', by simp [q]; exact g1, ?_, setFar g3 g5, setFar g4 g6, g5, g6, g7, g8, g9⟩
    simp only [q, if_false]
    exact g2.put _ (by omega) _
/-- New keys that are written. -/
theorem Turned.setB {w : World} {g n k K : Nat} {e : Nat → Dn} (h : Turned w g n k K e) (hk : k < n) (m : Nat) (hm : w.cell? ⟨m, 0, none⟩ = some (.float .f64 K)) (hmg : m ≠ g) (hK : Fl.W K) (hA : ∃ ra rb xb, e k = dnS ((k : Int) + 1) (k : Int) K xb ra rb) : ∃ e', Turned (w.setCell ⟨g, k * 7 + 6, none⟩ (.slice (some ⟨m, 0, none⟩) 1 1)) g n (k + 1) K e' := by
  obtain ⟨ra, rb, xa, xb, h1, h2, h3, h4, h5, h6, h7, h8, h9⟩ := h k hk
  have hxa : xa = K := by
    obtain ⟨ra2, rb2, xb2, e2⟩ := hA
    rw [h1] at e2
    have := congrArg (fun z : Dn => z.s.x1 0) e2
    exact this
  refine ⟨fun i => if i = k then dnS ((k : Int) + 1) (k : Int) xa K ra m else e i, fun i hi => ?_⟩
  by_cases q : i = k
  · subst q
    refine ⟨ra, m, xa, K, by simp, ?_, setFar h3 h5, setFar hm hmg, h5, hmg, h7, hK, fun z => ⟨hxa, rfl⟩⟩
    simp only [if_true]
    rw [h1] at h2
    rw [Nat.zero_add] at h2 ⊢
    have C : ∀ j, j < 7 → j ≠ 6 → (w.setCell ⟨g, i * 7 + 6, none⟩ (.slice (some ⟨m, 0, none⟩) 1 1)).cell? ⟨g, i * 7 + j, none⟩ = w.cell? ⟨g, i * 7 + j, none⟩ := fun j hj hn => World.cell?_setCell_other _ _ _ _ (by intro e; injection e with _ e _; omega)
    exact ⟨(C 0 (by omega) (by omega)).trans h2.1, (C 1 (by omega) (by omega)).trans h2.2.1, (C 2 (by omega) (by omega)).trans h2.2.2.1, (C 3 (by omega) (by omega)).trans h2.2.2.2.1, (C 4 (by omega) (by omega)).trans h2.2.2.2.2.1, (C 5 (by omega) (by omega)).trans h2.2.2.2.2.2.1, World.cell?_setCell_same _ _ _ h2.2.2.2.2.2.2⟩
  · obtain ⟨ra', rb', xa', xb', g1, g2, g3, g4, g5, g6, g7, g8, g9⟩ := h i hi
    refine ⟨ra', rb', xa', xb', by simp [q]; exact g1, ?_, setFar g3 g5, setFar g4 g6, g5, g6, g7, g8, fun z => g9 (by omega)⟩
    simp only [q, if_false]
    exact g2.put _ (by omega) _
theorem Turned.start {base : Nat} {w : World} {L : List Dn} {g X K : Nat} (hg : ∀ i (hi : i < L.length), DnIn w g (0 + i * 7) L[i]) (hM : Made w (some g) L X) (hX : Fl.W X) : Turned w g L.length 0 K (fun i => L.getD i (dnS 0 0 0 0 0 0)) := fun i hi => by
  obtain ⟨ra, rb, e, c1, c2, n1, n2⟩ := hM i hi
  have e2 : L.getD i (dnS 0 0 0 0 0 0) = L[i] := by simp [List.getD_eq_getElem?_getD, hi]
  refine ⟨ra, rb, X, X, by simp only; rw [e2, e], by simp only; rw [e2]; exact hg i hi, c1, c2, fun z => n1 (by rw [z]), fun z => n2 (by rw [z]), hX, hX, fun z => by omega⟩
theorem Turned.row {w : World} {g n K c : Nat} {e : Nat → Dn} (h : Turned w g n n K e) (hn : n ≤ 64) (hnc : n ≤ c) (hcm : c ≤ 9223372036854775807) : DRow w (.slice (some ⟨g, 0, none⟩) n c) n e ∧ (∀ i, i < n → (e i).s.s3 = (i : Int)) ∧ ∀ i, i < n → (e i).s.n3 = 1 ∧ (e i).s.x3 0 = K := by
  refine ⟨⟨by omega, _, c, rfl, hnc, hcm, fun i hi => ⟨g, 0, rfl, ?_⟩⟩, fun i hi => ?_, fun i hi => ?_⟩
  · obtain ⟨ra, rb, xa, xb, h1, h2, h3, h4, h5, h6, h7, h8, h9⟩ := h i hi
    exact ⟨h2, by rw [h1]; exact dnS_ok w _ _ xa xb ra rb h7 h8 h3 h4⟩
  · obtain ⟨ra, rb, xa, xb, h1, _⟩ := h i hi
    rw [h1]
    rfl
  · obtain ⟨ra, rb, xa, xb, h1, h2, h3, h4, h5, h6, h7, h8, h9⟩ := h i hi
    rw [h1]
    exact ⟨rfl, (h9 hi).2⟩
theorem add0 (X : Nat) (h : Fl.nan X = false) : ∃ r, floatBits .add .f64 X 0 = some r ∧ Fl.W r := by
  have e : ∃ r, floatBits .add .f64 X 0 = some r := by
    have z : Ieee.double.read 0 = _ := Fl.read_num 0 (by decide)
    show ∃ r, ((Ieee.double.read X).sum (Ieee.double.read 0)).map Ieee.double.write = some r
    rw [z]
    have hx : X % Fl.S ≤ Fl.INF := by unfold Fl.nan at h; simp at h; exact h
    rcases Nat.lt_or_ge (X % Fl.S) Fl.INF with q | q
    · rw [Fl.read_num X q]
      exact ⟨_, rfl⟩
    · rw [Fl.read_inf X (by omega)]
      exact ⟨_, rfl⟩
  obtain ⟨r, e⟩ := e
  exact ⟨r, e, by have := floatBits_wf e; simp [Lit.wf] at this; exact this⟩
theorem and_mask' (a : Int) (m : Nat) (hm : m < 9223372036854775808) : ∃ M : Nat, M ≤ m ∧ bits .and .i64 a (m : Int) = (M : Int) := by
  refine ⟨(BitVec.ofInt 64 a &&& BitVec.ofInt 64 (m : Int)).toNat, ?_, ?_⟩
  · rw [BitVec.toNat_and, BitVec.ofInt_natCast, BitVec.toNat_ofNat, Nat.mod_eq_of_lt (by omega)]
    exact Nat.and_le_right
  · have h : (BitVec.ofInt 64 a &&& BitVec.ofInt 64 (m : Int)).toNat ≤ m := by
      rw [BitVec.toNat_and, BitVec.ofInt_natCast, BitVec.toNat_ofNat, Nat.mod_eq_of_lt (by omega)]
      exact Nat.and_le_right
    show IntKind.i64.wrap ((BitVec.ofInt 64 a &&& BitVec.ofInt 64 (m : Int)).toNat : Int) = _
    generalize (BitVec.ofInt 64 a &&& BitVec.ofInt 64 (m : Int)).toNat = r at *
    simp [IntKind.wrap, IntKind.bits, IntKind.signed]
    omega
attribute [local go_sem] run_bits run_frombits run_store_float eqF
set_option maxHeartbeats 1000000 in
set_option maxRecDepth 20000 in
theorem done_new (n snap : Int) (r k : Nat) (w : World) :
    Calls Tryz.prog 19 #[.int .i64 n, .int .i64 snap, .float .f64 r, .float .f64 k] w fun e w' => ∃ g1 g3, e = .returned (.agg #[.int .i64 (dnS n snap r k g1 g3).n, .int .i64 (dnS n snap r k g1 g3).s.s1, .int .i64 (dnS n snap r k g1 g3).s.s2, .int .i64 (dnS n snap r k g1 g3).s.s3, .slice (dnS n snap r k g1 g3).s.a1 (dnS n snap r k g1 g3).s.n1 (dnS n snap r k g1 g3).s.c1, .slice (dnS n snap r k g1 g3).s.a2 (dnS n snap r k g1 g3).s.n2 (dnS n snap r k g1 g3).s.c2, .slice (dnS n snap r k g1 g3).s.a3 (dnS n snap r k g1 g3).s.n3 (dnS n snap r k g1 g3).s.c3]) ∧ w.heap.size ≤ g1 ∧ w.heap.size ≤ g3 ∧ w'.cell? ⟨g1, 0, none⟩ = some (.float .f64 r) ∧ w'.cell? ⟨g3, 0, none⟩ = some (.float .f64 k) ∧ Old w w' := by
  go_enter Tryz.func19, Tryz.ntmps19
  go_wp2
  have q1 : (((w.alloc (.cells #[.int .i64 n, .int .i64 1, .int .i64 n, .int .i64 snap, .slice (some ⟨w.heap.size + 1, 0, none⟩) 1 1, .slice none 0 0, .slice (some ⟨w.heap.size + 1 + 1, 0, none⟩) 1 1] 33)).alloc (.cells #[.float .f64 r] 43)).alloc (.cells #[.float .f64 k] 43)).cell? ⟨w.heap.size + 1, 0, none⟩ = some (.float .f64 r) := ((Old.refl _).alloc _).keep (cell_oneF _ _ _ (by simp))
  have q2 : (((w.alloc (.cells #[.int .i64 n, .int .i64 1, .int .i64 n, .int .i64 snap, .slice (some ⟨w.heap.size + 1, 0, none⟩) 1 1, .slice none 0 0, .slice (some ⟨w.heap.size + 1 + 1, 0, none⟩) 1 1] 33)).alloc (.cells #[.float .f64 r] 43)).alloc (.cells #[.float .f64 k] 43)).cell? ⟨w.heap.size + 1 + 1, 0, none⟩ = some (.float .f64 k) := cell_oneF _ _ _ (by simp)
  refine bodyPost_ret (v := .agg #[.int .i64 n, .int .i64 1, .int .i64 n, .int .i64 snap, .slice (some ⟨w.heap.size + 1, 0, none⟩) 1 1, .slice none 0 0, .slice (some ⟨w.heap.size + 1 + 1, 0, none⟩) 1 1]) (by simp [results, Tryz.results19, go_sem]) rfl ⟨w.heap.size + 1, w.heap.size + 1 + 1, rfl, by omega, by omega, q1, q2, ((((Old.refl w).alloc _).alloc _).alloc _)⟩
end Go.Proofs.YtbkbnfgjkefcmaaGreat
namespace Go.Proofs.YtbkbnfgjkefcmaaGreat
open Go.RowKit Go.Lib
set_option linter.unusedVariables false
set_option linter.unusedSimpArgs false
set_option maxRecDepth 20000
theorem Made.app {w0 w w' : World} {vo v8 : Value} {L : List Dn} {X g1 g3 : Nat} (hO : ∀ g, vo.ownBlock = some g → g < w0.heap.size) (h : Made w0 vo.ownBlock L X) (u : Old w0 w) (h1 : w0.heap.size ≤ g1) (h3 : w0.heap.size ≤ g3) (c1 : w.cell? ⟨g1, 0, none⟩ = some (.float .f64 X)) (c3 : w.cell? ⟨g3, 0, none⟩ = some (.float .f64 X)) (g8 : w.grownBy w' vo.ownBlock) (lo : v8.ownBlock = vo.ownBlock ∨ v8.ownBlock = some w.heap.size) : Made w' v8.ownBlock (L ++ [dnS ((L.length : Int) + 1) (L.length : Int) X X g1 g3]) X := by
  have far : ∀ r, w.cell? ⟨r, 0, none⟩ = some (.float .f64 X) → vo.ownBlock ≠ some r → w'.cell? ⟨r, 0, none⟩ = some (.float .f64 X) ∧ v8.ownBlock ≠ some r := fun r hc hn => by
    have hl : r < w.heap.size := World.block_lt_of_cell? w _ hc
    refine ⟨by rw [g8.cell_far ⟨r, 0, none⟩ hl (fun e => hn e.symm)]; exact hc, fun e => ?_⟩
    rcases lo with q | q
    · exact hn (by rw [← q]; exact e)
    · rw [q] at e; cases e; exact absurd hl (Nat.lt_irrefl _)
  intro i hi
  by_cases q : i < L.length
  · obtain ⟨ra, rb, e, a1, a2, a3, a4⟩ := h i q
    obtain ⟨b1, b2⟩ := far ra (u.keep a1) a3
    obtain ⟨b3, b4⟩ := far rb (u.keep a2) a4
    exact ⟨ra, rb, by rw [List.getElem_append_left q]; exact e, b1, b3, b2, b4⟩
  · have ei : i = L.length := by simp at hi; omega
    subst ei
    obtain ⟨b1, b2⟩ := far g1 c1 (fun e => by have := hO g1 e; omega)
    obtain ⟨b3, b4⟩ := far g3 c3 (fun e => by have := hO g3 e; omega)
    exact ⟨g1, g3, by simp, b1, b3, b2, b4⟩
theorem Blk.put2 {w : World} {g m : Nat} (h : Blk w g m) (g' i : Nat) (x : Value) : Blk (w.setCell ⟨g', i, none⟩ x) g m := by
  by_cases e : g = g'
  · subst e; exact h.set i x
  · obtain ⟨A, t, h, hm⟩ := h
    exact ⟨A, t, (Below.heap_setCell w ⟨g', i, none⟩ x g e).trans h, hm⟩
/-- The row of the law, its first so many turned. -/
def RowT (w : World) (base n c k K : Nat) (p : Option Addr) : Prop := n = 0 ∨ ∃ g e, p = some ⟨g, 0, none⟩ ∧ base ≤ g ∧ Blk w g (n * 7) ∧ Turned w g n k K e
theorem RowT.start {base : Nat} {w : World} {L : List Dn} {v : Value} {n X K : Nat} (hO : OwnD base w v L) (hl : L.length = n) (hM : Made w v.ownBlock L X) (hX : Fl.W X) : ∃ p c, v = .slice p n c ∧ n ≤ c ∧ c ≤ 9223372036854775807 ∧ RowT w base n c 0 K p := by
  subst hl
  obtain ⟨p, c, e, h1, h2, h⟩ := hO.shape
  refine ⟨p, c, e, h1, h2, ?_⟩
  rcases h with h | ⟨g, e1, e2, e3, e4, e5⟩
  · exact Or.inl h
  · rw [e2] at hM
    exact Or.inr ⟨g, _, e1, e3, e4, Turned.start (base := 0) (K := K) e5 hM hX⟩
theorem RowT.fin {w : World} {base n c K : Nat} {p : Option Addr} (h : RowT w base n c n K p) (hn : n ≤ 64) (hnc : n ≤ c) (hcm : c ≤ 9223372036854775807) : ∃ e, DRow w (.slice p n c) n e ∧ (∀ i, i < n → (e i).s.s3 = (i : Int)) ∧ ∀ i, i < n → (e i).s.n3 = 1 ∧ (e i).s.x3 0 = K := by
  rcases h with rfl | ⟨g, e, rfl, _, _, ht⟩
  · exact ⟨fun _ => dnS 0 0 0 0 0 0, ⟨by omega, p, c, rfl, hnc, hcm, fun i hi => by omega⟩, fun i hi => by omega, fun i hi => by omega⟩
  · exact ⟨e, ht.row hn hnc hcm⟩
attribute [local go_sem] run_bits run_frombits run_store_float eqF
set_option maxHeartbeats 8000000 in
set_option maxRecDepth 20000 in
theorem chainsA (n r key : Nat) (a : Int) (hn : n ≤ 63) (hk : (FloatKind.f64.format.order key key == some .eq) = true) (hX : Fl.W key) (hr : floatBits .add .f64 key 0 = some r) (hrW : Fl.W r) (ha : bits .and .i64 a 63 = (n : Int)) (w : World) :
    Calls Tryz.prog 6 #[.int .i64 a, .float .f64 key] w fun e w' => e = .returned (.bool true) ∧ Old w w' := by
  have HDn := hid (fun (i s : Int) (W : World) => done_new i s key key W)
  have hadd : ∀ W : World, (binOp .add 43 (.float .f64 key) (.float .f64 0)).run Tryz.prog W = .ok (.float .f64 r) W := fun W => run_float_arith W .add _ .f64 key 0 r hr
  have l0 : (n : Int) ≤ 63 := by omega
  have HN := hid hn
  have HXW := hid hX
  have HrW := hid hrW
  have hk2 : (FloatKind.f64.format.order key key != some .eq) = false := by rw [bne, hk]; rfl
  clear hn hr hrW hX
  go_enter Tryz.func6, Tryz.ntmps6
  go_upto_region 7 with (first | (go_at_call 7; refine (alive_any _).mono ?_; rintro e w0 ⟨rfl, u1⟩; have U1 := hid u1; clear u1))
  generalize hw1 : w0.alloc (.cells #[] 33) = w1 at *
  have O1 := hid (show OwnD w.heap.size w1 (.slice (some ⟨w0.heap.size, 0, none⟩) 0 0) [] from by rw [← hw1]; exact OwnD.empty U1.out.size rfl)
  have V1 := hid (show Old w w1 from by rw [← hw1]; exact U1.out.alloc _)
  clear hw1 U1
  generalize w0.heap.size = g0 at *
  go_wp2
  go_loopw [5, 6] (fun h i wr => ∃ (q : Nat) (L : List Dn) (vo : Value), vo = h ∧ q ≤ n ∧ L.length = q ∧ i = .int .i64 ((q : Int) + 1) ∧ OwnD w.heap.size wr vo L ∧ Made wr vo.ownBlock L key ∧ Old w wr) (fun _ i _ => n + 1 - (intOf i).toNat)
  case atStart => exact ⟨0, [], _, rfl, Nat.zero_le _, rfl, rfl, O1.out, fun i hi => by simp at hi, V1.out⟩
  case round =>
    obtain ⟨q, L, vo, rfl, hq, hql, rfl, hO, hM, hu⟩ := hrel
    have HO := hid hO
    have HM := hid hM
    have HU := hid hu
    have HQ := hid hql
    clear hO hM hu hql O1 V1
    by_cases hlt : q < n
    · have l1 : (q : Int) + 1 ≤ (n : Int) := by omega
      have l2 : (q : Int) < (n : Int) := by omega
      have l3 : IntKind.i64.wrap (q : Int) = (q : Int) := IntWalk.i64_in _ (by omega)
      have l4 : (q : Int) ≤ 63 := by omega
      have HLt := hid (show ∀ g, vo.ownBlock = some g → g < wr.heap.size from fun g e => (World.ownsRow.lt HO.out g e).2)
      go_wp2_with (first | (go_at_call 19; refine (HDn.out ((q : Int) + 1) (q : Int) _).mono ?_; rintro e w2 ⟨g1, g3, rfl, s1, s3, k1, k3, u2⟩; have S1 := hid s1; have S3 := hid s3; have K1 := hid k1; have K3 := hid k3; have U2 := hid u2; clear s1 s3 k1 k3 u2) | (at_builtin; refine wp_appD rfl (.tmp 24) (.tmp 31) rfl w.heap.size vo L (dnS ((q : Int) + 1) (q : Int) key key g1 g3) _ 1 rfl rfl (HO.out.old (U2.out.alloc _)) (cellD _ _ _ (by simp)) (by have := HQ.out; have := HN.out; omega) (by have := HU.out.size; have := U2.out.size; simp; omega) ?_; intro v8 w8 o8 g8 lo8; have O8 := hid o8; have M8 := hid (Made.app HLt.out HM.out (U2.out.alloc _) S1.out S3.out (((Old.refl _).alloc _).keep K1.out) (((Old.refl _).alloc _).keep K3.out) g8 lo8); have V8 := hid (show Old w w8 from Below.grown ((HU.out.trans U2.out).alloc _) g8 (by have := (HU.out.trans U2.out).size; simp; omega) (fun q e => (World.ownsRow.lt HO.out q e).1)); clear o8 g8 lo8))
      go_roundw
      case rel => exact ⟨q + 1, _, _, rfl, hlt, by rw [List.length_append, HQ.out]; rfl, by go_num, O8.out, by have := M8.out; rw [HQ.out] at this; exact this, V8.out⟩
      case measure => simp [intOf]; omega
    · have l1 : ¬ (q : Int) + 1 ≤ (n : Int) := by omega
      have l2 : ¬ (q : Int) < (n : Int) := by omega
      obtain rfl : n = q := by omega
      obtain ⟨p, c, ev, hnc, hcm, hT⟩ := RowT.start (K := r) HO.out HQ.out HM.out HXW.out
      subst ev
      have HT := hid hT
      clear hT HO HM HQ HDn hlt
      go_wp2
      go_loopw [35] (fun i wr => ∃ k : Nat, k ≤ n ∧ i = .int .i64 (k : Nat) ∧ RowT wr w.heap.size n c k r p ∧ Old w wr) (fun i _ => n - (intOf i).toNat)
      case atStart => exact ⟨0, Nat.zero_le _, rfl, HT.out, HU.out⟩
      case round =>
        obtain ⟨k, hk, rfl, hT, hu⟩ := hrel
        clear HT HU
        have HT := hid hT
        have HU := hid hu
        clear hT hu
        by_cases hlt : k < n
        · obtain ⟨g, e, rfl, hb, hB, hTu⟩ := HT.out.resolve_left (by omega)
          have m1 : (0 : Int) ≤ (k : Int) := by omega
          have m2 : (k : Int) < (n : Int) := by omega
          have HB := hid hB
          have HTu := hid hTu
          have HG := hid hb
          have HGl := hid hB.lt
          clear hb hB hTu HT
          obtain ⟨⟨y, z0⟩, z1⟩ := (HB.out.old ((Old.refl wr).alloc (.cells #[.float .f64 r] 43))).cell (k * 7 + 4) (by omega)
          go_upto_region 15 with fail
          have hA := (HTu.out.old ((Old.refl wr).alloc (.cells #[.float .f64 r] 43))).setA hlt wr.heap.size (cell_oneF _ _ _ rfl) (by have := HGl.out; omega) HrW.out
          have hB2 := (HB.out.old ((Old.refl wr).alloc (.cells #[.float .f64 r] 43))).put2 g (k * 7 + 4) (.slice (some ⟨wr.heap.size, 0, none⟩) 1 1)
          have hU2 := (HU.out.alloc (.cells #[.float .f64 r] 43)).setCell (p := ⟨g, k * 7 + 4, none⟩) HG.out (.slice (some ⟨wr.heap.size, 0, none⟩) 1 1)
          clear z0 z1 HTu HB HU
          generalize (wr.alloc (.cells #[.float .f64 r] 43)).setCell ⟨g, k * 7 + 4, none⟩ (.slice (some ⟨wr.heap.size, 0, none⟩) 1 1) = w3 at *
          obtain ⟨e', hTu, rb, xb, he⟩ := hA
          have HTu := hid hTu
          have HE := hid he
          have HB := hid hB2
          have HU := hid hU2
          have HGl := hid hB2.lt
          clear hTu he hB2 hU2
          obtain ⟨⟨y2, z0⟩, z1⟩ := (HB.out.old ((Old.refl w3).alloc (.cells #[.float .f64 r] 43))).cell (k * 7 + 6) (by omega)
          go_upto_region 16 with fail
          have hA := (HTu.out.old ((Old.refl w3).alloc (.cells #[.float .f64 r] 43))).setB hlt w3.heap.size (cell_oneF _ _ _ rfl) (by have := HGl.out; omega) HrW.out ⟨_, _, _, HE.out⟩
          have hB2 := (HB.out.old ((Old.refl w3).alloc (.cells #[.float .f64 r] 43))).put2 g (k * 7 + 6) (.slice (some ⟨w3.heap.size, 0, none⟩) 1 1)
          have hU2 := (HU.out.alloc (.cells #[.float .f64 r] 43)).setCell (p := ⟨g, k * 7 + 6, none⟩) HG.out (.slice (some ⟨w3.heap.size, 0, none⟩) 1 1)
          clear z0 z1 HTu HB HU HE
          generalize (w3.alloc (.cells #[.float .f64 r] 43)).setCell ⟨g, k * 7 + 6, none⟩ (.slice (some ⟨w3.heap.size, 0, none⟩) 1 1) = w4 at *
          obtain ⟨e'', hTu⟩ := hA
          have HT4 := hid (show RowT w4 w.heap.size n c (k + 1) r (some ⟨g, 0, none⟩) from Or.inr ⟨g, e'', rfl, HG.out, hB2, hTu⟩)
          have HU := hid hU2
          clear hTu hB2 hU2
          go_wp2
          go_roundw
          case rel => exact ⟨k + 1, hlt, by go_num, HT4.out, HU.out⟩
          case measure => simp [intOf]; omega
        · obtain rfl : n = k := by omega
          obtain ⟨e, hD, h3, h4⟩ := HT.out.fin (by have := HN.out; omega) hnc hcm
          clear HT
          have HO := hid (order_any _ n e wr hD)
          have HP := hid (fun (W : World) (u : Old wr W) => rightH_any _ n e W (hD.old u))
          have HRd := hid (fun (W : World) (vo : Value) (u : Old wr W) (ho : NRow W vo (orL e n)) => readsH_any _ vo n e (orL e n) W (hD.old u) ho)
          have HEd := hid (fun (W : World) (u : Old wr W) => edges_any _ n e W (hD.old u))
          cases hrt : rtB e n
          · have hn0 : 0 < n := by
              rcases Nat.eq_zero_or_pos n with z | z
              · subst z; have q : rtB e 0 = true := rfl; rw [q] at hrt; cases hrt
              · exact z
            have e1 : orB e n = false := by unfold orB; rw [hrt]; rfl
            have e2 : orL e n = [] := by unfold orL; rw [e1]; rfl
            rw [e1, e2] at HO
            rw [hrt] at HP
            have n1 : (0 : Int) < (n : Int) := by omega
            clear e1 e2 hrt HRd HEd h3 h4 hD
            go_wp2_with (first | (go_at_call 13; refine HO.out.mono ?_; rintro e w5 ⟨vo, rfl, o5, u5⟩; have V5 := hid u5; clear o5 u5) | (go_at_call 11; refine (HP.out _ V5.out).mono ?_; rintro e w6 ⟨rfl, u6⟩; have V6 := hid (V5.out.trans u6); clear u6))
            go_ret
            exact ⟨rfl, HU.out.trans V6.out⟩
          · have hC := chain_of hrt h3 h4
            have e1 := hC.or hrt
            obtain ⟨e2, e3⟩ := hC.num hrt
            have e4 := or_reads e1
            have e5 := hC.many
            rw [e1] at HO
            rw [e4] at HRd
            rw [hrt] at HEd
            simp only [if_true] at HEd
            have hel : (edU e n n).length ≤ 4096 := Nat.le_trans (edU_len e n n) (by have := HN.out; calc n * n ≤ 64 * 64 := Nat.mul_le_mul (by omega) (by omega))
            have HNu := hid e3
            have HLn := hid e2
            clear e1 e3 e4 hrt hC h3 h4 hD HP e2
            generalize orL e n = L at *
            generalize edU e n n = E at *
            go_upto_region 20 with (first | (go_at_call 13; refine HO.out.mono ?_; rintro e w5 ⟨vo, rfl, o5, u5⟩; have N5 := hid (OwnN.nrow o5 (by have := HLn.out; have := HN.out; omega)); obtain ⟨po, co, eo⟩ := OwnN.len o5; rw [HLn.out] at eo; subst eo; have V5 := hid u5; clear o5 u5))
            obtain ⟨_, p5, c5, e6, hcL⟩ := N5.out
            rw [HLn.out] at e6 hcL
            cases e6
            have HcL := hid hcL
            clear hcL HO
            go_wp2
            go_loopw [77] (fun i wz => ∃ j : Nat, j ≤ n ∧ i = .int .i64 (j : Nat) ∧ Old w5 wz) (fun i _ => n - (intOf i).toNat)
            case atStart => exact ⟨0, Nat.zero_le _, rfl, Old.refl _⟩
            case round =>
              obtain ⟨j, hj, rfl, hu⟩ := hrel
              have V := hid hu
              by_cases hjt : j < n
              · obtain ⟨gl, ol, ea, c0⟩ := HcL.out j hjt
                subst ea
                rw [HNu.out j hjt] at c0
                have x0 := hu.keep c0
                have a1 : (0 : Int) ≤ (j : Int) := by omega
                have a2 : (j : Int) < (n : Int) := by omega
                clear c0 hu HcL
                go_wp2
                go_roundw
                case rel => exact ⟨j + 1, hjt, by go_num, V.out⟩
                case measure => simp [intOf]; omega
              · obtain rfl : n = j := by omega
                have a1 : IntKind.i64.wrap ((n : Int) - 1) = (n : Int) - 1 := IntWalk.i64_in _ (by omega)
                have a2 : IntKind.i64.wrap ((n : Int) * ((n : Int) - 1)) = 2 * (E.length : Int) := by rw [e5]; exact IntWalk.i64_in _ (by omega)
                have a3 : (2 * (E.length : Int)).tdiv 2 = (E.length : Int) := Int.mul_tdiv_cancel_left _ (by omega)
                have a4 : IntKind.i64.wrap (E.length : Int) = (E.length : Int) := IntWalk.i64_in _ (by omega)
                have HE5 := hid e5
                clear e5 HcL hu
                generalize hEL : E.length = EL at *
                have HEL := hid hEL
                clear hEL
                go_wp2_with (first | (go_at_call 17; refine (HRd.out _ _ (V5.out.trans V.out) (N5.out.old V.out)).mono ?_; rintro e w6 ⟨rfl, u6⟩; have V6 := hid ((V5.out.trans V.out).trans u6); clear u6) | (go_at_call 10; refine (HEd.out _ V6.out).mono ?_; rintro e w7 ⟨ve, rfl, o7, u7⟩; obtain ⟨pe, ce, ee, _⟩ := OwnE.shape o7; rw [HEL.out] at ee; subst ee; have V7 := hid (V6.out.trans u7); clear o7 u7))
                go_ret
                exact ⟨rfl, HU.out.trans V7.out⟩
set_option maxHeartbeats 8000000 in
set_option maxRecDepth 20000 in
theorem chainsB (n r key : Nat) (a : Int) (hn : n ≤ 63) (hk : (FloatKind.f64.format.order key key == some .eq) = false) (hr : floatBits .add .f64 4607182418800017408 0 = some r) (hrW : Fl.W r) (ha : bits .and .i64 a 63 = (n : Int)) (w : World) :
    Calls Tryz.prog 6 #[.int .i64 a, .float .f64 key] w fun e w' => e = .returned (.bool true) ∧ Old w w' := by
  have HDn := hid (fun (i s : Int) (W : World) => done_new i s 4607182418800017408 4607182418800017408 W)
  have hadd : ∀ W : World, (binOp .add 43 (.float .f64 4607182418800017408) (.float .f64 0)).run Tryz.prog W = .ok (.float .f64 r) W := fun W => run_float_arith W .add _ .f64 4607182418800017408 0 r hr
  have l0 : (n : Int) ≤ 63 := by omega
  have HN := hid hn
  have HXW := hid (show Fl.W 4607182418800017408 from wlit' (by decide))
  have HrW := hid hrW
  have hk2 : (FloatKind.f64.format.order key key != some .eq) = true := by rw [bne, hk]; rfl
  clear hn hr hrW
  go_enter Tryz.func6, Tryz.ntmps6
  go_upto_region 7 with (first | (go_at_call 7; refine (alive_any _).mono ?_; rintro e w0 ⟨rfl, u1⟩; have U1 := hid u1; clear u1))
  generalize hw1 : w0.alloc (.cells #[] 33) = w1 at *
  have O1 := hid (show OwnD w.heap.size w1 (.slice (some ⟨w0.heap.size, 0, none⟩) 0 0) [] from by rw [← hw1]; exact OwnD.empty U1.out.size rfl)
  have V1 := hid (show Old w w1 from by rw [← hw1]; exact U1.out.alloc _)
  clear hw1 U1
  generalize w0.heap.size = g0 at *
  go_wp2
  go_loopw [5, 6] (fun h i wr => ∃ (q : Nat) (L : List Dn) (vo : Value), vo = h ∧ q ≤ n ∧ L.length = q ∧ i = .int .i64 ((q : Int) + 1) ∧ OwnD w.heap.size wr vo L ∧ Made wr vo.ownBlock L 4607182418800017408 ∧ Old w wr) (fun _ i _ => n + 1 - (intOf i).toNat)
  case atStart => exact ⟨0, [], _, rfl, Nat.zero_le _, rfl, rfl, O1.out, fun i hi => by simp at hi, V1.out⟩
  case round =>
    obtain ⟨q, L, vo, rfl, hq, hql, rfl, hO, hM, hu⟩ := hrel
    have HO := hid hO
    have HM := hid hM
    have HU := hid hu
    have HQ := hid hql
    clear hO hM hu hql O1 V1
    by_cases hlt : q < n
    · have l1 : (q : Int) + 1 ≤ (n : Int) := by omega
      have l2 : (q : Int) < (n : Int) := by omega
      have l3 : IntKind.i64.wrap (q : Int) = (q : Int) := IntWalk.i64_in _ (by omega)
      have l4 : (q : Int) ≤ 63 := by omega
      have HLt := hid (show ∀ g, vo.ownBlock = some g → g < wr.heap.size from fun g e => (World.ownsRow.lt HO.out g e).2)
      go_wp2_with (first | (go_at_call 19; refine (HDn.out ((q : Int) + 1) (q : Int) _).mono ?_; rintro e w2 ⟨g1, g3, rfl, s1, s3, k1, k3, u2⟩; have S1 := hid s1; have S3 := hid s3; have K1 := hid k1; have K3 := hid k3; have U2 := hid u2; clear s1 s3 k1 k3 u2) | (at_builtin; refine wp_appD rfl (.tmp 24) (.tmp 31) rfl w.heap.size vo L (dnS ((q : Int) + 1) (q : Int) 4607182418800017408 4607182418800017408 g1 g3) _ 1 rfl rfl (HO.out.old (U2.out.alloc _)) (cellD _ _ _ (by simp)) (by have := HQ.out; have := HN.out; omega) (by have := HU.out.size; have := U2.out.size; simp; omega) ?_; intro v8 w8 o8 g8 lo8; have O8 := hid o8; have M8 := hid (Made.app HLt.out HM.out (U2.out.alloc _) S1.out S3.out (((Old.refl _).alloc _).keep K1.out) (((Old.refl _).alloc _).keep K3.out) g8 lo8); have V8 := hid (show Old w w8 from Below.grown ((HU.out.trans U2.out).alloc _) g8 (by have := (HU.out.trans U2.out).size; simp; omega) (fun q e => (World.ownsRow.lt HO.out q e).1)); clear o8 g8 lo8))
      go_roundw
      case rel => exact ⟨q + 1, _, _, rfl, hlt, by rw [List.length_append, HQ.out]; rfl, by go_num, O8.out, by have := M8.out; rw [HQ.out] at this; exact this, V8.out⟩
      case measure => simp [intOf]; omega
    · have l1 : ¬ (q : Int) + 1 ≤ (n : Int) := by omega
      have l2 : ¬ (q : Int) < (n : Int) := by omega
      obtain rfl : n = q := by omega
      obtain ⟨p, c, ev, hnc, hcm, hT⟩ := RowT.start (K := r) HO.out HQ.out HM.out HXW.out
      subst ev
      have HT := hid hT
      clear hT HO HM HQ HDn hlt
      go_wp2
      go_loopw [35] (fun i wr => ∃ k : Nat, k ≤ n ∧ i = .int .i64 (k : Nat) ∧ RowT wr w.heap.size n c k r p ∧ Old w wr) (fun i _ => n - (intOf i).toNat)
      case atStart => exact ⟨0, Nat.zero_le _, rfl, HT.out, HU.out⟩
      case round =>
        obtain ⟨k, hk, rfl, hT, hu⟩ := hrel
        clear HT HU
        have HT := hid hT
        have HU := hid hu
        clear hT hu
        by_cases hlt : k < n
        · obtain ⟨g, e, rfl, hb, hB, hTu⟩ := HT.out.resolve_left (by omega)
          have m1 : (0 : Int) ≤ (k : Int) := by omega
          have m2 : (k : Int) < (n : Int) := by omega
          have HB := hid hB
          have HTu := hid hTu
          have HG := hid hb
          have HGl := hid hB.lt
          clear hb hB hTu HT
          obtain ⟨⟨y, z0⟩, z1⟩ := (HB.out.old ((Old.refl wr).alloc (.cells #[.float .f64 r] 43))).cell (k * 7 + 4) (by omega)
          go_upto_region 15 with fail
          have hA := (HTu.out.old ((Old.refl wr).alloc (.cells #[.float .f64 r] 43))).setA hlt wr.heap.size (cell_oneF _ _ _ rfl) (by have := HGl.out; omega) HrW.out
          have hB2 := (HB.out.old ((Old.refl wr).alloc (.cells #[.float .f64 r] 43))).put2 g (k * 7 + 4) (.slice (some ⟨wr.heap.size, 0, none⟩) 1 1)
          have hU2 := (HU.out.alloc (.cells #[.float .f64 r] 43)).setCell (p := ⟨g, k * 7 + 4, none⟩) HG.out (.slice (some ⟨wr.heap.size, 0, none⟩) 1 1)
          clear z0 z1 HTu HB HU
          generalize (wr.alloc (.cells #[.float .f64 r] 43)).setCell ⟨g, k * 7 + 4, none⟩ (.slice (some ⟨wr.heap.size, 0, none⟩) 1 1) = w3 at *
          obtain ⟨e', hTu, rb, xb, he⟩ := hA
          have HTu := hid hTu
          have HE := hid he
          have HB := hid hB2
          have HU := hid hU2
          have HGl := hid hB2.lt
          clear hTu he hB2 hU2
          obtain ⟨⟨y2, z0⟩, z1⟩ := (HB.out.old ((Old.refl w3).alloc (.cells #[.float .f64 r] 43))).cell (k * 7 + 6) (by omega)
          go_upto_region 16 with fail
          have hA := (HTu.out.old ((Old.refl w3).alloc (.cells #[.float .f64 r] 43))).setB hlt w3.heap.size (cell_oneF _ _ _ rfl) (by have := HGl.out; omega) HrW.out ⟨_, _, _, HE.out⟩
          have hB2 := (HB.out.old ((Old.refl w3).alloc (.cells #[.float .f64 r] 43))).put2 g (k * 7 + 6) (.slice (some ⟨w3.heap.size, 0, none⟩) 1 1)
          have hU2 := (HU.out.alloc (.cells #[.float .f64 r] 43)).setCell (p := ⟨g, k * 7 + 6, none⟩) HG.out (.slice (some ⟨w3.heap.size, 0, none⟩) 1 1)
          clear z0 z1 HTu HB HU HE
          generalize (w3.alloc (.cells #[.float .f64 r] 43)).setCell ⟨g, k * 7 + 6, none⟩ (.slice (some ⟨w3.heap.size, 0, none⟩) 1 1) = w4 at *
          obtain ⟨e'', hTu⟩ := hA
          have HT4 := hid (show RowT w4 w.heap.size n c (k + 1) r (some ⟨g, 0, none⟩) from Or.inr ⟨g, e'', rfl, HG.out, hB2, hTu⟩)
          have HU := hid hU2
          clear hTu hB2 hU2
          go_wp2
          go_roundw
          case rel => exact ⟨k + 1, hlt, by go_num, HT4.out, HU.out⟩
          case measure => simp [intOf]; omega
        · obtain rfl : n = k := by omega
          obtain ⟨e, hD, h3, h4⟩ := HT.out.fin (by have := HN.out; omega) hnc hcm
          clear HT
          have HO := hid (order_any _ n e wr hD)
          have HP := hid (fun (W : World) (u : Old wr W) => rightH_any _ n e W (hD.old u))
          have HRd := hid (fun (W : World) (vo : Value) (u : Old wr W) (ho : NRow W vo (orL e n)) => readsH_any _ vo n e (orL e n) W (hD.old u) ho)
          have HEd := hid (fun (W : World) (u : Old wr W) => edges_any _ n e W (hD.old u))
          cases hrt : rtB e n
          · have hn0 : 0 < n := by
              rcases Nat.eq_zero_or_pos n with z | z
              · subst z; have q : rtB e 0 = true := rfl; rw [q] at hrt; cases hrt
              · exact z
            have e1 : orB e n = false := by unfold orB; rw [hrt]; rfl
            have e2 : orL e n = [] := by unfold orL; rw [e1]; rfl
            rw [e1, e2] at HO
            rw [hrt] at HP
            have n1 : (0 : Int) < (n : Int) := by omega
            clear e1 e2 hrt HRd HEd h3 h4 hD
            go_wp2_with (first | (go_at_call 13; refine HO.out.mono ?_; rintro e w5 ⟨vo, rfl, o5, u5⟩; have V5 := hid u5; clear o5 u5) | (go_at_call 11; refine (HP.out _ V5.out).mono ?_; rintro e w6 ⟨rfl, u6⟩; have V6 := hid (V5.out.trans u6); clear u6))
            go_ret
            exact ⟨rfl, HU.out.trans V6.out⟩
          · have hC := chain_of hrt h3 h4
            have e1 := hC.or hrt
            obtain ⟨e2, e3⟩ := hC.num hrt
            have e4 := or_reads e1
            have e5 := hC.many
            rw [e1] at HO
            rw [e4] at HRd
            rw [hrt] at HEd
            simp only [if_true] at HEd
            have hel : (edU e n n).length ≤ 4096 := Nat.le_trans (edU_len e n n) (by have := HN.out; calc n * n ≤ 64 * 64 := Nat.mul_le_mul (by omega) (by omega))
            have HNu := hid e3
            have HLn := hid e2
            clear e1 e3 e4 hrt hC h3 h4 hD HP e2
            generalize orL e n = L at *
            generalize edU e n n = E at *
            go_upto_region 20 with (first | (go_at_call 13; refine HO.out.mono ?_; rintro e w5 ⟨vo, rfl, o5, u5⟩; have N5 := hid (OwnN.nrow o5 (by have := HLn.out; have := HN.out; omega)); obtain ⟨po, co, eo⟩ := OwnN.len o5; rw [HLn.out] at eo; subst eo; have V5 := hid u5; clear o5 u5))
            obtain ⟨_, p5, c5, e6, hcL⟩ := N5.out
            rw [HLn.out] at e6 hcL
            cases e6
            have HcL := hid hcL
            clear hcL HO
            go_wp2
            go_loopw [77] (fun i wz => ∃ j : Nat, j ≤ n ∧ i = .int .i64 (j : Nat) ∧ Old w5 wz) (fun i _ => n - (intOf i).toNat)
            case atStart => exact ⟨0, Nat.zero_le _, rfl, Old.refl _⟩
            case round =>
              obtain ⟨j, hj, rfl, hu⟩ := hrel
              have V := hid hu
              by_cases hjt : j < n
              · obtain ⟨gl, ol, ea, c0⟩ := HcL.out j hjt
                subst ea
                rw [HNu.out j hjt] at c0
                have x0 := hu.keep c0
                have a1 : (0 : Int) ≤ (j : Int) := by omega
                have a2 : (j : Int) < (n : Int) := by omega
                clear c0 hu HcL
                go_wp2
                go_roundw
                case rel => exact ⟨j + 1, hjt, by go_num, V.out⟩
                case measure => simp [intOf]; omega
              · obtain rfl : n = j := by omega
                have a1 : IntKind.i64.wrap ((n : Int) - 1) = (n : Int) - 1 := IntWalk.i64_in _ (by omega)
                have a2 : IntKind.i64.wrap ((n : Int) * ((n : Int) - 1)) = 2 * (E.length : Int) := by rw [e5]; exact IntWalk.i64_in _ (by omega)
                have a3 : (2 * (E.length : Int)).tdiv 2 = (E.length : Int) := Int.mul_tdiv_cancel_left _ (by omega)
                have a4 : IntKind.i64.wrap (E.length : Int) = (E.length : Int) := IntWalk.i64_in _ (by omega)
                have HE5 := hid e5
                clear e5 HcL hu
                generalize hEL : E.length = EL at *
                have HEL := hid hEL
                clear hEL
                go_wp2_with (first | (go_at_call 17; refine (HRd.out _ _ (V5.out.trans V.out) (N5.out.old V.out)).mono ?_; rintro e w6 ⟨rfl, u6⟩; have V6 := hid ((V5.out.trans V.out).trans u6); clear u6) | (go_at_call 10; refine (HEd.out _ V6.out).mono ?_; rintro e w7 ⟨ve, rfl, o7, u7⟩; obtain ⟨pe, ce, ee, _⟩ := OwnE.shape o7; rw [HEL.out] at ee; subst ee; have V7 := hid (V6.out.trans u7); clear o7 u7))
                go_ret
                exact ⟨rfl, HU.out.trans V7.out⟩
theorem chainsLaw (a : Int) (key : Nat) (hk : Fl.W key) (w : World) : Calls Tryz.prog 6 #[.int .i64 a, .float .f64 key] w fun e w' => e = .returned (.bool true) ∧ Old w w' := by
  obtain ⟨n, hn, ha⟩ := and_mask' a 63 (by decide)
  by_cases q : Fl.nan key = true
  · obtain ⟨r, h1, h2⟩ := add0 4607182418800017408 (by decide +kernel)
    refine chainsB n r key a hn ?_ h1 h2 ha w
    rw [Fl.ord_nan_l key key q]
    rfl
  · have q' : Fl.nan key = false := by simpa using q
    obtain ⟨r, h1, h2⟩ := add0 key q'
    refine chainsA n r key a hn ?_ hk h1 h2 ha w
    rw [Fl.ord_eq key key hk hk q' q' rfl]
    rfl
end Go.Proofs.YtbkbnfgjkefcmaaGreat
