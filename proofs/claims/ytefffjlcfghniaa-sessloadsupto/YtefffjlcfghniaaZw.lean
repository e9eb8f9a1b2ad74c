/- Numbers that are put one behind the other, plain: the last eight are kept; no condition. -/
import Derived.Test.YtefffjlcfghniaaZv
namespace Go.Proofs.Ytefffjlcfghniaa
open Go.RowKit Go.Lib
set_option linter.unusedVariables false
set_option linter.unusedSimpArgs false
set_option maxRecDepth 20000
def itW (f : Int) (j : Nat) : It := ⟨f + (j : Int), 0, (j : Int)⟩
def allW (f : Int) (i : Nat) : List It := (List.range i).map (itW f)
def rowW (f : Int) (i : Nat) : List It := keepL (f + (i : Int) - 9) (allW f i)
def kW (id : Int) : Nat → List Int | 0 => [] | i + 1 => putK (kW id i) id
def LW (id f : Int) : Nat → Int → List It | 0 => fun _ => [] | i + 1 => putL (LW id f i) id (nextS (itW f i) (LW id f i id))
theorem allW_at (f : Int) (i j : Nat) (h : j < i) : atI (allW f i) j = itW f j := by
  rw [atI_get _ _ (by simp [allW, h])]
  simp [allW]
theorem allW_len (f : Int) (i : Nat) : (allW f i).length = i := by simp [allW]
theorem allW_mem {f : Int} {i : Nat} {x : It} : x ∈ allW f i ↔ ∃ j, j < i ∧ x = itW f j := by
  unfold allW
  rw [List.mem_map]
  constructor
  · rintro ⟨j, h, e⟩; exact ⟨j, by simpa using h, e.symm⟩
  · rintro ⟨j, h, e⟩; exact ⟨j, by simpa using h, e.symm⟩
theorem allW_rise (f : Int) (i : Nat) : Rise (allW f i) := by
  unfold Rise
  rw [List.pairwise_iff_getElem]
  intro a b ha hb hab
  simp [allW, itW]
  omega
theorem allW_succ (f : Int) (i : Nat) : allW f (i + 1) = allW f i ++ [itW f i] := by simp [allW, List.range_succ]
theorem rowW_mem {f : Int} {i : Nat} {x : It} : x ∈ rowW f i ↔ ∃ j, j < i ∧ i ≤ j + 8 ∧ x = itW f j := by
  unfold rowW
  rw [keep_mem, allW_mem]
  constructor
  · rintro ⟨⟨j, h, e⟩, h2⟩
    refine ⟨j, h, ?_, e⟩
    rw [e] at h2
    simp only [itW] at h2
    omega
  · rintro ⟨j, h, h2, e⟩
    refine ⟨⟨j, h, e⟩, ?_⟩
    rw [e]
    simp only [itW]
    omega
theorem rowW_rise (f : Int) (i : Nat) : Rise (rowW f i) := keep_rise (allW_rise f i)
theorem posS_all {q : Int} : ∀ {L : List It}, (∀ x ∈ L, x.n < q) → posS q L = L.length
  | [], _ => rfl
  | x :: t, h => by
    unfold posS
    rw [if_pos (h x (List.mem_cons_self ..)), posS_all fun y hy => h y (List.mem_cons_of_mem _ hy)]
    rfl
theorem keep_drop (m : Int) : ∀ (L : List It) (d : Nat), (∀ j, j < d → j < L.length → (atI L j).n ≤ m) → (∀ j, d ≤ j → j < L.length → m < (atI L j).n) → keepL m L = L.drop d
  | [], d, _, _ => by simp [keepL]
  | x :: t, 0, _, h2 => by
    have a : m < x.n := h2 0 (Nat.le_refl _) (by simp)
    have b := keep_drop m t 0 (fun j h => by omega) (fun j _ hj => by have := h2 (j + 1) (by omega) (by simp; omega); rwa [atS_succ] at this)
    unfold keepL at b ⊢
    rw [List.filter_cons, decide_eq_true a]
    simp only [if_true]
    rw [b]
    rfl
  | x :: t, d + 1, h1, h2 => by
    have a : ¬ m < x.n := by have := h1 0 (by omega) (by simp); rw [atS_zero] at this; omega
    have b := keep_drop m t d (fun j h hj => by have := h1 (j + 1) (by omega) (by simp; omega); rwa [atS_succ] at this) (fun j h hj => by have := h2 (j + 1) (by omega) (by simp; omega); rwa [atS_succ] at this)
    unfold keepL at b ⊢
    rw [List.filter_cons, decide_eq_false a]
    simp only [Bool.false_eq_true, if_false]
    rw [b]
    rfl
theorem rowW_len (f : Int) (i : Nat) : (rowW f i).length = min i 8 := by
  unfold rowW
  rw [keep_drop _ (allW f i) (i - 8) (fun j h hj => by rw [allW_len] at hj; rw [allW_at f i j hj]; simp only [itW]; omega) (fun j h hj => by rw [allW_len] at hj; rw [allW_at f i j hj]; simp only [itW]; omega), List.length_drop, allW_len]
  omega
theorem rowW_next (f : Int) (i : Nat) : nextS (itW f i) (rowW f i) = rowW f (i + 1) := by
  have hp : posS (itW f i).n (rowW f i) = (rowW f i).length := posS_all fun x hx => by
    obtain ⟨j, h, _, e⟩ := rowW_mem.1 hx
    rw [e]
    simp only [itW]
    omega
  have hins : insS (itW f i) (rowW f i) = rowW f i ++ [itW f i] := by
    unfold insS
    rw [hp, List.take_length, List.drop_length]
  have hh : hiL (insS (itW f i) (rowW f i)) = f + (i : Int) := by
    rw [hins]
    unfold hiL
    rw [if_neg (by simp), atI_get _ _ (by simp)]
    simp [itW]
  unfold nextS
  rw [hh, hins]
  unfold rowW
  rw [allW_succ]
  unfold keepL
  rw [List.filter_append, List.filter_append, List.filter_filter]
  congr 1
  · refine List.filter_congr fun x _ => ?_
    rw [Bool.eq_iff_iff]
    simp only [Bool.and_eq_true, decide_eq_true_eq]
    omega
  · have a : f + (i : Int) - 8 < (itW f i).n := by simp only [itW]; omega
    have b : f + ((i + 1 : Nat) : Int) - 9 < (itW f i).n := by simp only [itW]; omega
    rw [List.filter_cons, List.filter_cons, decide_eq_true a, decide_eq_true b]
    rfl
theorem LW_row (id f : Int) : ∀ i, LW id f i id = rowW f i
  | 0 => by simp [LW, rowW, allW, keepL]
  | i + 1 => by
    show putL _ id _ id = _
    unfold putL
    rw [if_pos rfl, LW_row id f i, rowW_next]
theorem kW_all (id : Int) : ∀ i, kW id (i + 1) = [id]
  | 0 => by simp [kW, putK]
  | i + 1 => by show putK (kW id (i + 1)) id = _; rw [kW_all id i]; simp [putK]
theorem rowW_hi (f : Int) (i : Nat) : hiL (rowW f (i + 1)) = f + (i : Int) := by
  have h : itW f i ∈ rowW f (i + 1) := rowW_mem.2 ⟨i, by omega, by omega, rfl⟩
  rw [hi_of (rowW_rise f _) h (fun y hy => by obtain ⟨j, hj, _, e⟩ := rowW_mem.1 hy; rw [e]; simp only [itW]; omega)]
  rfl
theorem rowW_hi0 (f : Int) : hiL (rowW f 0) = 0 := by simp [rowW, allW, keepL, hiL]
theorem found_false {q : Int} {L : List It} (h : ∀ y ∈ L, y.n ≠ q) : foundB q L = false := by
  unfold foundB
  by_cases c : posS q L < L.length
  · rw [decide_eq_true c, Bool.true_and, decide_eq_false_iff_not, atI_get L _ c]
    exact h _ (List.getElem_mem c)
  · rw [decide_eq_false c, Bool.false_and]
/-- Look behind so many: those ahead of the last eight have expired, these are told, others may be put. -/
theorem lookW {id f : Int} (hid : 1 ≤ id ∧ id ≤ 2000) (hf : 1 ≤ f ∧ f ≤ 2000) (i j : Nat) (hi : i ≤ 100) (hj : j ≤ 200) : lookC (kW id i) (LW id f i) id (f + (j : Int)) = (if j < i ∧ i ≤ j + 8 then 5 else if i ≤ j then 0 else 130) ∧ (j < i ∧ i ≤ j + 8 → (lookV (LW id f i) id (f + (j : Int))) = (0, (j : Int))) := by
  have hL := LW_row id f i
  by_cases c : j < i ∧ i ≤ j + 8
  · have hm : itW f j ∈ rowW f i := rowW_mem.2 ⟨j, c.1, c.2, rfl⟩
    obtain ⟨a, b⟩ := found_yes (rowW_rise f i) hm (show (itW f j).n = f + (j : Int) from rfl)
    refine ⟨?_, fun _ => ?_⟩
    · unfold lookC; rw [hL, if_pos a, if_pos c]
    · unfold lookV; rw [hL, if_pos a, b]; rfl
  · have hn : foundB (f + (j : Int)) (rowW f i) = false := found_false fun y hy e => by
      obtain ⟨k, h1, h2, e2⟩ := rowW_mem.1 hy
      rw [e2] at e
      simp only [itW] at e
      omega
    have o1 : outB id 1 1099511627776 = false := by unfold outB; simp; omega
    have o2 : outB (f + (j : Int)) 1 1099511627776 = false := by unfold outB; simp; omega
    refine ⟨?_, fun q => absurd q c⟩
    unfold lookC
    rw [hL, hn, o1, o2, if_neg c]
    simp only [Bool.false_eq_true, if_false, Bool.or_false]
    cases i with
    | zero =>
      rw [rowW_hi0]
      simp [kW]
      omega
    | succ i =>
      rw [kW_all, rowW_hi]
      simp
      by_cases d : i + 1 ≤ j
      · rw [if_neg (by omega), if_pos d]
      · rw [if_pos (by omega), if_neg d]
theorem putW {id f : Int} (hid : 1 ≤ id ∧ id ≤ 2000) (hf : 1 ≤ f ∧ f ≤ 2000) (i : Nat) (hi : i ≤ 100) : putC (kW id i) (LW id f i) id (itW f i) = 0 := by
  unfold putC
  have := (lookW hid hf i i hi (by omega)).1
  rw [show (itW f i).n = f + (i : Int) from rfl, this, if_neg (show ¬ (i < i ∧ i ≤ i + 8) by omega), if_pos (Nat.le_refl _), if_pos rfl]
  have a : (outB (itW f i).c 0 999 || outB (itW f i).m 0 1099511627776) = false := by
    have c1 : outB (itW f i).c 0 999 = false := rfl
    have c2 : outB (itW f i).m 0 1099511627776 = false := by
      show (decide ((i : Int) < 0) || decide ((1099511627776 : Int) < (i : Int))) = false
      rw [decide_eq_false (by omega), decide_eq_false (by omega)]
      rfl
    rw [c1, c2]
    rfl
  rw [a]
  rfl
theorem and_mask (a : Int) (m : Nat) (hm : m < 9223372036854775808) : ∃ M : Nat, M ≤ m ∧ bits .and .i64 a (m : Int) = (M : Int) := by
  refine ⟨(BitVec.ofInt 64 a &&& BitVec.ofInt 64 (m : Int)).toNat, ?_, ?_⟩
  · rw [BitVec.toNat_and, BitVec.ofInt_natCast, BitVec.toNat_ofNat, Nat.mod_eq_of_lt (by omega)]
    exact Nat.and_le_right
  · have h : (BitVec.ofInt 64 a &&& BitVec.ofInt 64 (m : Int)).toNat ≤ m := by
      rw [BitVec.toNat_and, BitVec.ofInt_natCast, BitVec.toNat_ofNat, Nat.mod_eq_of_lt (by omega)]
      exact Nat.and_le_right
    show IntKind.i64.wrap ((BitVec.ofInt 64 a &&& BitVec.ofInt 64 (m : Int)).toNat : Int) = _
    generalize (BitVec.ofInt 64 a &&& BitVec.ofInt 64 (m : Int)).toNat = r at *
    simp [IntKind.wrap, IntKind.bits, IntKind.signed]
    omega
end Go.Proofs.Ytefffjlcfghniaa
