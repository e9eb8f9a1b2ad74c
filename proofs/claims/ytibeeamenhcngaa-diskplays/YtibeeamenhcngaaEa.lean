/- Sectors of a disk, as lists, for the law DiskSectors; conditions as they stand. -/
import Derived.Test.YtibeeamenhcngaaDy
namespace Go.Proofs.Ytibeeamenhcngaa
open Go.RowKit Go.Lib
set_option linter.unusedVariables false
set_option linter.unusedSimpArgs false
set_option maxRecDepth 20000
theorem pw_writeF (L' L : List Nat) (f : Int) (h1 : f ≠ 1) (hL : L.length ≤ 65536) (hl : L' = [] ∨ L' = L) : writeC (pw L' f) sA 0 L = 0 ∧ writeP (pw L' f) sA 0 L = pw L (max 0 (f - 1)) := by
  have c : writeC (pw L' f) sA 0 L = 0 := by
    unfold writeC
    rw [onA L' f h1, if_pos rfl, if_neg (by simp [beyB]), if_neg (by omega)]
  refine ⟨c, ?_⟩
  unfold writeP
  rw [if_pos c, atA]
  have e1 : decide (f = 1) = false := decide_eq_false h1
  have e3 : (pw L' f).stepd = ⟨(pw L' f).fs, false, max 0 (f - 1)⟩ := by
    show PD.mk _ (false || decide (f = 1)) (max 0 (f - 1)) = _
    rw [e1]
    rfl
  rw [e3]
  show PD.mk (setP (pw L' f).fs sA ⟨overL L' 0 L, []⟩) false (max 0 (f - 1)) = _
  rw [over0 L' L hl]
  simp [pw, setP]
/-- Sectors that are each of one byte. -/
def sL (n : Nat) : List Nat := (List.range (32 * n)).map fun i => 1 + i / 32
theorem sL_len (n : Nat) : (sL n).length = 32 * n := by simp [sL]
theorem sec_sL (n i : Nat) (h : i < n) : sec (sL n) (32 * i) = List.replicate 32 (1 + i) := by
  apply List.ext_getElem
  · rw [sec_len, sL_len, List.length_replicate]; omega
  · intro j h1 h2
    rw [List.length_replicate] at h2
    simp only [sec, sL, List.getElem_take, List.getElem_drop, List.getElem_map, List.getElem_range, List.getElem_replicate]
    omega
theorem looK_sL (n : Nat) : ∀ i, i ≤ n → looK (sL n) [] i = (List.range i).map (32 * ·)
  | 0, _ => rfl
  | i + 1, h => by
    rw [looK, sec_sL n i (by omega), if_neg (by simp [sec]), looK_sL n i (by omega), List.range_succ, List.map_append]
    rfl
theorem nSec_sL (n : Nat) : nSec (sL n) = n := by unfold nSec; rw [sL_len]; omega
theorem looL_sL (n : Nat) : looL (sL n) [] = (List.range n).map (32 * ·) := by unfold looL; rw [nSec_sL]; exact looK_sL n n (Nat.le_refl _)
theorem looN_sL (n : Nat) (f : Int) : looN (pw (sL n) f).fs = n := by
  show (looL (sL n) []).length + 0 = n
  rw [looL_sL]
  simp
theorem looK_self (L : List Nat) : ∀ i, looK L L i = []
  | 0 => rfl
  | i + 1 => by rw [looK, if_pos rfl]; exact looK_self L i
theorem looN_self (L : List Nat) (f : Int) : looN [(sA, ⟨L, L⟩)] = 0 := by
  show (looL L L).length + 0 = 0
  unfold looL
  rw [looK_self]
  rfl
def lst (K : Nat → Bool) : Nat → Nat
  | 0 => 0
  | i + 1 => if K i = true then i + 1 else lst K i
theorem lst_le (K : Nat → Bool) : ∀ i, lst K i ≤ i
  | 0 => Nat.le_refl _
  | i + 1 => by
    have := lst_le K i
    unfold lst
    split <;> omega
theorem lst_off (K : Nat → Bool) : ∀ i k, lst K i ≤ k → k < i → K k = false
  | 0, k, _, h => by omega
  | i + 1, k, h1, h2 => by
    unfold lst at h1
    split at h1
    · omega
    · rename_i q
      by_cases e : k = i
      · subst e; simpa using q
      · exact lst_off K i k h1 (by omega)
theorem lst_more (K : Nat → Bool) (a : Nat) (h : ∀ k, a ≤ k → K k = false) : ∀ i, a ≤ i → lst K i = lst K a
  | 0, hi => by rw [show a = 0 by omega]
  | i + 1, hi => by
    by_cases e : a = i + 1
    · rw [e]
    · rw [lst, if_neg (by rw [h i (by omega)]; simp)]
      exact lst_more K a h i (by omega)
theorem lst_on (K : Nat → Bool) : ∀ i, 0 < lst K i → K (lst K i - 1) = true
  | 0, h => by simp [lst] at h
  | i + 1, h => by
    by_cases c : K i = true
    · rw [lst, if_pos c]; exact c
    · rw [lst, if_neg c] at h ⊢; exact lst_on K i h
def outR (K : Nat → Bool) (m : Nat) : List Nat := (List.range (32 * lst K m)).map fun j => if K (j / 32) = true then 1 + j / 32 else 0
theorem outR_len (K : Nat → Bool) (m : Nat) : (outR K m).length = 32 * lst K m := by simp [outR]
theorem outR_get (K : Nat → Bool) (m j : Nat) (h : j < 32 * lst K m) : (outR K m)[j]? = some (if K (j / 32) = true then 1 + j / 32 else 0) := by
  unfold outR
  rw [List.getElem?_map, List.getElem?_range h]
  rfl
theorem outR_step (K : Nat → Bool) (i : Nat) (h : K i = true) : overL (outR K i) (32 * i) (List.replicate 32 (1 + i)) = outR K (i + 1) := by
  have hl := lst_le K i
  have hn : lst K (i + 1) = i + 1 := by rw [lst, if_pos h]
  apply List.ext_getElem?
  intro j
  have e : overL (outR K i) (32 * i) (List.replicate 32 (1 + i)) = outR K i ++ List.replicate (32 * i - 32 * lst K i) 0 ++ List.replicate 32 (1 + i) := by
    unfold overL splice
    rw [outR_len, List.length_replicate]
    rw [List.take_append, outR_len, List.take_of_length_le (by rw [outR_len]; omega), List.take_replicate, show min (32 * i - 32 * lst K i) (32 * i + 32 - 32 * lst K i) = 32 * i - 32 * lst K i by omega, List.drop_of_length_le (by simp [outR_len]; omega), List.append_nil]
  rw [e]
  by_cases h1 : j < 32 * lst K i
  · rw [List.getElem?_append_left (by simp [outR_len]; omega), List.getElem?_append_left (by rw [outR_len]; exact h1), outR_get K i j h1, outR_get K (i + 1) j (by rw [hn]; omega)]
  · by_cases h2 : j < 32 * i
    · rw [List.getElem?_append_left (by simp [outR_len]; omega), List.getElem?_append_right (by rw [outR_len]; omega), outR_len, outR_get K (i + 1) j (by rw [hn]; omega), lst_off K i (j / 32) (by omega) (by omega)]
      rw [List.getElem?_replicate, if_pos (by omega)]
      rfl
    · rw [List.getElem?_append_right (by simp [outR_len]; omega), List.getElem?_replicate]
      simp only [List.length_append, outR_len, List.length_replicate]
      by_cases h3 : j < 32 * i + 32
      · rw [if_pos (by omega), outR_get K (i + 1) j (by rw [hn]; omega), show j / 32 = i by omega, if_pos h]
      · rw [if_neg (by omega), List.getElem?_eq_none (by rw [outR_len, hn]; omega)]
theorem craK_sL (n : Nat) (kp : List Bool) (K : Nat → Bool) (m : Nat) (hm : m ≤ n) (hK : ∀ i, i < m → kp.getD i false = K i) : ∀ i, i ≤ m → craK (sL n) ((List.range n).map (32 * ·)) kp i [] = outR K i
  | 0, _ => by simp [craK, outR, lst]
  | i + 1, hi => by
    have ih := craK_sL n kp K m hm hK i (by omega)
    have e : ((List.range n).map (32 * ·)).getD i 0 = 32 * i := by
      rw [List.getD_eq_getElem?_getD, List.getElem?_map, List.getElem?_range (by omega)]
      rfl
    rw [craK, hK i (by omega), ih, e, sec_sL n i (by omega)]
    by_cases h : K i = true
    · rw [if_pos h, outR_step K i h]
    · rw [if_neg h]
      unfold outR
      rw [lst, if_neg h]
theorem crash_sL (n : Nat) (kp : List Bool) (f : Int) : crashP (pw (sL n) f) [sA] kp = ⟨[(sA, ⟨outR (fun i => kp.getD i false) n, outR (fun i => kp.getD i false) n⟩)], false, 0⟩ := by
  have e : filP (pw (sL n) f).fs sA = ⟨sL n, []⟩ := by simp [filP, pw, getP]
  have hm : craK (sL n) ((List.range n).map (32 * ·)) (kp.take (min n kp.length)) (min n kp.length) [] = outR (fun i => kp.getD i false) n := by
    rw [craK_sL n _ (fun i => kp.getD i false) (min n kp.length) (by omega) (fun i hi => by
      rw [List.getD_eq_getElem?_getD, List.getD_eq_getElem?_getD, List.getElem?_take, if_pos hi]) _ (Nat.le_refl _)]
    unfold outR
    by_cases c : n ≤ kp.length
    · rw [show min n kp.length = n by omega]
    · rw [show min n kp.length = kp.length by omega, lst_more (fun i => kp.getD i false) kp.length (fun k hk => by simp [List.getD_eq_getElem?_getD, List.getElem?_eq_none hk]) n (by omega)]
  have q : (crash1 ⟨sL n, []⟩ kp).1 = ⟨outR (fun i => kp.getD i false) n, outR (fun i => kp.getD i false) n⟩ := by
    unfold crash1
    simp only [looL_sL, List.length_map, List.length_range, hm]
  unfold crashP
  show PD.mk (setP (pw (sL n) f).fs sA (crash1 (filP (pw (sL n) f).fs sA) kp).1) false 0 = _
  rw [e, q]
  simp [setP, pw]
def fillS (N i : Nat) : List Nat := (List.range i).map (fun i => 1 + i / 32) ++ List.replicate (N - i) 0
theorem fillS_len (N i : Nat) (h : i ≤ N) : (fillS N i).length = N := by unfold fillS; simp; omega
theorem fillS_step (N i : Nat) (h : i < N) : (fillS N i).set i (1 + i / 32) = fillS N (i + 1) := by
  unfold fillS
  rw [List.set_append_right _ _ (by simp), List.length_map, List.length_range, Nat.sub_self, show N - i = (N - (i + 1)) + 1 by omega, List.replicate_succ, List.set_cons_zero, List.range_succ, List.map_append, List.append_assoc]
  rfl
theorem fillS_done (n : Nat) : fillS (32 * n) (32 * n) = sL n := by unfold fillS sL; simp
theorem fillS_zero (N : Nat) : fillS N 0 = List.replicate N 0 := by unfold fillS; simp
end Go.Proofs.Ytibeeamenhcngaa
