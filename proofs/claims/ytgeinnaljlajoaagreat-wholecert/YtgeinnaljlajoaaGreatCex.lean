/- What has no dangerous three has an order, plainly; no condition. -/
import Derived.Test.YtgeinnaljlajoaaGreatCeo
import Derived.Test.YtgeinnaljlajoaaGreatJq
namespace Go.Proofs.YtgeinnaljlajoaaGreat
open Go.RowKit Go.Lib
set_option linter.unusedVariables false
set_option linter.unusedSimpArgs false
set_option maxRecDepth 20000
theorem nod_le : ∀ (n : Nat) (C : List Int), C.Nodup → (∀ x ∈ C, 1 ≤ x ∧ x ≤ n) → C.length ≤ n
 | 0, C, _, h => by
  cases C with
  | nil => exact Nat.le_refl _
  | cons a t => have := h a (List.mem_cons_self ..); omega
 | n + 1, C, hn, h => by
  by_cases hm : ((n : Int) + 1) ∈ C
  ·have a := nod_le n (C.erase ((n : Int) + 1)) (hn.erase _) (fun x hx => by
     have b := (hn.mem_erase_iff).1 hx
     have := h x b.2
     have := b.1
     omega)
   rw [List.length_erase_of_mem hm] at a
   omega
  ·have := nod_le n C hn (fun x hx => by
     have := h x hx
     have : x ≠ (n : Int) + 1 := fun e => hm (e ▸ hx)
     omega)
   omega
theorem idx0_no : ∀ (W : List Int), idx0 W = none → ∀ i, i < W.length → W.getD i 0 ≠ 0
 | [], _, i, hi => by simp at hi
 | x :: t, h, i, hi => by
  unfold idx0 at h
  split at h
  ·cases h
  ·rename_i q
   cases e : idx0 t with
   | some j => rw [e] at h; cases h
   | none =>
    match i, hi with
    | 0, _ => exact q
    | i + 1, hi => exact idx0_no t e i (by simpa using hi)
theorem lineF_end (d : Nat → Dn) (E : List (Int × Int)) (n : Nat) (hE : ∀ e ∈ E, (1 ≤ e.1 ∧ e.1 ≤ n) ∧ 1 ≤ e.2 ∧ e.2 ≤ n) (hne : ∀ e ∈ E, e.1 ≠ e.2) (hd : ∀ i, i < n → (d i).n = (i : Int) + 1) : ∀ (f : Nat) (C W : List Int), Inv E n C W → n ≤ f + C.length → idx0 (lineF d E f C W).2 = none
 | 0, C, W, h, hf => by
  show idx0 W = none
  refine idx0_none W fun i hi => ?_
  rw [h.len] at hi
  have hm : (i : Int) + 1 ∈ C := Classical.byContradiction fun q => by
   have := nod_le n (((i : Int) + 1) :: C) (List.nodup_cons.2 ⟨q, h.nod⟩) (fun x hx => by
    rcases List.mem_cons.1 hx with rfl | z
    ·omega
    ·exact h.rng x z)
   simp at this
   omega
  rw [h.done i hi hm]
  decide
 | f + 1, C, W, h, hf => by
  unfold lineF
  cases e : idx0 W with
  | none => exact e
  | some i =>
   simp only
   obtain ⟨hi, hz⟩ := idx0_spec W i e
   rw [h.len] at hi
   rw [hd i hi]
   exact lineF_end d E n hE hne hd f _ _ (h.step hE hne i hi hz) (by simp; omega)
theorem stk_all {d : Nat → Dn} {W : List Int} : ∀ {n : Nat}, (∀ i, i < n → W.getD i 0 = -1) → stkF d W n = []
 | 0, _ => rfl
 | n + 1, h => by
  show stkF d W n ++ (if W.getD n 0 = -1 then [] else [(d n).n]) = []
  rw [stk_all (fun i hi => h i (by omega)), if_pos (h n (by omega))]
  rfl
theorem least (P : Nat → Prop) : ∀ n, P n → ∃ m, P m ∧ ∀ k, k < m → ¬ P k := fun n => by
 induction n using Nat.strongRecOn with
 | ind n ih =>
  intro h
  by_cases q : ∃ k, k < n ∧ P k
  ·obtain ⟨k, hk, pk⟩ := q
   exact ih k hk pk
  ·exact ⟨n, h, fun k hk pk => q ⟨k, hk, pk⟩⟩
def nearD (a b : Dn) : Prop := a.n ≠ b.n ∧ a.s.s3 < b.n ∧ b.s.s3 < a.n
def SafD (d : Nat → Dn) (n : Nat) : Prop := ∀ a b c, a < n → b < n → c < n → nearD (d a) (d b) → meetB (d a).s (d b).s = true → nearD (d b) (d c) → meetB (d b).s (d c).s = true → (d c).n ≤ (d a).n → ¬ (d c).n < (d b).n
theorem bwB_pl (a b : Dn) : bwB a b = bwU a.s.pl b.s.pl := by
 have h : bwB a b = Fl.anyG (fun i => writeU b.s.pl (a.s.x3 i)) a.s.n3 := by
  unfold bwB
  congr 1
  funext i
  exact writeU_pl b.s _
 rw [h, anyG_list a.s.x3 (fun k => writeU b.s.pl k)]
 rfl
theorem okU_clash {d : Nat → Dn} : ∀ {n : Nat}, okU d n = true → ∀ i j, i < n → j < i → clB (d i) (d j) = false
 | 0, _, i, j, hi, _ => by omega
 | n + 1, h, i, j, hi, hj => by
  have h' : (okU d n && okB d n) = true := h
  rw [Bool.and_eq_true] at h'
  by_cases e : i = n
  ·subst e
   have q := h'.2
   unfold okB at q
   rw [Bool.and_eq_true, Bool.and_eq_true, Bool.and_eq_true] at q
   have g := q.2.2.2
   rw [Bool.not_eq_true', ← Bool.not_eq_true, anyG_iff] at g
   cases z : clB (d i) (d j) with
   | false => rfl
   | true => exact absurd ⟨j, hj, z⟩ g
  ·exact okU_clash h'.1 i j (by omega) hj
theorem none_stuck {d : Nat → Dn} {n : Nat} (hr : rtB d n = true) (hs : SafD d n) : stkF d (cwF d n).2 n = [] := by
 have hn := okU_num (rt_okU hr)
 have hp := okU_snap (rt_okU hr)
 have hcl := okU_clash (rt_okU hr)
 have hE := edU_rng hn n (Nat.le_refl _)
 have hi := cw_inv hr
 have hend : idx0 (cwF d n).2 = none := lineF_end d (edU d n n) n hE (fun e he => by
  obtain ⟨i, j, _, _, a, b⟩ := (edU_mem e).1 he
  rw [b]
  exact ldB_ne a) hn _ _ _ (Inv.start _ n hE) (by simp)
 generalize (cwF d n).1 = C at *
 generalize (cwF d n).2 = W at *
 refine stk_all fun i hin => ?_
 by_cases hm : (i : Int) + 1 ∈ C
 ·exact hi.done i hin hm
 exfalso
 have pred : ∀ i, (i < n ∧ (i : Int) + 1 ∉ C) → ∃ j, (j < n ∧ (j : Int) + 1 ∉ C) ∧ ldB (d j) (d i) = true := fun i ⟨h1, h2⟩ => by
  have w := hi.wait i h1 h2
  have z := idx0_no W hend i (by rw [hi.len]; exact h1)
  have : 0 < (edU d n n).countP fun e => decide (e.2 = (i : Int) + 1) && !decide (e.1 ∈ C) := by omega
  obtain ⟨e, he, q⟩ := List.countP_pos_iff.1 this
  simp only [Bool.and_eq_true, decide_eq_true_eq, Bool.not_eq_true', decide_eq_false_iff_not] at q
  obtain ⟨a, b, ha, hb, l, rfl⟩ := (edU_mem e).1 he
  have e1 : (d a).n = (a : Int) + 1 := hn a ha
  have e2 : (d b).n = (b : Int) + 1 := hn b hb
  dsimp only at q
  obtain rfl : b = i := by have := q.1; omega
  exact ⟨a, ⟨ha, by rw [← e1]; exact q.2⟩, l⟩
 obtain ⟨c, hc, lc⟩ := least (fun i => i < n ∧ (i : Int) + 1 ∉ C) i ⟨hin, hm⟩
 obtain ⟨b, hb, lb⟩ := pred c hc
 obtain ⟨a, ha, la⟩ := pred b hb
 have nb := ldB_ne lb
 have na := ldB_ne la
 have hcb : c ≤ b := Nat.le_of_not_lt fun q => lc b q hb
 have hca : c ≤ a := Nat.le_of_not_lt fun q => lc a q ha
 have ea := hn a ha.1
 have eb := hn b hb.1
 have ec := hn c hc.1
 have pa := hp a ha.1
 have pb := hp b hb.1
 have pc := hp c hc.1
 unfold ldB at lb la
 simp only [Bool.and_eq_true, Bool.or_eq_true, Bool.not_eq_true', decide_eq_true_eq, decide_eq_false_iff_not] at lb la
 have x : (d b).s.s3 < (d c).n ∧ meetB (d b).s (d c).s = true := by
  rcases lb.2 with (⟨q, _⟩ | ⟨q, _⟩) | q
  ·omega
  ·omega
  ·exact q
 have y : (d a).s.s3 < (d b).n ∧ meetB (d a).s (d b).s = true := by
  rcases la.2 with (⟨q, w⟩ | ⟨q, _⟩) | q
  ·exfalso
   have cl := hcl b a hb.1 (by omega)
   unfold clB bsB at cl
   have w2 : bwB (d b) (d a) = true := by rw [bwB_pl, bwU_comm, ← bwB_pl]; exact w
   rw [w2, Bool.and_true, Bool.and_eq_false_iff] at cl
   rcases cl with z | z
   ·have := of_decide_eq_false z; omega
   ·have := of_decide_eq_false z; omega
  ·omega
  ·exact q
 exact hs a b c ha.1 hb.1 hc.1 ⟨na, y.1, by omega⟩ y.2 ⟨nb, x.1, by omega⟩ x.2 (by omega) (by omega)
end Go.Proofs.YtgeinnaljlajoaaGreat
