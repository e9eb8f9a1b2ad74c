/- In the order that line makes each has read what it has read; plain: the history is right. -/
import Derived.Test.YtgeinnaljlajoaaGreatJj2
import Derived.Test.YtgeinnaljlajoaaGreatJp
namespace Go.Proofs.YtgeinnaljlajoaaGreat
open Go.RowKit Go.Lib
set_option linter.unusedVariables false
set_option linter.unusedSimpArgs false
set_option maxRecDepth 20000
theorem keyEq_alike {a b : Nat} (h : keyEq a b = true) (x : Nat) : keyEq x a = keyEq x b := by
 unfold keyEq at h ⊢
 rw [Bool.and_eq_true, Bool.and_eq_true, decide_eq_true_eq] at h
 obtain ⟨⟨h1, h2⟩, h3⟩ := h
 rw [h1, h2, h3]
theorem hasS_alike {a b : Nat} (h : keyEq a b = true) (s : Sp) : Fl.hasS s a = Fl.hasS s b := by
 unfold keyEq at h
 rw [Bool.and_eq_true, Bool.and_eq_true, decide_eq_true_eq] at h
 unfold Fl.hasS Fl.hasF
 rw [h.2]
theorem readB_alike {a b : Nat} (h : keyEq a b = true) (s : Sb) : readB s a = readB s b := by
 unfold readB
 rw [show (fun i => keyEq (s.x1 i) a) = fun i => keyEq (s.x1 i) b from funext fun i => keyEq_alike h _, show (fun i => Fl.hasS (s.f2 i) a) = fun i => Fl.hasS (s.f2 i) b from funext fun i => hasS_alike h _]
theorem writeB_alike {a b : Nat} (h : keyEq a b = true) (s : Sb) : writeB s a = writeB s b := by
 unfold writeB
 rw [show (fun i => keyEq (s.x3 i) a) = fun i => keyEq (s.x3 i) b from funext fun i => keyEq_alike h _]
theorem bw_of {a b : Dn} {k : Nat} (h1 : writeB a.s k = true) (h2 : writeB b.s k = true) : bwB a b = true := by
 obtain ⟨i, hi, e⟩ := anyG_iff.1 h1
 exact anyG_iff.2 ⟨i, hi, by rw [writeB_alike e]; exact h2⟩
theorem meet_of {a b : Sb} {k : Nat} (h1 : readB a k = true) (h2 : writeB b k = true) : meetB a b = true := by
 obtain ⟨i, hi, e⟩ := anyG_iff.1 h2
 exact anyG_iff.2 ⟨i, hi, by rw [readB_alike e]; exact h1⟩
theorem edR_mem {d : Nat → Dn} {k : Nat} : ∀ {j : Nat} (e : Int × Int), e ∈ edR d k j ↔ ∃ i, i < j ∧ ldB (d k) (d i) = true ∧ e = ((d k).n, (d i).n)
 | 0, e => by simp [edR]
 | j + 1, e => by
  show e ∈ edR d k j ++ _ ↔ _
  rw [List.mem_append, edR_mem e]
  constructor
  ·rintro (⟨i, hi, a, b⟩ | h)
   ·exact ⟨i, by omega, a, b⟩
   ·by_cases q : ldB (d k) (d j) = true
    ·rw [if_pos q] at h; simp at h; exact ⟨j, by omega, q, h⟩
    ·rw [if_neg q] at h; cases h
  ·rintro ⟨i, hi, a, b⟩
   by_cases q : i = j
   ·subst q; right; rw [if_pos a, b]; simp
   ·left; exact ⟨i, by omega, a, b⟩
theorem edU_mem {d : Nat → Dn} {n : Nat} : ∀ {k : Nat} (e : Int × Int), e ∈ edU d n k ↔ ∃ i j, i < k ∧ j < n ∧ ldB (d i) (d j) = true ∧ e = ((d i).n, (d j).n)
 | 0, e => by simp [edU]
 | k + 1, e => by
  show e ∈ edU d n k ++ _ ↔ _
  rw [List.mem_append, edU_mem e, edR_mem]
  constructor
  ·rintro (⟨i, j, hi, hj, a, b⟩ | ⟨j, hj, a, b⟩)
   ·exact ⟨i, j, by omega, hj, a, b⟩
   ·exact ⟨k, j, by omega, hj, a, b⟩
  ·rintro ⟨i, j, hi, hj, a, b⟩
   by_cases q : i = k
   ·subst q; right; exact ⟨j, hj, a, b⟩
   ·left; exact ⟨i, j, by omega, hj, a, b⟩
theorem ldB_ne {a b : Dn} (h : ldB a b = true) : a.n ≠ b.n := by
 unfold ldB at h
 rw [Bool.and_eq_true] at h
 simpa using h.1
theorem split_one : ∀ (P P' : List Int) (x : Int) (t t' : List Int), x ∉ P → x ∉ P' → P ++ x :: t = P' ++ x :: t' → P = P'
 | [], [], _, _, _, _, _, _ => rfl
 | [], b :: P', x, t, t', h, h', e => by
  have e1 : x = b := by simpa using (List.cons.inj e).1
  exact absurd (by rw [e1]; exact List.mem_cons_self ..) h'
 | a :: P, [], x, t, t', h, h', e => by
  have e1 : a = x := by simpa using (List.cons.inj e).1
  exact absurd (by rw [e1]; exact List.mem_cons_self ..) h
 | a :: P, b :: P', x, t, t', h, h', e => by
  obtain ⟨e1, e2⟩ := List.cons.inj e
  rw [e1, split_one P P' x t t' (fun q => h (List.mem_cons_of_mem _ q)) (fun q => h' (List.mem_cons_of_mem _ q)) e2]
theorem nod_not {P t : List Int} {x : Int} (h : (P ++ x :: t).Nodup) : x ∉ P := fun q => by
 rw [List.nodup_append] at h
 exact h.2.2 x q x (List.mem_cons_self ..) rfl
structure Ord (d : Nat → Dn) (n : Nat) (C : List Int) : Prop where
 num : ∀ i, i < n → (d i).n = (i : Int) + 1
 snp : ∀ i, i < n → 0 ≤ (d i).s.s3 ∧ (d i).s.s3 < (d i).n
 nod : C.Nodup
 rng : ∀ x ∈ C, 1 ≤ x ∧ x ≤ n
 all : ∀ i : Nat, i < n → (i : Int) + 1 ∈ C
 edg : ∀ i j, i < n → j < n → ldB (d i) (d j) = true → ∃ P Q, C = P ++ ((j : Int) + 1) :: Q ∧ (i : Int) + 1 ∈ P
theorem Ord.ahead {d : Nat → Dn} {n : Nat} {C P Q : List Int} (h : Ord d n C) {i j : Nat} (hi : i < n) (hj : j < n) (hl : ldB (d i) (d j) = true) (e : C = P ++ ((j : Int) + 1) :: Q) : (i : Int) + 1 ∈ P := by
 obtain ⟨P', Q', e', m⟩ := h.edg i j hi hj hl
 have a : ((j : Int) + 1) ∉ P := nod_not (by rw [← e]; exact h.nod)
 have b : ((j : Int) + 1) ∉ P' := nod_not (by rw [← e']; exact h.nod)
 rw [split_one P P' _ Q Q' a b (by rw [← e, ← e'])]
 exact m
theorem ver_zero {d : Nat → Dn} {key : Nat} : ∀ {m : Nat}, (∀ i, i < m → writeB (d i).s key = false) → ver d key m = 0
 | 0, _ => rfl
 | m + 1, h => by
  show (if writeB (d m).s key = true then _ else ver d key m) = 0
  rw [if_neg (by rw [h m (by omega)]; simp)]
  exact ver_zero fun i hi => h i (by omega)
theorem ver_at {d : Nat → Dn} {key j : Nat} (hw : writeB (d j).s key = true) : ∀ {m : Nat}, j < m → (∀ i, j < i → i < m → writeB (d i).s key = false) → ver d key m = (d j).n
 | 0, q, _ => by omega
 | m + 1, q, h => by
  show (if writeB (d m).s key = true then (d m).n else ver d key m) = _
  by_cases e : j = m
  ·subst e; rw [if_pos hw]
  ·rw [if_neg (by rw [h m (by omega) (by omega)]; simp)]
   exact ver_at hw (by omega) fun i a b => h i a (by omega)
def LastW (d : Nat → Dn) (key : Nat) (P : List Int) (l : Int) : Prop := (l = 0 ∧ ∀ x ∈ P, writeB (d (x - 1).toNat).s key = false) ∨ ∃ P1 P2, P = P1 ++ l :: P2 ∧ writeB (d (l - 1).toNat).s key = true ∧ ∀ x ∈ P2, writeB (d (x - 1).toNat).s key = false
theorem Ord.ver {d : Nat → Dn} {n : Nat} {C P Q : List Int} (h : Ord d n C) {key : Nat} {x : Int} {l : Int} (e : C = P ++ x :: Q) (hl : LastW d key P l) (hr : readB (d (x - 1).toNat).s key = true) : Go.Proofs.YtgeinnaljlajoaaGreat.ver d key (d (x - 1).toNat).s.s3.toNat = l := by
 have hx := h.rng x (by rw [e]; simp)
 obtain ⟨k, hk, rfl⟩ : ∃ k : Nat, k < n ∧ x = (k : Int) + 1 := ⟨(x - 1).toNat, by omega, by omega⟩
 have ek : ((k : Int) + 1 - 1).toNat = k := by omega
 rw [ek] at hr ⊢
 have hs := h.snp k hk
 have hn := h.num k hk
 generalize hm : (d k).s.s3.toNat = m
 have hmk : m ≤ k := by omega
 -- who writes it and was seen is ahead
 have seen : ∀ i, i < m → writeB (d i).s key = true → (i : Int) + 1 ∈ P := fun i hi hw => by
  refine h.ahead (by omega) hk ?_ e
  have a1 : ¬ (d i).n = (d k).n := by rw [h.num i (by omega), hn]; omega
  have a2 : (d i).n ≤ (d k).s.s3 := by rw [h.num i (by omega)]; omega
  unfold ldB
  simp [a1, a2, meet_of hr hw]
 rcases hl with ⟨rfl, hno⟩ | ⟨P1, P2, eP, hw, hno⟩
 ·refine ver_zero fun i hi => ?_
  by_cases q : writeB (d i).s key = true
  ·have a := hno _ (seen i hi q)
   rw [show ((i : Int) + 1 - 1).toNat = i from by omega] at a
   exact a
  ·simpa using q
 ·have hT := h.rng l (by rw [e, eP]; simp)
  obtain ⟨j, hj, rfl⟩ : ∃ j : Nat, j < n ∧ l = (j : Int) + 1 := ⟨(l - 1).toNat, by omega, by omega⟩
  rw [show ((j : Int) + 1 - 1).toNat = j from by omega] at hw
  have eC : C = P1 ++ ((j : Int) + 1) :: (P2 ++ ((k : Int) + 1) :: Q) := by rw [e, eP]; simp
  have hjk : j ≠ k := fun q => by
   have a := nod_not (by rw [← e]; exact h.nod)
   exact a (by rw [eP, q]; simp)
  have hjm : j < m := by
   by_cases q : j < m
   ·exact q
   ·exfalso
    have a := h.ahead hk hj (by
     have a1 : ¬ (d k).n = (d j).n := by rw [h.num j hj, hn]; omega
     have a2 : (d k).s.s3 < (d j).n := by rw [h.num j hj]; omega
     unfold ldB
     simp [a1, a2, meet_of hr hw]) eC
    exact nod_not (by rw [← e]; exact h.nod) (by rw [eP]; exact List.mem_append_left _ a)
  rw [← h.num j hj]
  refine ver_at hw hjm fun i hji him => ?_
  by_cases q : writeB (d i).s key = true
  ·exfalso
   have a := seen i him q
   rw [eP] at a
   rcases List.mem_append.1 a with b | b
   ·obtain ⟨A, B, eA⟩ := List.append_of_mem b
    have c := h.ahead hj (by omega) (by
     have a1 : ¬ (d j).n = (d i).n := by rw [h.num j hj, h.num i (by omega)]; omega
     have a2 : (d j).n < (d i).n := by rw [h.num j hj, h.num i (by omega)]; omega
     unfold ldB
     simp [a1, a2, bw_of hw q]) (show C = A ++ ((i : Int) + 1) :: (B ++ ((j : Int) + 1) :: (P2 ++ ((k : Int) + 1) :: Q)) by rw [eC, eA]; simp)
    exact nod_not (by rw [← eC]; exact h.nod) (by rw [eA]; exact List.mem_append_left _ c)
   ·rcases List.mem_cons.1 b with c | c
    ·omega
    ·have z := hno _ c
     rw [show ((i : Int) + 1 - 1).toNat = i from by omega, q] at z
     cases z
  ·simpa using q
theorem Ord.raF {d : Nat → Dn} {n : Nat} {C : List Int} (h : Ord d n C) (key : Nat) : ∀ (Q P : List Int) (l : Int), C = P ++ Q → LastW d key P l → Go.Proofs.YtgeinnaljlajoaaGreat.raF d key Q l = true
 | [], _, _, _, _ => rfl
 | x :: t, P, l, e, hl => by
  unfold Go.Proofs.YtgeinnaljlajoaaGreat.raF
  rw [if_neg]
  ·refine h.raF key t (P ++ [x]) _ (by rw [e]; simp) ?_
   by_cases q : writeB (d (x - 1).toNat).s key = true
   ·rw [if_pos q]
    exact Or.inr ⟨P, [], rfl, q, fun y hy => by cases hy⟩
   ·rw [if_neg q]
    have q' : writeB (d (x - 1).toNat).s key = false := by simpa using q
    rcases hl with ⟨a, b⟩ | ⟨P1, P2, a, b, c⟩
    ·refine Or.inl ⟨a, fun y hy => ?_⟩
     rcases List.mem_append.1 hy with z | z
     ·exact b y z
     ·simp at z; rw [z]; exact q'
    ·refine Or.inr ⟨P1, P2 ++ [x], by rw [a]; simp, b, fun y hy => ?_⟩
     rcases List.mem_append.1 hy with z | z
     ·exact c y z
     ·simp at z; rw [z]; exact q'
  ·intro q
   rw [Bool.and_eq_true, decide_eq_true_eq] at q
   exact q.2 (h.ver e hl q.1)
theorem Ord.reads {d : Nat → Dn} {n : Nat} {C : List Int} (h : Ord d n C) (hr : rtB d n = true) (hl : C.length = n) : rdH d n C = true := by
 unfold rdH
 rw [hr, Bool.true_and, Bool.and_eq_true]
 constructor
 ·unfold eoB
  rw [Bool.and_eq_true, decide_eq_true_eq, Bool.not_eq_true']
  refine ⟨hl, ?_⟩
  by_cases q : Fl.anyG (fun i => !hasN C (d i).n) n = true
  ·obtain ⟨i, hi, e⟩ := anyG_iff.1 q
   rw [hasN_iff.2 (by rw [h.num i hi]; exact h.all i hi)] at e
   cases e
  ·simpa using q
 ·rw [Bool.not_eq_true']
  by_cases q : Fl.anyG (mrB d C) n = true
  ·obtain ⟨i, hi, e⟩ := anyG_iff.1 q
   obtain ⟨j, hj, e⟩ := anyG_iff.1 e
   rw [h.raF _ C [] 0 rfl (Or.inl ⟨rfl, fun x hx => by cases hx⟩)] at e
   cases e
  ·simpa using q
theorem nod_len : ∀ (n : Nat) (C : List Int), C.Nodup → (∀ x ∈ C, 1 ≤ x ∧ x ≤ n) → (∀ i : Nat, i < n → (i : Int) + 1 ∈ C) → C.length = n
 | 0, C, _, h, _ => by
  cases C with
  | nil => rfl
  | cons a t => have := h a (List.mem_cons_self ..); omega
 | n + 1, C, hn, h, ha => by
  have hm := ha n (by omega)
  have a := nod_len n (C.erase ((n : Int) + 1)) (hn.erase _) (fun x hx => by
   have b := (hn.mem_erase_iff).1 hx
   have := h x b.2
   have := b.1
   omega) (fun i hi => (hn.mem_erase_iff).2 ⟨by omega, ha i (by omega)⟩)
  rw [List.length_erase_of_mem hm] at a
  have : 0 < C.length := List.length_pos_of_mem hm
  omega
theorem rt_okU {d : Nat → Dn} {n : Nat} (h : rtB d n = true) : okU d n = true := by
 unfold rtB at h
 rw [Bool.and_eq_true] at h
 exact h.2
theorem cw_inv {d : Nat → Dn} {n : Nat} (h : rtB d n = true) : Inv (edU d n n) n (cwF d n).1 (cwF d n).2 := by
 have hn := okU_num (rt_okU h)
 have hE := edU_rng hn n (Nat.le_refl _)
 refine lineF_inv d (edU d n n) n hE (fun e he => ?_) hn _ _ _ (Inv.start _ n hE)
 obtain ⟨i, j, _, _, a, b⟩ := (edU_mem e).1 he
 rw [b]
 exact ldB_ne a
theorem or_ord {d : Nat → Dn} {n : Nat} (h : orB d n = true) : Ord d n (orL d n) ∧ (orL d n).length = n := by
 have hh := h
 unfold orB at hh
 rw [Bool.and_eq_true, decide_eq_true_eq] at hh
 obtain ⟨hr, hs⟩ := hh
 have hn := okU_num (rt_okU hr)
 have hi := cw_inv hr
 have ha := hi.all (stk_none hs)
 have e : orL d n = (cwF d n).1 := by unfold orL; rw [if_pos h]
 rw [e]
 refine ⟨⟨hn, okU_snap (rt_okU hr), hi.nod, hi.rng, ha, fun i j hi' hj hl => ?_⟩, nod_len n _ hi.nod hi.rng ha⟩
 have := hi.edge ((d i).n, (d j).n) ((edU_mem _).2 ⟨i, j, hi', hj, hl, rfl⟩) (by rw [hn j hj]; exact ha j hj)
 rw [hn i hi', hn j hj] at this
 exact this
theorem or_reads {d : Nat → Dn} {n : Nat} (h : orB d n = true) : rdH d n (orL d n) = true := by
 obtain ⟨a, b⟩ := or_ord h
 refine a.reads ?_ b
 unfold orB at h
 rw [Bool.and_eq_true] at h
 exact h.1
end Go.Proofs.YtgeinnaljlajoaaGreat
