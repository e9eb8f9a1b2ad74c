/- Lists of ranges of codes, as few as may be: there is one list for one set of codes; what the program's walk and the document's make; no condition. -/
import Derived.Test.YtbkbnfgjkefcmaaGreatFl
namespace Go.Proofs.YtbkbnfgjkefcmaaGreat
set_option linter.unusedVariables false
namespace Fl
/-- A key's code. -/
def V (c : Nat) : Prop := (4503599627370495 ≤ c ∧ c < 9223372036854775807) ∨ (9223372036854775808 ≤ c ∧ c ≤ 18442240474082181120)
/-- The code behind a key's. -/
def nx (c : Nat) : Nat := if c + 1 = 9223372036854775807 then c + 2 else c + 1
theorem nx_cases (c : Nat) : (c + 1 = 9223372036854775807 ∧ nx c = c + 2) ∨ (c + 1 ≠ 9223372036854775807 ∧ nx c = c + 1) := by unfold nx; split; exact .inl ⟨‹_›, rfl⟩; exact .inr ⟨‹_›, rfl⟩
theorem nx_le {c d : Nat} (hc : V c) (hd : V d) (h : c < d) : nx c ≤ d ∧ V (nx c) := by
  unfold V at *; have := nx_cases c; omega
theorem nx_gt (c : Nat) : c < nx c := by have := nx_cases c; omega
theorem nx_mono {c d : Nat} (h : c ≤ d) : nx c ≤ nx d := by have := nx_cases c; have := nx_cases d; omega
def RV (r : Nat × Nat) : Prop := V r.1 ∧ V r.2 ∧ r.1 ≤ r.2
def Cov (L : List (Nat × Nat)) (c : Nat) : Prop := ∃ r ∈ L, r.1 ≤ c ∧ c ≤ r.2
def NL (L : List (Nat × Nat)) : Prop := L.Pairwise (fun a b => nx a.2 < b.1) ∧ ∀ r ∈ L, RV r
theorem NL.tail {a : Nat × Nat} {r : List (Nat × Nat)} (h : NL (a :: r)) : NL r := ⟨(List.pairwise_cons.1 h.1).2, fun x hx => h.2 x (List.mem_cons_of_mem _ hx)⟩
theorem NL.head {a : Nat × Nat} {r : List (Nat × Nat)} (h : NL (a :: r)) : ∀ x ∈ r, nx a.2 < x.1 := (List.pairwise_cons.1 h.1).1
theorem NL.cons {a : Nat × Nat} {r : List (Nat × Nat)} (h : NL r) (ha : RV a) (k : ∀ x ∈ r, nx a.2 < x.1) : NL (a :: r) := ⟨List.pairwise_cons.2 ⟨k, h.1⟩, fun x hx => by rcases List.mem_cons.1 hx with rfl | hx; exact ha; exact h.2 x hx⟩
theorem cov_cons (a : Nat × Nat) (r : List (Nat × Nat)) (c : Nat) : Cov (a :: r) c ↔ (a.1 ≤ c ∧ c ≤ a.2) ∨ Cov r c := by simp [Cov]
theorem cov_app (L M : List (Nat × Nat)) (c : Nat) : Cov (L ++ M) c ↔ Cov L c ∨ Cov M c := by
  unfold Cov; constructor
  · rintro ⟨r, hr, h⟩; rcases List.mem_append.1 hr with k | k; exact .inl ⟨r, k, h⟩; exact .inr ⟨r, k, h⟩
  · rintro (⟨r, hr, h⟩ | ⟨r, hr, h⟩); exact ⟨r, List.mem_append.2 (.inl hr), h⟩; exact ⟨r, List.mem_append.2 (.inr hr), h⟩
theorem cov_nil (c : Nat) : ¬ Cov [] c := by rintro ⟨_, h, _⟩; cases h
theorem cov_after {a : Nat × Nat} {r : List (Nat × Nat)} (h : NL (a :: r)) {c : Nat} (hc : Cov r c) : nx a.2 < c := by
  obtain ⟨x, hx, h1, h2⟩ := hc; have := h.head x hx; omega
/-- There is one list for one set of codes. -/
theorem nl_unique : ∀ (L M : List (Nat × Nat)), NL L → NL M → (∀ c, V c → (Cov L c ↔ Cov M c)) → L = M
  | [], [], _, _, _ => rfl
  | [], b :: s, _, hM, h => by
    have vb := hM.2 b (List.mem_cons_self ..)
    exact absurd ((h b.1 vb.1).2 ((cov_cons _ _ _).2 (.inl ⟨Nat.le_refl _, vb.2.2⟩))) (cov_nil _)
  | a :: r, [], hL, _, h => by
    have va := hL.2 a (List.mem_cons_self ..)
    exact absurd ((h a.1 va.1).1 ((cov_cons _ _ _).2 (.inl ⟨Nat.le_refl _, va.2.2⟩))) (cov_nil _)
  | a :: r, b :: s, hL, hM, h => by
    have va := hL.2 a (List.mem_cons_self ..)
    have vb := hM.2 b (List.mem_cons_self ..)
    have la : b.1 ≤ a.1 := by
      have := (h a.1 va.1).1 ((cov_cons _ _ _).2 (.inl ⟨Nat.le_refl _, va.2.2⟩))
      rcases (cov_cons _ _ _).1 this with k | k
      · exact k.1
      · have := cov_after hM k; have := nx_gt b.2; have := vb.2.2; omega
    have lb : a.1 ≤ b.1 := by
      have := (h b.1 vb.1).2 ((cov_cons _ _ _).2 (.inl ⟨Nat.le_refl _, vb.2.2⟩))
      rcases (cov_cons _ _ _).1 this with k | k
      · exact k.1
      · have := cov_after hL k; have := nx_gt a.2; have := va.2.2; omega
    have hh : a.2 = b.2 := by
      rcases Nat.lt_trichotomy a.2 b.2 with k | k | k
      · have n := nx_le va.2.1 vb.2.1 k
        have := (h _ n.2).2 ((cov_cons _ _ _).2 (.inl ⟨by have := nx_gt a.2; have := va.2.2; omega, n.1⟩))
        rcases (cov_cons _ _ _).1 this with q | q
        · have := nx_gt a.2; omega
        · have := cov_after hL q; omega
      · exact k
      · have n := nx_le vb.2.1 va.2.1 k
        have := (h _ n.2).1 ((cov_cons _ _ _).2 (.inl ⟨by have := nx_gt b.2; have := vb.2.2; omega, n.1⟩))
        rcases (cov_cons _ _ _).1 this with q | q
        · have := nx_gt b.2; omega
        · have := cov_after hM q; omega
    have e : a = b := Prod.ext (by omega) hh
    subst e
    congr 1
    refine nl_unique r s hL.tail hM.tail fun c hc => ?_
    have k := h c hc
    rw [cov_cons, cov_cons] at k
    constructor
    · intro q
      have := cov_after hL q
      have := nx_gt a.2
      rcases k.1 (.inr q) with z | z
      · omega
      · exact z
    · intro q
      have := cov_after hM q
      have := nx_gt a.2
      rcases k.2 (.inr q) with z | z
      · omega
      · exact z
/-- One step of the program's walk: what doesn't reach the last range is a new one. -/
def nstep (out : List (Nat × Nat)) (f : Nat × Nat) : List (Nat × Nat) :=
  match out.getLast? with
  | none => [f]
  | some l => if nx l.2 < f.1 then out ++ [f] else out.dropLast ++ [(l.1, max l.2 f.2)]
theorem nstep_nil (f : Nat × Nat) : nstep [] f = [f] := rfl
theorem nstep_gap (I : List (Nat × Nat)) (l f : Nat × Nat) (h : nx l.2 < f.1) : nstep (I ++ [l]) f = (I ++ [l]) ++ [f] := by simp [nstep, h]
theorem nstep_in (I : List (Nat × Nat)) (l f : Nat × Nat) (h : ¬ nx l.2 < f.1) : nstep (I ++ [l]) f = I ++ [(l.1, max l.2 f.2)] := by simp [nstep, h]
theorem list_ends (L : List (Nat × Nat)) : L = [] ∨ ∃ I l, L = I ++ [l] := by
  rcases List.eq_nil_or_concat L with h | ⟨I, l, h⟩
  · exact .inl h
  · exact .inr ⟨I, l, by simpa using h⟩
theorem nl_app1 {L : List (Nat × Nat)} {f : Nat × Nat} (h : NL L) (hf : RV f) (k : ∀ a ∈ L, nx a.2 < f.1) : NL (L ++ [f]) := by
  refine ⟨List.pairwise_append.2 ⟨h.1, List.pairwise_singleton _ _, fun a ha b hb => ?_⟩, fun x hx => ?_⟩
  · rw [List.mem_singleton.1 hb]; exact k a ha
  · rcases List.mem_append.1 hx with q | q
    · exact h.2 x q
    · rw [List.mem_singleton.1 q]; exact hf
theorem nl_init {I : List (Nat × Nat)} {l : Nat × Nat} (h : NL (I ++ [l])) : NL I ∧ RV l ∧ ∀ a ∈ I, nx a.2 < l.1 := by
  have p := List.pairwise_append.1 h.1
  exact ⟨⟨p.1, fun x hx => h.2 x (List.mem_append.2 (.inl hx))⟩, h.2 l (List.mem_append.2 (.inr (List.mem_singleton.2 rfl))), fun a ha => p.2.2 a ha l (List.mem_singleton.2 rfl)⟩
theorem rv_max {l f : Nat × Nat} (hl : RV l) (hf : RV f) : RV (l.1, max l.2 f.2) := by
  refine ⟨hl.1, ?_, ?_⟩
  · show V (max l.2 f.2)
    by_cases h : l.2 ≤ f.2
    · rw [Nat.max_eq_right h]; exact hf.2.1
    · rw [Nat.max_eq_left (by omega)]; exact hl.2.1
  · show l.1 ≤ max l.2 f.2
    have := hl.2.2; omega
theorem nstep_ok (out : List (Nat × Nat)) (f : Nat × Nat) (h : NL out) (hf : RV f) (hs : ∀ a ∈ out, a.1 ≤ f.1) :
    NL (nstep out f) ∧ (∀ c, V c → (Cov (nstep out f) c ↔ Cov out c ∨ (f.1 ≤ c ∧ c ≤ f.2))) ∧ (∀ x, f.1 ≤ x → ∀ a ∈ nstep out f, a.1 ≤ x) ∧ 0 < (nstep out f).length ∧ (nstep out f).length ≤ out.length + 1 := by
  rcases list_ends out with rfl | ⟨I, l, rfl⟩
  · rw [nstep_nil]
    refine ⟨⟨List.pairwise_singleton _ _, fun x hx => by rw [List.mem_singleton.1 hx]; exact hf⟩, fun c hc => ?_, fun x hx a ha => by rw [List.mem_singleton.1 ha]; exact hx, by simp, by simp⟩
    rw [cov_cons]; simp [cov_nil]
  · obtain ⟨hI, hl, hg⟩ := nl_init h
    have hlf : l.1 ≤ f.1 := hs l (by simp)
    by_cases g : nx l.2 < f.1
    · rw [nstep_gap I l f g]
      refine ⟨nl_app1 h hf fun a ha => ?_, fun c hc => ?_, fun x hx a ha => ?_, by simp, by simp⟩
      · rcases List.mem_append.1 ha with q | q
        · have := hg a q; have := nx_gt l.2; have := hl.2.2; omega
        · rw [List.mem_singleton.1 q]; exact g
      · rw [cov_app _ [f], cov_cons f []]; simp [cov_nil]
      · rcases List.mem_append.1 ha with q | q
        · have := hs a q; omega
        · rw [List.mem_singleton.1 q]; exact hx
    · rw [nstep_in I l f g]
      refine ⟨nl_app1 hI (rv_max hl hf) hg, fun c hc => ?_, fun x hx a ha => ?_, by simp, by simp⟩
      · rw [cov_app, cov_app, cov_cons, cov_cons]
        have n := nx_cases l.2
        have v1 := hl.2.1; have v2 := hf.1
        have v3 := hl.2.2; have v4 := hf.2.2
        simp only [cov_nil, or_false]
        unfold V at *
        constructor
        · rintro (k | k)
          · exact .inl (.inl k)
          · by_cases q : c ≤ l.2
            · exact .inl (.inr ⟨k.1, q⟩)
            · exact .inr (by omega)
        · rintro ((k | k) | k)
          · exact .inl k
          · exact .inr (by omega)
          · exact .inr (by omega)
      · rcases List.mem_append.1 ha with q | q
        · have := hs a (List.mem_append.2 (.inl q)); omega
        · rw [List.mem_singleton.1 q]; show l.1 ≤ x; omega
/-- The program's walk over ranges in order. -/
def nfold (S : List (Nat × Nat)) : List (Nat × Nat) := S.foldl nstep []
theorem nfold_snoc (S : List (Nat × Nat)) (f : Nat × Nat) : nfold (S ++ [f]) = nstep (nfold S) f := by simp [nfold]
theorem cov_single (f : Nat × Nat) (c : Nat) : Cov [f] c ↔ f.1 ≤ c ∧ c ≤ f.2 := by rw [cov_cons]; simp [cov_nil]
theorem nfold_ok : ∀ (k : Nat) (S : List (Nat × Nat)), S.length = k → (∀ r ∈ S, RV r) → S.Pairwise (fun a b => a.1 ≤ b.1) → NL (nfold S) ∧ (∀ c, V c → (Cov (nfold S) c ↔ Cov S c)) ∧ (∀ x, (∀ r ∈ S, r.1 ≤ x) → ∀ a ∈ nfold S, a.1 ≤ x) ∧ (nfold S).length ≤ S.length ∧ (0 < S.length → 0 < (nfold S).length)
  | 0, S, hk, hv, hp => by
    obtain rfl : S = [] := List.eq_nil_of_length_eq_zero hk
    exact ⟨⟨List.Pairwise.nil, fun _ h => by cases h⟩, fun c _ => Iff.rfl, fun _ _ _ h => (by cases h), Nat.le_refl _, fun h => by simp at h⟩
  | k + 1, S, hk, hv, hp => by
    rcases list_ends S with rfl | ⟨I, f, rfl⟩
    · simp at hk
    have p := List.pairwise_append.1 hp
    have ih := nfold_ok k I (by simpa using hk) (fun r hr => hv r (List.mem_append.2 (.inl hr))) p.1
    have hf := hv f (by simp)
    have st := nstep_ok (nfold I) f ih.1 hf (ih.2.2.1 f.1 fun r hr => p.2.2 r hr f (by simp))
    rw [nfold_snoc]
    refine ⟨st.1, fun c hc => ?_, fun x hx => st.2.2.1 x (hx f (by simp)), ?_, fun _ => st.2.2.2.1⟩
    · rw [st.2.1 c hc, ih.2.1 c hc, cov_app, cov_single]
    · have := st.2.2.2.2; have := ih.2.2.2.1; simp; omega
/-- The document's: what a range joins of a list, and what is left. -/
def jn : List (Nat × Nat) → Nat × Nat → List (Nat × Nat) × (Nat × Nat)
  | [], r => ([], r)
  | e :: t, r => if nx e.2 < r.1 ∨ nx r.2 < e.1 then (e :: (jn t r).1, (jn t r).2) else jn t (min e.1 r.1, max e.2 r.2)
theorem jn_far (t : List (Nat × Nat)) (r : Nat × Nat) (h : ∀ x ∈ t, nx r.2 < x.1) : jn t r = (t, r) := by
  induction t with
  | nil => rfl
  | cons e t ih => rw [jn, if_pos (.inr (h e (by simp))), ih fun x hx => h x (List.mem_cons_of_mem _ hx)]
theorem rv_join {e r : Nat × Nat} (he : RV e) (hr : RV r) : RV (min e.1 r.1, max e.2 r.2) := by
  refine ⟨?_, ?_, ?_⟩
  · show V (min e.1 r.1)
    by_cases h : e.1 ≤ r.1
    · rw [Nat.min_eq_left h]; exact he.1
    · rw [Nat.min_eq_right (by omega)]; exact hr.1
  · show V (max e.2 r.2)
    by_cases h : e.2 ≤ r.2
    · rw [Nat.max_eq_right h]; exact hr.2.1
    · rw [Nat.max_eq_left (by omega)]; exact he.2.1
  · show min e.1 r.1 ≤ max e.2 r.2
    have := he.2.2; omega
theorem jn_low (b : Nat) : ∀ (t : List (Nat × Nat)) (r : Nat × Nat), (∀ x ∈ t, b < x.1) → b < r.1 → b < (jn t r).2.1
  | [], r, _, h => h
  | e :: t, r, ht, h => by
    rw [jn]; split
    · exact jn_low b t r (fun x hx => ht x (List.mem_cons_of_mem _ hx)) h
    · refine jn_low b t _ (fun x hx => ht x (List.mem_cons_of_mem _ hx)) ?_
      show b < min e.1 r.1
      have := ht e (by simp); omega
theorem jn_ok : ∀ (t : List (Nat × Nat)) (r : Nat × Nat), NL t → RV r →
    NL (jn t r).1 ∧ RV (jn t r).2 ∧ (∀ c, V c → (Cov (jn t r).1 c ∨ ((jn t r).2.1 ≤ c ∧ c ≤ (jn t r).2.2) ↔ Cov t c ∨ (r.1 ≤ c ∧ c ≤ r.2))) ∧ (∀ x ∈ (jn t r).1, x ∈ t ∧ (nx x.2 < (jn t r).2.1 ∨ nx (jn t r).2.2 < x.1)) ∧ (jn t r).1.length ≤ t.length
  | [], r, h, hr => ⟨h, hr, fun c _ => Iff.rfl, fun _ h => (by cases h), Nat.le_refl _⟩
  | e :: t, r, h, hr => by
    have he := h.2 e (by simp)
    by_cases g : nx e.2 < r.1 ∨ nx r.2 < e.1
    · have ih := jn_ok t r h.tail hr
      rw [jn, if_pos g]
      refine ⟨ih.1.cons he fun x hx => h.head x (ih.2.2.2.1 x hx).1, ih.2.1, fun c hc => ?_, fun x hx => ?_, by simp; exact ih.2.2.2.2⟩
      · have := ih.2.2.1 c hc
        rw [cov_cons, cov_cons, or_assoc, or_assoc, this]
      · rcases List.mem_cons.1 hx with rfl | q
        · refine ⟨by simp, ?_⟩
          rcases g with g | g
          · exact .inl (jn_low _ t r h.head g)
          · right
            rw [jn_far t r fun y hy => by have := h.head y hy; have := nx_gt x.2; have := he.2.2; omega]
            exact g
        · exact ⟨List.mem_cons_of_mem _ (ih.2.2.2.1 x q).1, (ih.2.2.2.1 x q).2⟩
    · have ih := jn_ok t _ h.tail (rv_join he hr)
      rw [jn, if_neg g]
      refine ⟨ih.1, ih.2.1, fun c hc => ?_, fun x hx => ⟨List.mem_cons_of_mem _ (ih.2.2.2.1 x hx).1, (ih.2.2.2.1 x hx).2⟩, by have := ih.2.2.2.2; simp; omega⟩
      rw [ih.2.2.1 c hc, cov_cons]
      have n1 := nx_cases e.2; have n2 := nx_cases r.2
      have v1 := he.2.1; have v2 := hr.1; have v3 := he.1; have v4 := hr.2.1; have v5 := he.2.2; have v6 := hr.2.2
      unfold V at *
      constructor
      · rintro (k | k)
        · exact .inl (.inr k)
        · replace k : min e.1 r.1 ≤ c ∧ c ≤ max e.2 r.2 := k
          by_cases q : e.1 ≤ c ∧ c ≤ e.2
          · exact .inl (.inl q)
          · exact .inr (by omega)
      · rintro ((k | k) | k)
        · right; show min e.1 r.1 ≤ c ∧ c ≤ max e.2 r.2; omega
        · exact .inl k
        · right; show min e.1 r.1 ≤ c ∧ c ≤ max e.2 r.2; omega
/-- A range put at its place; is it there? -/
def put (r : Nat × Nat) : Bool → List (Nat × Nat) → List (Nat × Nat) × Bool
  | d, [] => ([], d)
  | d, e :: t => if d = false ∧ r.1 < e.1 then (r :: e :: (put r true t).1, (put r true t).2) else (e :: (put r d t).1, (put r d t).2)
def putL (r : Nat × Nat) (L : List (Nat × Nat)) : List (Nat × Nat) := if (put r false L).2 = true then (put r false L).1 else (put r false L).1 ++ [r]
theorem put_true (r : Nat × Nat) : ∀ L, put r true L = (L, true)
  | [] => rfl
  | e :: t => by rw [put, if_neg (by simp), put_true r t]
theorem putL_cons (r e : Nat × Nat) (t : List (Nat × Nat)) : putL r (e :: t) = if r.1 < e.1 then r :: e :: t else e :: putL r t := by
  have e1 : put r false (e :: t) = if r.1 < e.1 then (r :: e :: t, true) else (e :: (put r false t).1, (put r false t).2) := by
    rw [put]
    by_cases h : r.1 < e.1
    · rw [if_pos ⟨rfl, h⟩, if_pos h, put_true]
    · rw [if_neg (fun k => h k.2), if_neg h]
  unfold putL
  rw [e1]
  by_cases h : r.1 < e.1
  · rw [if_pos h, if_pos h, if_pos rfl]
  · rw [if_neg h, if_neg h]
    dsimp only
    split <;> rfl
theorem putL_ok (r : Nat × Nat) (hr : RV r) : ∀ L, NL L → (∀ x ∈ L, nx x.2 < r.1 ∨ nx r.2 < x.1) → NL (putL r L) ∧ (∀ c, Cov (putL r L) c ↔ Cov L c ∨ (r.1 ≤ c ∧ c ≤ r.2)) ∧ (∀ x ∈ putL r L, x = r ∨ x ∈ L) ∧ (putL r L).length = L.length + 1
  | [], h, _ => ⟨⟨List.pairwise_singleton _ _, fun x hx => by rw [List.mem_singleton.1 hx]; exact hr⟩, fun c => by show Cov [r] c ↔ _; rw [cov_single]; simp [cov_nil], fun x hx => .inl (List.mem_singleton.1 hx), rfl⟩
  | e :: t, h, g => by
    have he := h.2 e (by simp)
    have ih := putL_ok r hr t h.tail fun x hx => g x (List.mem_cons_of_mem _ hx)
    rw [putL_cons]
    by_cases k : r.1 < e.1
    · rw [if_pos k]
      have ge : nx r.2 < e.1 := by
        rcases g e (by simp) with q | q
        · have := nx_gt e.2; have := he.2.2; omega
        · exact q
      refine ⟨h.cons hr fun x hx => ?_, fun c => ?_, fun x hx => ?_, by simp⟩
      · rcases List.mem_cons.1 hx with rfl | q
        · exact ge
        · have := h.head x q; have := nx_gt e.2; have := he.2.2; omega
      · rw [cov_cons r]; exact Or.comm
      · rcases List.mem_cons.1 hx with q | q
        · exact .inl q
        · exact .inr q
    · rw [if_neg k]
      have ge : nx e.2 < r.1 := by
        rcases g e (by simp) with q | q
        · exact q
        · have := nx_gt r.2; have := hr.2.2; omega
      refine ⟨ih.1.cons he fun x hx => ?_, fun c => ?_, fun x hx => ?_, by simp; exact ih.2.2.2⟩
      · rcases ih.2.2.1 x hx with rfl | q
        · exact ge
        · exact h.head x q
      · rw [cov_cons, cov_cons, ih.2.1 c, or_assoc]
      · rcases List.mem_cons.1 hx with rfl | q
        · exact .inr (by simp)
        · rcases ih.2.2.1 x q with z | z
          · exact .inl z
          · exact .inr (List.mem_cons_of_mem _ z)
/-- The document's step. -/
def dstep (D : List (Nat × Nat)) (r : Nat × Nat) : List (Nat × Nat) := putL (jn D r).2 (jn D r).1
theorem dstep_ok (D : List (Nat × Nat)) (r : Nat × Nat) (h : NL D) (hr : RV r) : NL (dstep D r) ∧ (∀ c, V c → (Cov (dstep D r) c ↔ Cov D c ∨ (r.1 ≤ c ∧ c ≤ r.2))) ∧ (dstep D r).length ≤ D.length + 1 := by
  have j := jn_ok D r h hr
  have p := putL_ok (jn D r).2 j.2.1 (jn D r).1 j.1 fun x hx => (j.2.2.2.1 x hx).2
  unfold dstep
  exact ⟨p.1, fun c hc => by rw [p.2.1, j.2.2.1 c hc], by rw [p.2.2.2]; have := j.2.2.2.2; omega⟩
def dfold (S : List (Nat × Nat)) : List (Nat × Nat) := S.foldl dstep []
theorem dfold_snoc (S : List (Nat × Nat)) (f : Nat × Nat) : dfold (S ++ [f]) = dstep (dfold S) f := by simp [dfold]
theorem dfold_ok : ∀ (k : Nat) (S : List (Nat × Nat)), S.length = k → (∀ r ∈ S, RV r) → NL (dfold S) ∧ (∀ c, V c → (Cov (dfold S) c ↔ Cov S c)) ∧ (dfold S).length ≤ S.length
  | 0, S, hk, hv => by
    obtain rfl : S = [] := List.eq_nil_of_length_eq_zero hk
    exact ⟨⟨List.Pairwise.nil, fun _ h => by cases h⟩, fun c _ => Iff.rfl, Nat.le_refl _⟩
  | k + 1, S, hk, hv => by
    rcases list_ends S with rfl | ⟨I, f, rfl⟩
    · simp at hk
    have ih := dfold_ok k I (by simpa using hk) (fun r hr => hv r (List.mem_append.2 (.inl hr)))
    have st := dstep_ok (dfold I) f ih.1 (hv f (by simp))
    rw [dfold_snoc]
    exact ⟨st.1, fun c hc => by rw [st.2.1 c hc, ih.2.1 c hc, cov_app, cov_single], by have := st.2.2; have := ih.2.2; simp; omega⟩
/-- In whatever order: one list. -/
theorem nfold_dfold (S T : List (Nat × Nat)) (hS : ∀ r ∈ S, RV r) (hp : S.Pairwise (fun a b => a.1 ≤ b.1)) (hT : ∀ r, r ∈ T ↔ r ∈ S) : nfold S = dfold T := by
  have a := nfold_ok _ S rfl hS hp
  have b := dfold_ok _ T rfl fun r hr => hS r ((hT r).1 hr)
  refine nl_unique _ _ a.1 b.1 fun c hc => ?_
  rw [a.2.1 c hc, b.2.1 c hc]
  unfold Cov
  exact ⟨fun ⟨r, h, k⟩ => ⟨r, (hT r).2 h, k⟩, fun ⟨r, h, k⟩ => ⟨r, (hT r).1 h, k⟩⟩
/-- A list that is as few as may be is its own. -/
theorem nfold_self (L : List (Nat × Nat)) (h : NL L) : nfold L = L := by
  have a := nfold_ok _ L rfl h.2 (h.1.imp_of_mem fun {a b} ha hb q => by have := nx_gt a.2; have := (h.2 a ha).2.2; omega)
  exact nl_unique _ _ a.1 h fun c hc => a.2.1 c hc
end Fl
end Go.Proofs.YtbkbnfgjkefcmaaGreat
