/- What the tables keep of the transactions that are in them; no dangerous three commit, plainly; no condition. -/
import Derived.Test.YtgeinnaljlajoaaGreatCej
namespace Go.Proofs.YtgeinnaljlajoaaGreat
open Go.RowKit Go.Lib
set_option linter.unusedVariables false
set_option linter.unusedSimpArgs false
set_option maxRecDepth 20000
def VH (L : List Vx.It) (key : Nat) (n : Int) : Prop := ∃ z ∈ L, Vx.kc z = Fl.code key ∧ n ≤ z.n
def PH (L : List Py.It) (p : Sp) (n : Int) : Prop := ∃ z ∈ L, (∀ k, Py.hasB z.a z.b z.p z.q k = Fl.hasS p k) ∧ n ≤ z.n
theorem VH.put {L : List Vx.It} {key : Nat} {n : Int} (h : VH L key n) (x : Vx.It) : VH (Vx.putL x L) key n := by
 obtain ⟨y, hy, e, hn⟩ := h
 obtain ⟨z, hz, ek, en⟩ := vput_keep x hy
 exact ⟨z, hz, by unfold Vx.kc at *; rw [ek]; exact e, by omega⟩
theorem PH.put {L : List Py.It} {p : Sp} {n : Int} (h : PH L p n) (x : Py.It) : PH (Py.putL x L) p n := by
 obtain ⟨y, hy, e, hn⟩ := h
 obtain ⟨z, hz, ⟨e1, e2, e3, e4⟩, en⟩ := pput_keep x hy
 exact ⟨z, hz, by rw [e1, e2, e3, e4]; exact e, by omega⟩
theorem VH.putR {L : List Vx.It} {key : Nat} {n : Int} (h : VH L key n) (k : Nat) (m most : Int) : VH (Vx.putR k m most L).2 key n := by
 unfold Vx.putR
 (repeat' split) <;> first | exact h | exact h.put _
theorem PH.putR {L : List Py.It} {s : Sp} {n : Int} (h : PH L s n) (a b : Nat) (p q : Bool) (m most : Int) : PH (Py.putR a b p q m most L).2 s n := by
 unfold Py.putR
 (repeat' split) <;> first | exact h | exact h.put _
theorem vputR_new {L : List Vx.It} {k : Nat} {m most : Int} (h : (Vx.putR k m most L).1 = 0) : VH (Vx.putR k m most L).2 k m := by
 have H : VH (Vx.putL ⟨Fl.canon k, m⟩ L) k m := by
  obtain ⟨z, hz, e, n⟩ := vput_new ⟨Fl.canon k, m⟩ L
  exact ⟨z, hz, e.trans (Fl.code_canon k), n⟩
 unfold Vx.putR at h ⊢
 (repeat' split) <;> first | exact H | (simp_all; done)
theorem pputR_new {L : List Py.It} {s : Sp} {m most : Int} (ha : Fl.W s.a) (hb : Fl.W s.b) (g : Py.Good L) (h : (Py.putR s.a s.b s.p s.q m most L).1 = 0) : PH (Py.putR s.a s.b s.p s.q m most L).2 s m := by
 have g2 := Py.put_good (p := s.p) (q := s.q) (n := m) (most := most) ha hb g
 have H : Fl.csE s.a s.b s.p s.q = false → ¬ (m < 1 ∨ 1099511627776 < m) → Py.Good (Py.putL ⟨Fl.csU s.a s.b s.p s.q, Fl.csV s.a s.b s.p s.q, false, false, m⟩ L) → PH (Py.putL ⟨Fl.csU s.a s.b s.p s.q, Fl.csV s.a s.b s.p s.q, false, false, m⟩ L) s m := fun e hr g3 => by
  obtain ⟨z, hz, ek, n⟩ := pput_new ⟨Fl.csU s.a s.b s.p s.q, Fl.csV s.a s.b s.p s.q, false, false, m⟩ L
  have fo := Fl.cs_isForm s.a s.b s.p s.q ha hb
  rw [e] at fo
  have ox : Py.Okp ⟨Fl.csU s.a s.b s.p s.q, Fl.csV s.a s.b s.p s.q, false, false, m⟩ := ⟨fo, rfl, rfl, by show 1 ≤ m; omega, by show m ≤ 1099511627776; omega⟩
  exact ⟨z, hz, fun k => (kc_same (g3.2 z hz) ox ek k).trans (hasB_form _ _ _ _ ha hb e k), n⟩
 unfold Py.putR at h g2 ⊢
 by_cases e : Fl.csE s.a s.b s.p s.q = true
 ·rw [if_pos e] at h; exact absurd h (by show ¬ ((41 : Int) = 0); decide)
 rw [if_neg e] at h g2 ⊢
 by_cases r : m < 1 ∨ 1099511627776 < m
 ·rw [if_pos r] at h; exact absurd h (by show ¬ ((43 : Int) = 0); decide)
 rw [if_neg r] at h g2 ⊢
 have H' := H (by simpa using e) r
 by_cases t : Py.there (Py.skc s.a s.b s.p s.q) L = true
 ·rw [if_pos t] at g2 ⊢; exact H' g2
 rw [if_neg t] at h g2 ⊢
 by_cases f : most ≤ (L.length : Int)
 ·rw [if_pos f] at h; exact absurd h (by show ¬ ((3 : Int) = 0); decide)
 ·rw [if_neg f] at g2 ⊢; exact H' g2
theorem VH.putV {key : Nat} {n m most : Int} : ∀ (ks : List Nat) {L : List Vx.It}, VH L key n → VH (putV m most ks L).2 key n
 | [], _, h => h
 | k :: r, L, h => by
  have h1 := h.putR k m most
  show VH (Go.Proofs.YtgeinnaljlajoaaGreat.putV m most (k :: r) L).2 key n
  unfold Go.Proofs.YtgeinnaljlajoaaGreat.putV
  split
  ·exact VH.putV r h1
  ·exact h1
theorem PH.putP {s : Sp} {n m most : Int} : ∀ (ks : List Sp) {L : List Py.It}, PH L s n → PH (putP m most ks L).2 s n
 | [], _, h => h
 | k :: r, L, h => by
  have h1 := h.putR k.a k.b k.p k.q m most
  show PH (Go.Proofs.YtgeinnaljlajoaaGreat.putP m most (k :: r) L).2 s n
  unfold Go.Proofs.YtgeinnaljlajoaaGreat.putP
  split
  ·exact PH.putP r h1
  ·exact h1
theorem vputV_new {m most : Int} : ∀ (ks : List Nat) {L : List Vx.It}, (putV m most ks L).1 = true → ∀ k ∈ ks, VH (putV m most ks L).2 k m
 | [], _, _, k, hk => by cases hk
 | k :: r, L, h, x, hx => by
  unfold putV at h ⊢
  split
  ·rename_i e
   rw [if_pos e] at h
   rcases List.mem_cons.1 hx with rfl | q
   ·exact VH.putV r (vputR_new e)
   ·exact vputV_new r h x q
  ·rename_i e
   rw [if_neg e] at h
   cases h
theorem pputP_new {m most : Int} : ∀ (ks : List Sp) {L : List Py.It}, (∀ s ∈ ks, Fl.W s.a ∧ Fl.W s.b) → Py.Good L → (putP m most ks L).1 = true → ∀ s ∈ ks, PH (putP m most ks L).2 s m
 | [], _, _, _, _, k, hk => by cases hk
 | k :: r, L, hw, g, h, x, hx => by
  have h0 := hw k (by simp)
  have g1 := Py.put_good (p := k.p) (q := k.q) (n := m) (most := most) h0.1 h0.2 g
  unfold putP at h ⊢
  split
  ·rename_i e
   rw [if_pos e] at h
   rcases List.mem_cons.1 hx with rfl | q
   ·exact PH.putP r (pputR_new h0.1 h0.2 g e)
   ·exact pputP_new r (fun y z => hw y (by simp [z])) g1 h x q
  ·rename_i e
   rw [if_neg e] at h
   cases h
structure Hld (t : Tb) (d : Kp) : Prop where
 w : ∀ k ∈ d.u.W, VH t.lw k d.n
 m : d.o = true → ∀ k ∈ d.u.W, VH t.lm k d.n
 r : ∀ k ∈ d.u.R, VH t.lr k d.n
 s : ∀ p ∈ d.u.P, PH t.ls p d.n
theorem andT_T {a : Bool × Tb} {f : Tb → Bool × Tb} (h : (andT a f).1 = true) : a.1 = true ∧ andT a f = f a.2 := by
 unfold andT at h ⊢
 split
 ·rename_i e; exact ⟨e, rfl⟩
 ·rename_i e; rw [if_neg e] at h; exact absurd h e
theorem Hld.sum {t : Tb} {d : Kp} (h : Hld t d) (most : Int) (k : Kp) : Hld (sumT most k t).2 d := by
 have A : ∀ {a : Bool × Tb} {f : Tb → Bool × Tb}, Hld a.2 d → (∀ t, Hld t d → Hld (f t).2 d) → Hld (andT a f).2 d := fun ha hf => by
  unfold andT
  split
  ·exact hf _ ha
  ·exact ha
 refine A (A (A ⟨fun x q => (h.w x q).putV _, h.m, h.r, h.s⟩ fun t ht => ⟨ht.w, ht.m, fun x q => (ht.r x q).putV _, ht.s⟩) fun t ht => ⟨ht.w, ht.m, ht.r, fun x q => (ht.s x q).putP _⟩) fun t ht => ?_
 by_cases ho : k.o = true
 ·rw [if_pos ho]; exact ⟨ht.w, fun o x q => (ht.m o x q).putV _, ht.r, ht.s⟩
 ·rw [if_neg ho]; exact ht
theorem Hld.new {t : Tb} {most : Int} {k : Kp} (ok : TbOk most t) (f : k.u.F) (h : (sumT most k t).1 = true) : Hld (sumT most k t).2 k := by
 unfold sumT at h ⊢
 obtain ⟨h3, e3⟩ := andT_T h
 rw [e3] at h ⊢
 obtain ⟨h2, e2⟩ := andT_T h3
 rw [e2] at h3 h ⊢
 obtain ⟨h1, e1⟩ := andT_T h2
 rw [e1] at h2 h3 h ⊢
 have o1 := sumR_ok (sumW_ok (k := k) ok f) f
 have a : ∀ x ∈ k.u.W, VH (sumP most k (sumR most k (sumW most k t).2).2).2.lw x k.n := vputV_new k.u.W (show (putV k.n most k.u.W t.lw).1 = true from h1)
 have b : ∀ x ∈ k.u.R, VH (sumP most k (sumR most k (sumW most k t).2).2).2.lr x k.n := vputV_new k.u.R (show (putV k.n most k.u.R (sumW most k t).2.lr).1 = true from h2)
 have c : ∀ p ∈ k.u.P, PH (sumP most k (sumR most k (sumW most k t).2).2).2.ls p k.n := pputP_new k.u.P f.2.1 o1.gs (show (putP k.n most k.u.P (sumR most k (sumW most k t).2).2.ls).1 = true from h3)
 by_cases ho : k.o = true
 ·rw [if_pos ho] at h ⊢
  exact ⟨a, fun _ => vputV_new k.u.W h, b, c⟩
 ·rw [if_neg ho]
  exact ⟨a, fun z => absurd z ho, b, c⟩
theorem fold_ge {α : Type} (f : α → Int) : ∀ (L : List α) (a : Int), a ≤ L.foldl (fun n x => max n (f x)) a ∧ ∀ x ∈ L, f x ≤ L.foldl (fun n x => max n (f x)) a
 | [], a => ⟨Int.le_refl _, fun x q => nomatch q⟩
 | y :: r, a => by
  have h := fold_ge f r (max a (f y))
  refine ⟨by show a ≤ r.foldl _ (max a (f y)); have := h.1; omega, fun x q => ?_⟩
  show f x ≤ r.foldl _ (max a (f y))
  rcases List.mem_cons.1 q with rfl | z
  ·have := h.1; omega
  ·exact h.2 x z
theorem vat_ge {L : List Vx.It} (g : Vx.Good L) {key k : Nat} {n : Int} (h : VH L key n) (e : Fl.code k = Fl.code key) : n ≤ Vx.atL (Fl.code k) L := by
 obtain ⟨z, hz, ez, hn⟩ := h
 rw [e, ← ez, Vx.atL_mem L g.1 z hz]
 exact hn
theorem vover_in (h : Nat → Bool) (L : List Vx.It) : ∀ k i, i < k → k ≤ L.length → h (Vx.atI L i).k = true → (Vx.atI L i).n ≤ Vx.overT h L k
 | 0, i, hi, _, _ => by omega
 | k + 1, i, hi, hk, hh => by
  unfold Vx.overT
  by_cases e : i = k
  ·subst e; rw [if_pos hh]; omega
  ·have := vover_in h L k i (by omega) (by omega) hh
   split <;> omega
theorem pover_in (c : Nat) (L : List Py.It) : ∀ k i, i < k → k ≤ L.length → Py.hasB (Py.atI L i).a (Py.atI L i).b (Py.atI L i).p (Py.atI L i).q c = true → (Py.atI L i).n ≤ Py.overT c L k
 | 0, i, hi, _, _ => by omega
 | k + 1, i, hi, hk, hh => by
  unfold Py.overT
  by_cases e : i = k
  ·subst e; rw [if_pos hh]; omega
  ·have := pover_in c L k i (by omega) (by omega) hh
   split <;> omega
theorem vover_ge {L : List Vx.It} {s : Sp} {key : Nat} {n : Int} (h : VH L key n) (e : Fl.hasS s key = true) : n ≤ Vx.overT (Vx.hasB s.a s.b s.p s.q) L L.length := by
 obtain ⟨z, hz, ez, hn⟩ := h
 obtain ⟨j, hj, rfl⟩ := List.getElem_of_mem hz
 have q := vover_in (Vx.hasB s.a s.b s.p s.q) L L.length j hj (Nat.le_refl _) (by rw [Vx.atI_get L j hj]; rw [← hasS_code (x := L[j].k) (k := key) ez] at e; exact e)
 rw [Vx.atI_get L j hj] at q
 omega
theorem pover_ge {L : List Py.It} {p : Sp} {k : Nat} {n : Int} (h : PH L p n) (e : Fl.hasS p k = true) : n ≤ Py.overT k L L.length := by
 obtain ⟨z, hz, ez, hn⟩ := h
 obtain ⟨j, hj, rfl⟩ := List.getElem_of_mem hz
 have q := pover_in k L L.length j hj (Nat.le_refl _) (by rw [Py.atI_get L j hj, ez]; exact e)
 rw [Py.atI_get L j hj] at q
 omega
theorem rdU_ge {L : List Vx.It} (g : Vx.Good L) {u d : Su} {n : Int} (h : ∀ k ∈ d.W, VH L k n) (e : meetU u d = true) : n ≤ rdU u L := by
 obtain ⟨k, hk, hr⟩ := List.any_eq_true.1 e
 have hv := h k hk
 unfold rdU
 rcases (readU_iff u k).1 hr with q | ⟨p, hp, q⟩
 ·obtain ⟨x, hx, y⟩ := List.any_eq_true.1 q
  have c := ((keyEq_iff x k).1 y).2.2
  have := (fold_ge (fun k => Vx.atL (Fl.code k) L) u.R 0).2 x hx
  have z := vat_ge g hv (k := x) c.symm
  unfold gA
  omega
 ·have := (fold_ge (fun s : Sp => Vx.overT (Vx.hasB s.a s.b s.p s.q) L L.length) u.P 0).2 p hp
  have z := vover_ge hv q
  unfold gO
  omega
theorem gW_ge {L : List Vx.It} (g : Vx.Good L) {u d : Su} {n : Int} (h : ∀ k ∈ d.W, VH L k n) (e : bwU u d = true) : n ≤ gA L u.W := by
 obtain ⟨k, hk, hr⟩ := List.any_eq_true.1 e
 obtain ⟨x, hx, y⟩ := List.any_eq_true.1 hr
 have c := ((keyEq_iff x k).1 y).2.2
 have := (fold_ge (fun k => Vx.atL (Fl.code k) L) u.W 0).2 k hk
 have z := vat_ge g (h x hx) (k := k) c
 unfold gA
 omega
theorem gR_ge {t : Tb} (g : Vx.Good t.lr) {u : Su} {d : Kp} (h : Hld t d) (e : meetU d.u u = true) : d.n ≤ max (gA t.lr u.W) (gP t.ls u.W) := by
 obtain ⟨k, hk, hr⟩ := List.any_eq_true.1 e
 rcases (readU_iff d.u k).1 hr with q | ⟨p, hp, q⟩
 ·obtain ⟨x, hx, y⟩ := List.any_eq_true.1 q
  have c := ((keyEq_iff x k).1 y).2.2
  have := (fold_ge (fun k => Vx.atL (Fl.code k) t.lr) u.W 0).2 k hk
  have z := vat_ge g (h.r x hx) (k := k) c
  unfold gA
  omega
 ·have := (fold_ge (fun k => Py.overT k t.ls t.ls.length) u.W 0).2 k hk
  have z := pover_ge (h.s p hp) q
  unfold gP
  omega
end Go.Proofs.YtgeinnaljlajoaaGreat
