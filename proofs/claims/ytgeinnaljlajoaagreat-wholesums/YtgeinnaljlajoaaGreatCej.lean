/- What the tables say is of transactions that have committed; who is free commits, plainly; no condition. -/
import Derived.Test.YtgeinnaljlajoaaGreatCei
namespace Go.Proofs.YtgeinnaljlajoaaGreat
open Go.RowKit Go.Lib
set_option linter.unusedVariables false
set_option linter.unusedSimpArgs false
set_option maxRecDepth 20000
theorem vputR_all {key : Nat} {n most : Int} {L : List Vx.It} {Q : Vx.It → Prop} (hk : Fl.W key) (g : Vx.Good L) (h : ∀ x ∈ L, Q x) (hn : Fl.nan key = false → ∀ z : Vx.It, Fl.nan z.k = false → Fl.code z.k = Fl.code key → z.n = n → Q z) : ∀ x ∈ (Vx.putR key n most L).2, Q x := by
 have H : Fl.nan key = false → ∀ z ∈ Vx.putL ⟨Fl.canon key, n⟩ L, Q z := fun e z hz => by
  rcases Vx.mem_put _ L z hz with rfl | q | ⟨y, hy, ky, rfl⟩
  ·exact hn e _ (by rw [Fl.nan_canon]; exact e) (Fl.code_canon key) rfl
  ·exact h z q
  ·by_cases c : n ≤ y.n
   ·rw [show max y.n (⟨Fl.canon key, n⟩ : Vx.It).n = y.n from by show max y.n n = y.n; omega, Vx.with_n]
    exact h y hy
   ·rw [show max y.n (⟨Fl.canon key, n⟩ : Vx.It).n = n from by show max y.n n = n; omega]
    exact hn e _ (g.2 y hy).2.1 (show Fl.code y.k = _ from ky.trans (Fl.code_canon key)) rfl
 unfold Vx.putR
 by_cases e : Fl.nan key = true
 ·rw [if_pos e]; exact h
 ·rw [if_neg e]
  have H' := H (by simpa using e)
  (repeat' split) <;> first | exact H' | exact h
theorem vputV_all {n most : Int} {Q : Vx.It → Prop} : ∀ (ks : List Nat) {L : List Vx.It}, (∀ k ∈ ks, Fl.W k) → Vx.Good L → (∀ x ∈ L, Q x) → (∀ key ∈ ks, Fl.nan key = false → ∀ z : Vx.It, Fl.nan z.k = false → Fl.code z.k = Fl.code key → z.n = n → Q z) → ∀ x ∈ (putV n most ks L).2, Q x
 | [], _, _, _, h, _ => h
 | k :: r, L, hk, g, h, hn => by
  have g1 := Vx.put_good (n := n) (most := most) (hk k (by simp)) g
  have h1 := vputR_all (most := most) (hk k (by simp)) g h (hn k (by simp))
  unfold putV
  split
  ·exact vputV_all r (fun x q => hk x (by simp [q])) g1 h1 (fun x q => hn x (by simp [q]))
  ·exact h1
theorem pputR_all {a b : Nat} {p q : Bool} {n most : Int} {L : List Py.It} {Q : Py.It → Prop} (ha : Fl.W a) (hb : Fl.W b) (hr : ¬ (n < 1 ∨ 1099511627776 < n)) (g : Py.Good L) (h : ∀ x ∈ L, Q x) (hn : Fl.csE a b p q = false → ∀ z : Py.It, (∀ k, Py.hasB z.a z.b z.p z.q k = Fl.hasS ⟨a, b, p, q⟩ k) → z.n = n → Q z) : ∀ x ∈ (Py.putR a b p q n most L).2, Q x := by
 have H : Fl.csE a b p q = false → ∀ z ∈ Py.putL ⟨Fl.csU a b p q, Fl.csV a b p q, false, false, n⟩ L, Q z := fun e z hz => by
  have hf := hasB_form a b p q ha hb e
  rcases Py.mem_put _ L z hz with rfl | w | ⟨y, hy, ky, rfl⟩
  ·exact hn e _ hf rfl
  ·exact h z w
  ·by_cases c : n ≤ y.n
   ·rw [show max y.n (⟨Fl.csU a b p q, Fl.csV a b p q, false, false, n⟩ : Py.It).n = y.n from by show max y.n n = y.n; omega, Py.with_n]
    exact h y hy
   ·rw [show max y.n (⟨Fl.csU a b p q, Fl.csV a b p q, false, false, n⟩ : Py.It).n = n from by show max y.n n = n; omega]
    have fo := Fl.cs_isForm a b p q ha hb
    rw [e] at fo
    have ox : Py.Okp ⟨Fl.csU a b p q, Fl.csV a b p q, false, false, n⟩ := ⟨fo, rfl, rfl, by show 1 ≤ n; omega, by show n ≤ 1099511627776; omega⟩
    exact hn e _ (fun k => (kc_same (g.2 y hy) ox ky k).trans (hf k)) rfl
 unfold Py.putR
 by_cases e : Fl.csE a b p q = true
 ·rw [if_pos e]; exact h
 ·rw [if_neg e]
  have H' := H (by simpa using e)
  (repeat' split) <;> first | exact H' | exact h
theorem pputP_all {n most : Int} {Q : Py.It → Prop} (hr : ¬ (n < 1 ∨ 1099511627776 < n)) : ∀ (ks : List Sp) {L : List Py.It}, (∀ s ∈ ks, Fl.W s.a ∧ Fl.W s.b) → Py.Good L → (∀ x ∈ L, Q x) → (∀ s ∈ ks, ∀ z : Py.It, (∀ k, Py.hasB z.a z.b z.p z.q k = Fl.hasS s k) → z.n = n → Q z) → ∀ x ∈ (putP n most ks L).2, Q x
 | [], _, _, _, h, _ => h
 | s :: r, L, hk, g, h, hn => by
  have h0 := hk s (by simp)
  have g1 := Py.put_good (p := s.p) (q := s.q) (n := n) (most := most) h0.1 h0.2 g
  have h1 := pputR_all (most := most) h0.1 h0.2 hr g h (fun _ => hn s (by simp))
  unfold putP
  split
  ·exact pputP_all hr r (fun x q => hk x (by simp [q])) g1 h1 (fun x q => hn x (by simp [q]))
  ·exact h1
structure Snd (D : List Kp) (t : Tb) : Prop where
 w : ∀ x ∈ t.lw, ∃ d ∈ D, d.n = x.n ∧ writeU d.u x.k = true
 m : ∀ x ∈ t.lm, ∃ d ∈ D, d.n = x.n ∧ writeU d.u x.k = true
 r : ∀ x ∈ t.lr, ∃ d ∈ D, d.n = x.n ∧ rdK d.u x.k = true
 s : ∀ x ∈ t.ls, ∃ d ∈ D, d.n = x.n ∧ ∃ p ∈ d.u.P, ∀ k, Py.hasB x.a x.b x.p x.q k = Fl.hasS p k
theorem snd0 (D : List Kp) : Snd D ⟨[], [], [], []⟩ := ⟨(fun x q => nomatch q), (fun x q => nomatch q), (fun x q => nomatch q), (fun x q => nomatch q)⟩
theorem Snd.mono {D E : List Kp} {t : Tb} (h : Snd D t) (s : ∀ d ∈ D, d ∈ E) : Snd E t :=
 ⟨fun x q => by obtain ⟨d, a, b⟩ := h.w x q; exact ⟨d, s d a, b⟩, fun x q => by obtain ⟨d, a, b⟩ := h.m x q; exact ⟨d, s d a, b⟩, fun x q => by obtain ⟨d, a, b⟩ := h.r x q; exact ⟨d, s d a, b⟩, fun x q => by obtain ⟨d, a, b⟩ := h.s x q; exact ⟨d, s d a, b⟩⟩
theorem writeU_of {u : Su} {key k : Nat} (h : key ∈ u.W) (a : Fl.nan key = false) (b : Fl.nan k = false) (c : Fl.code k = Fl.code key) : writeU u k = true := List.any_eq_true.2 ⟨key, h, (keyEq_iff key k).2 ⟨a, b, c⟩⟩
theorem rdK_of {u : Su} {key k : Nat} (h : key ∈ u.R) (a : Fl.nan key = false) (b : Fl.nan k = false) (c : Fl.code k = Fl.code key) : rdK u k = true := List.any_eq_true.2 ⟨key, h, (keyEq_iff key k).2 ⟨a, b, c⟩⟩
theorem andT_both {most : Int} {P : Tb → Prop} {a : Bool × Tb} {f : Tb → Bool × Tb} (h : TbOk most a.2 ∧ P a.2) (hf : ∀ t, TbOk most t → P t → TbOk most (f t).2 ∧ P (f t).2) : TbOk most (andT a f).2 ∧ P (andT a f).2 := by
 unfold andT
 split
 ·exact hf _ h.1 h.2
 ·exact h
theorem sumT_snd {D : List Kp} {most : Int} {k : Kp} {t : Tb} (ok : TbOk most t) (f : k.u.F) (hr : ¬ (k.n < 1 ∨ 1099511627776 < k.n)) (hk : k ∈ D) (h : Snd D t) : Snd D (sumT most k t).2 := by
 have hw : ∀ key ∈ k.u.W, Fl.nan key = false → ∀ z : Vx.It, Fl.nan z.k = false → Fl.code z.k = Fl.code key → z.n = k.n → ∃ d ∈ D, d.n = z.n ∧ writeU d.u z.k = true := fun key q a z b c e => ⟨k, hk, e.symm, writeU_of q a b c⟩
 refine (andT_both (P := Snd D) (andT_both (P := Snd D) (andT_both (P := Snd D) ⟨sumW_ok ok f, ⟨vputV_all k.u.W f.2.2 ok.gw h.w hw, h.m, h.r, h.s⟩⟩ fun t o s => ⟨sumR_ok o f, ⟨s.w, s.m, ?_, s.s⟩⟩) fun t o s => ⟨sumP_ok o f, ⟨s.w, s.m, s.r, ?_⟩⟩) fun t o s => ?_).2
 ·exact vputV_all k.u.R f.1 o.gr s.r fun key q a z b c e => ⟨k, hk, e.symm, rdK_of q a b c⟩
 ·exact pputP_all hr k.u.P f.2.1 o.gs s.s fun p q z b e => ⟨k, hk, e.symm, p, q, b⟩
 ·by_cases ho : k.o = true
  ·rw [if_pos ho]; exact ⟨sumM_ok o f, s.w, vputV_all k.u.W f.2.2 o.gm s.m hw, s.r, s.s⟩
  ·rw [if_neg ho]; exact ⟨o, s⟩
theorem fold_leM {α : Type} (f : α → Int) (B : Int) : ∀ (L : List α) (a : Int), (∀ x ∈ L, f x ≤ B) → a ≤ B → L.foldl (fun n x => max n (f x)) a ≤ B
 | [], a, _, ha => ha
 | x :: r, a, h, ha => fold_leM f B r (max a (f x)) (fun y q => h y (by simp [q])) (by have := h x (by simp); omega)
theorem vat_leQ {B : Int} (hB : 0 ≤ B) (c : Nat) : ∀ (L : List Vx.It), (∀ x ∈ L, Vx.kc x = c → x.n ≤ B) → Vx.atL c L ≤ B
 | [], _ => hB
 | y :: t, h => by
  unfold Vx.atL
  split
  ·rename_i e; exact h y (by simp) e
  ·exact vat_leQ hB c t (fun x q => h x (by simp [q]))
theorem vover_leQ {B : Int} (hB : 0 ≤ B) (h : Nat → Bool) (L : List Vx.It) (hL : ∀ x ∈ L, h x.k = true → x.n ≤ B) : ∀ k, k ≤ L.length → Vx.overT h L k ≤ B
 | 0, _ => hB
 | k + 1, hk => by
  have i1 := vover_leQ hB h L hL k (by omega)
  unfold Vx.overT
  split
  ·rename_i e
   rw [Vx.atI_get L k (by omega)] at e ⊢
   have := hL _ (List.getElem_mem _) e
   omega
  ·exact i1
theorem pover_leQ {B : Int} (hB : 0 ≤ B) (c : Nat) (L : List Py.It) (hL : ∀ x ∈ L, Py.hasB x.a x.b x.p x.q c = true → x.n ≤ B) : ∀ k, k ≤ L.length → Py.overT c L k ≤ B
 | 0, _ => hB
 | k + 1, hk => by
  have i1 := pover_leQ hB c L hL k (by omega)
  unfold Py.overT
  split
  ·rename_i e
   rw [Py.atI_get L k (by omega)] at e ⊢
   have := hL _ (List.getElem_mem _) e
   omega
  ·exact i1
def apU (a b : Su) : Bool := !(a.W.any fun k => readU b k || writeU b k) && !meetU a b
theorem ap_key {a b : Su} (h : apU a b = true) {k : Nat} (hk : k ∈ a.W) : readU b k = false ∧ writeU b k = false := by
 unfold apU at h
 simp only [Bool.and_eq_true, Bool.not_eq_true', List.any_eq_false, Bool.or_eq_true, not_or, Bool.not_eq_true] at h
 exact h.1 k hk
theorem ap_meet {a b : Su} (h : apU a b = true) : meetU a b = false := by
 unfold apU at h
 simp only [Bool.and_eq_true, Bool.not_eq_true'] at h
 exact h.2
structure Hst (D : List Kp) (c : Cp) : Prop where
 ok : CpOk c
 ff : ∀ k ∈ c.rc, k.u.F
 sn : Snd D c.tb
 sub : ∀ k ∈ c.rc, k ∈ D
 cn : c.cnt = (D.length : Int)
theorem Hst.new (k o : Int) : Hst [] (newC k o) := ⟨(new_ok k o).1, (new_ok k o).2, snd0 _, (fun x q => nomatch q), rfl⟩
theorem write_any {d : Su} {k : Nat} (h : writeU d k = true) : ∃ key ∈ d.W, Fl.nan key = false ∧ Fl.code key = Fl.code k := by
 obtain ⟨key, q, e⟩ := List.any_eq_true.1 h
 obtain ⟨a, b, c⟩ := (keyEq_iff key k).1 e
 exact ⟨key, q, a, c.symm⟩
theorem free_met {D : List Kp} {c : Cp} (h : Hst D c) (u : Su) (h0 : 0 ≤ u.s3) (fr : ∀ d ∈ D, d.n ≤ u.s3 ∨ apU d.u u = true) : metC c u = ⟨false, false, 0, 0⟩ := by
 have hW : ∀ L : List Vx.It, Vx.Good L → (∀ x ∈ L, ∃ d ∈ D, d.n = x.n ∧ writeU d.u x.k = true) → gA L u.W ≤ u.s3 ∧ rdU u L ≤ u.s3 := fun L g s => by
  have one : ∀ x ∈ L, ∀ P : Prop, (∀ key, Fl.nan key = false → Fl.code key = Fl.code x.k → readU u key = false ∧ writeU u key = false → P) → x.n ≤ u.s3 ∨ P := fun x hx P hP => by
   obtain ⟨d, hd, e, w⟩ := s x hx
   rcases fr d hd with q | q
   ·exact .inl (by omega)
   ·obtain ⟨key, hk, a, b⟩ := write_any w
    exact .inr (hP key a b (ap_key q hk))
  refine ⟨fold_leM _ _ _ _ (fun k hk => vat_leQ h0 _ L fun x hx e => ?_) h0, ?_⟩
  ·rcases one x hx False (fun key a b z => by
     have nk := nan_of (g.2 x hx).1 (g.2 x hx).2.1 e
     rw [writeU_of hk nk a (b.trans e)] at z
     exact absurd z.2 (by simp)) with q | q
   ·exact q
   ·exact q.elim
  ·have A : gA L u.R ≤ u.s3 := fold_leM _ _ _ _ (fun k hk => vat_leQ h0 _ L fun x hx e => by
     rcases one x hx False (fun key a b z => by
      have nk := nan_of (g.2 x hx).1 (g.2 x hx).2.1 e
      rw [(readU_iff u key).2 (.inl (rdK_of hk nk a (b.trans e)))] at z
      exact absurd z.1 (by simp)) with q | q
     ·exact q
     ·exact q.elim) h0
   have B : gO L u.P ≤ u.s3 := fold_leM _ _ _ _ (fun p hp => vover_leQ h0 _ L (fun x hx e => by
    rcases one x hx False (fun key a b z => by
     rw [(readU_iff u key).2 (.inr ⟨p, hp, by rw [hasS_code b]; exact e⟩)] at z
     exact absurd z.1 (by simp)) with q | q
    ·exact q
    ·exact q.elim) _ (Nat.le_refl _)) h0
   unfold rdU
   omega
 have w := hW c.lw h.ok.gw h.sn.w
 have m := hW c.lm h.ok.gm h.sn.m
 have one : ∀ d ∈ D, ∀ k ∈ u.W, readU d.u k = true → d.n ≤ u.s3 := fun d hd k hk e => by
  rcases fr d hd with q | q
  ·exact q
  ·have := ap_meet q
   rw [show meetU d.u u = true from List.any_eq_true.2 ⟨k, hk, e⟩] at this
   cases this
 have r : gA c.lr u.W ≤ u.s3 := fold_leM _ _ _ _ (fun k hk => vat_leQ h0 _ _ fun x hx e => by
  obtain ⟨d, hd, en, z⟩ := h.sn.r x hx
  obtain ⟨key, q, y⟩ := List.any_eq_true.1 z
  obtain ⟨a, b, c'⟩ := (keyEq_iff key x.k).1 y
  have nk := nan_of (h.ok.gr.2 x hx).1 (h.ok.gr.2 x hx).2.1 e
  rw [← en]
  exact one d hd k hk ((readU_iff d.u k).2 (.inl (rdK_of q a nk ((show Fl.code x.k = Fl.code k from e).symm.trans c'))))) h0
 have s : gP c.ls u.W ≤ u.s3 := fold_leM _ _ _ _ (fun k hk => pover_leQ h0 _ _ (fun x hx e => by
  obtain ⟨d, hd, en, p, hp, z⟩ := h.sn.s x hx
  rw [← en]
  exact one d hd k hk ((readU_iff d.u k).2 (.inr ⟨p, hp, by rw [← z k]; exact e⟩))) _ (Nat.le_refl _)) h0
 have m0 : met0T ⟨c.lw, c.lm, c.lr, c.ls⟩ u = ⟨false, false, 0, 0⟩ := by
  unfold met0T
  dsimp only
  rw [decide_eq_false (by omega), decide_eq_false (by omega), if_neg (by omega), if_neg (by omega)]
 unfold metC
 rw [m0]
 have F : ∀ (L : List Kp), (∀ k ∈ L, k ∈ D) → L.foldl (stepM u) ⟨false, false, 0, 0⟩ = ⟨false, false, 0, 0⟩ := fun L => by
  induction L with
  | nil => intro _; rfl
  | cons k t ih =>
   intro hs
   have e : stepM u ⟨false, false, 0, 0⟩ k = ⟨false, false, 0, 0⟩ := by
    unfold stepM
    split
    ·rename_i hb
     rcases fr k (hs k (by simp)) with q | q
     ·omega
     ·have b1 : bwU u k.u = false := by
        rw [bwU_comm]
        unfold bwU
        rw [List.any_eq_false]
        exact fun x hx => by rw [(ap_key q hx).2]; decide
      have b2 : meetU u k.u = false := by
       unfold meetU
       rw [List.any_eq_false]
       exact fun x hx => by rw [(ap_key q hx).1]; decide
      unfold addM
      rw [b1, b2, ap_meet q]
      rfl
    ·rfl
   show t.foldl (stepM u) (stepM u ⟨false, false, 0, 0⟩ k) = _
   rw [e]
   exact ih (fun x q => hs x (by simp [q]))
 exact F c.rc h.sub
theorem commit_hst {D : List Kp} {c : Cp} (h : Hst D c) (hm : c.cnt < 1099511627776) (u : Su) (fu : u.F) (o : Bool) : Hst (D ++ [⟨c.cnt + 1, u, o⟩]) (commitC c u o) := by
 have k := commit_ok h.ok h.ff hm fu o
 have hp : ∀ x ∈ (pushC c u o).rc, x ∈ D ++ [⟨c.cnt + 1, u, o⟩] := fun x q => by
  rcases List.mem_append.1 (show x ∈ c.rc ++ [⟨c.cnt + 1, u, o⟩] from q) with z | z
  ·exact List.mem_append_left _ (h.sub x z)
  ·exact List.mem_append_right _ z
 have sm := h.sn.mono (E := D ++ [⟨c.cnt + 1, u, o⟩]) (fun d q => List.mem_append_left _ q)
 have n1 := h.ok.n1
 refine ⟨k.1, k.2, ?_, ?_, ?_⟩
 ·unfold commitC
  split
  ·exact sm
  ·unfold dropC
   cases he : (pushC c u o).rc with
   | nil => exact sm
   | cons x r =>
    dsimp only
    have hx : x ∈ (pushC c u o).rc := by rw [he]; simp
    split
    ·refine sumT_snd (show TbOk c.most c.tb from h.ok.tb) ?_ ?_ (hp x hx) sm
     ·rcases List.mem_append.1 (show x ∈ c.rc ++ [⟨c.cnt + 1, u, o⟩] from hx) with z | z
      ·exact h.ff x z
      ·simp only [List.mem_singleton] at z; subst z; exact fu
     ·rcases List.mem_append.1 (show x ∈ c.rc ++ [⟨c.cnt + 1, u, o⟩] from hx) with z | z
      ·have := h.ok.num x z; omega
      ·simp only [List.mem_singleton] at z; subst z; dsimp only; omega
    ·exact snd0 _
 ·unfold commitC
  split
  ·exact hp
  ·unfold dropC
   cases he : (pushC c u o).rc with
   | nil => exact fun x q => hp x (by rw [he] at q ⊢; exact q)
   | cons x r =>
    dsimp only
    rw [he] at hp
    split
    ·exact fun y q => hp y (by simp [show y ∈ r from q])
    ·exact fun y q => hp y (by simp [show y ∈ r from q])
 ·rw [commit_cnt, h.cn]
  simp
theorem Hst.free {D : List Kp} {c : Cp} (h : Hst D c) (hm : c.cnt < 1099511627776) (u : Su) (h1 : c.hor ≤ u.s3) (h2 : u.s3 ≤ c.cnt) (fr : ∀ d ∈ D, d.n ≤ u.s3 ∨ apU d.u u = true) : (decC c u 0).1 = 0 := by
 have a := h.ok.h1
 have m := free_met h u (by omega) fr
 have e : faultC c u 0 = 0 := by
  unfold faultC
  rw [if_neg (by decide), if_neg (by omega), if_neg (by omega), if_neg (by omega)]
 unfold decC
 rw [e, m, if_neg (by decide), if_neg (by decide), if_neg (by decide)]
theorem Hst.dec {D : List Kp} {c : Cp} (h : Hst D c) (u : Su) (fu : u.F) (ck : Int) : ((decC c u ck).1 ≠ 0 → (decC c u ck).2.1 = 0 ∧ (decC c u ck).2.2 = c) ∧ ((decC c u ck).1 = 0 → (decC c u ck).2.1 = (D.length : Int) + 1 ∧ ∃ o, Hst (D ++ [⟨(D.length : Int) + 1, u, o⟩]) (decC c u ck).2.2) := by
 unfold decC
 by_cases h1 : faultC c u ck ≠ 0
 ·rw [if_pos h1]; exact ⟨fun _ => ⟨rfl, rfl⟩, fun q => absurd q h1⟩
 rw [if_neg h1]
 split
 ·exact ⟨fun _ => ⟨rfl, rfl⟩, fun q => absurd (show (111 : Int) = 0 from q) (by decide)⟩
 split
 ·exact ⟨fun _ => ⟨rfl, rfl⟩, fun q => absurd (show (112 : Int) = 0 from q) (by decide)⟩
 ·refine ⟨fun q => absurd rfl q, fun _ => ⟨by show c.cnt + 1 = _; rw [h.cn], decide (0 < (metC c u).f), ?_⟩⟩
  have hm : c.cnt < 1099511627776 := by
   have := h.ok.n2
   by_cases q : 1099511627776 ≤ c.cnt
   ·exfalso
    apply h1
    unfold faultC
    by_cases q2 : ck ≠ 0
    ·rw [if_pos q2]; exact q2
    ·rw [if_neg q2, if_pos q]; decide
   ·omega
  have := commit_hst h hm u fu (decide (0 < (metC c u).f))
  rw [h.cn] at this
  exact this
end Go.Proofs.YtgeinnaljlajoaaGreat
