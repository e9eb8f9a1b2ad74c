/- No dangerous three commit, plainly; no condition. -/
import Derived.Test.YtgeinnaljlajoaaGreatCek
namespace Go.Proofs.YtgeinnaljlajoaaGreat
open Go.RowKit Go.Lib
set_option linter.unusedVariables false
set_option linter.unusedSimpArgs false
set_option maxRecDepth 20000
theorem stepM_no {u : Su} {m : Met} {k : Kp} (h : ¬ u.s3 < k.n) : stepM u m k = m := if_neg h
theorem stepM_yes {u : Su} {m : Met} {k : Kp} (h : u.s3 < k.n) : stepM u m k = addM u m k := if_pos h
theorem fold_w1 (u : Su) : ∀ (L : List Kp) (m : Met), m.w = true → (L.foldl (stepM u) m).w = true
 | [], m, h => h
 | k :: r, m, h => fold_w1 u r (stepM u m k) (by
  by_cases b : u.s3 < k.n
  ·rw [stepM_yes b]; show (m.w || bwU u k.u) = true; rw [h]; rfl
  ·rw [stepM_no b]; exact h)
theorem fold_w2 (u : Su) : ∀ (L : List Kp) (m : Met) (k : Kp), k ∈ L → u.s3 < k.n → bwU u k.u = true → (L.foldl (stepM u) m).w = true
 | [], m, k, hk, _, _ => by cases hk
 | x :: r, m, k, hk, b, e => by
  show (r.foldl (stepM u) (stepM u m x)).w = true
  rcases List.mem_cons.1 hk with rfl | q
  ·exact fold_w1 u r _ (by rw [stepM_yes b]; show (m.w || bwU u k.u) = true; rw [e, Bool.or_true])
  ·exact fold_w2 u r _ k q b e
theorem fold_m1 (u : Su) : ∀ (L : List Kp) (m : Met), m.m = true → (L.foldl (stepM u) m).m = true
 | [], m, h => h
 | k :: r, m, h => fold_m1 u r (stepM u m k) (by
  by_cases b : u.s3 < k.n
  ·rw [stepM_yes b]; show (if meetU u k.u = true then m.m || k.o else m.m) = true; rw [h]; split <;> rfl
  ·rw [stepM_no b]; exact h)
theorem fold_m2 (u : Su) : ∀ (L : List Kp) (m : Met) (k : Kp), k ∈ L → u.s3 < k.n → meetU u k.u = true → k.o = true → (L.foldl (stepM u) m).m = true
 | [], m, k, hk, _, _, _ => by cases hk
 | x :: r, m, k, hk, b, e, o => by
  show (r.foldl (stepM u) (stepM u m x)).m = true
  rcases List.mem_cons.1 hk with rfl | q
  ·exact fold_m1 u r _ (by rw [stepM_yes b]; show (if meetU u k.u = true then m.m || k.o else m.m) = true; rw [if_pos e, o, Bool.or_true])
  ·exact fold_m2 u r _ k q b e o
theorem stepM_f {u : Su} {m : Met} {k : Kp} (h : u.s3 < k.n) : (stepM u m k).f = if meetU u k.u = true ∧ m.f = 0 then k.n else m.f := by rw [stepM_yes h]; rfl
theorem stepM_l {u : Su} {m : Met} {k : Kp} (h : u.s3 < k.n) : (stepM u m k).l = if meetU k.u u = true then k.n else m.l := by rw [stepM_yes h]; rfl
theorem fold_f1 (u : Su) : ∀ (L : List Kp) (m : Met), 0 < m.f → (L.foldl (stepM u) m).f = m.f
 | [], m, h => rfl
 | k :: r, m, h => by
  have e : (stepM u m k).f = m.f := by
   by_cases b : u.s3 < k.n
   ·rw [stepM_f b, if_neg (by omega)]
   ·rw [stepM_no b]
  show (r.foldl (stepM u) (stepM u m k)).f = m.f
  rw [fold_f1 u r _ (by rw [e]; exact h), e]
theorem fold_f2 (u : Su) : ∀ (L : List Kp) (m : Met) (k : Kp), L.Pairwise (fun x y => x.n < y.n) → (∀ x ∈ L, 1 ≤ x.n) → 0 ≤ m.f → k ∈ L → u.s3 < k.n → meetU u k.u = true → 0 < (L.foldl (stepM u) m).f ∧ (m.f = 0 → (L.foldl (stepM u) m).f ≤ k.n)
 | [], m, k, _, _, _, hk, _, _ => by cases hk
 | x :: r, m, k, hp, hn, hf, hk, b, e => by
  show 0 < (r.foldl (stepM u) (stepM u m x)).f ∧ (m.f = 0 → (r.foldl (stepM u) (stepM u m x)).f ≤ k.n)
  have hx := hn x (by simp)
  rcases List.mem_cons.1 hk with rfl | q
  ·have s := stepM_f (m := m) b
   by_cases z : m.f = 0
   ·rw [if_pos ⟨e, z⟩] at s
    rw [fold_f1 u r _ (by rw [s]; omega), s]
    exact ⟨by omega, fun _ => Int.le_refl _⟩
   ·rw [if_neg (fun y => z y.2)] at s
    rw [fold_f1 u r _ (by rw [s]; omega), s]
    exact ⟨by omega, fun y => absurd y z⟩
  ·have hp2 := List.pairwise_cons.1 hp
   have xk := hp2.1 k q
   have s : (stepM u m x).f = m.f ∨ ((stepM u m x).f = x.n ∧ m.f = 0) := by
    by_cases bx : u.s3 < x.n
    ·rw [stepM_f bx]
     split
     ·rename_i y; exact .inr ⟨rfl, y.2⟩
     ·exact .inl rfl
    ·rw [stepM_no bx]; exact .inl rfl
   have ih := fold_f2 u r (stepM u m x) k hp2.2 (fun y z => hn y (by simp [z])) (by rcases s with y | y <;> omega) q b e
   refine ⟨ih.1, fun z => ?_⟩
   rcases s with y | ⟨y, _⟩
   ·exact ih.2 (by omega)
   ·rw [fold_f1 u r _ (by rw [y]; omega), y]; omega
theorem fold_l (u : Su) : ∀ (L : List Kp) (m : Met), L.Pairwise (fun x y => x.n < y.n) → (∀ x ∈ L, m.l ≤ x.n) → m.l ≤ (L.foldl (stepM u) m).l ∧ ∀ k ∈ L, u.s3 < k.n → meetU k.u u = true → k.n ≤ (L.foldl (stepM u) m).l
 | [], m, _, _ => ⟨Int.le_refl _, fun k q => nomatch q⟩
 | x :: r, m, hp, hl => by
  have hp2 := List.pairwise_cons.1 hp
  have hx := hl x (by simp)
  have s : ((stepM u m x).l = m.l ∧ ¬ (u.s3 < x.n ∧ meetU x.u u = true)) ∨ (stepM u m x).l = x.n := by
   by_cases bx : u.s3 < x.n
   ·rw [stepM_l bx]
    split
    ·exact .inr rfl
    ·rename_i y; exact .inl ⟨rfl, fun z => y z.2⟩
   ·rw [stepM_no bx]; exact .inl ⟨rfl, fun z => bx z.1⟩
  have ih := fold_l u r (stepM u m x) hp2.2 (fun y z => by
   have a := hp2.1 y z
   have b := hl y (by simp [z])
   rcases s with ⟨e, _⟩ | e <;> omega)
  show m.l ≤ (r.foldl (stepM u) (stepM u m x)).l ∧ ∀ k ∈ x :: r, u.s3 < k.n → meetU k.u u = true → k.n ≤ (r.foldl (stepM u) (stepM u m x)).l
  refine ⟨by rcases s with ⟨e, _⟩ | e <;> omega, fun k q b e => ?_⟩
  rcases List.mem_cons.1 q with rfl | z
  ·rcases s with ⟨_, n⟩ | y
   ·exact absurd ⟨b, e⟩ n
   ·omega
  ·exact ih.2 k z b e
structure Cov (D : List Kp) (c : Cp) : Prop where
 ok : CpOk c
 ff : ∀ k ∈ c.rc, k.u.F
 num : ∀ d ∈ D, 1 ≤ d.n ∧ d.n ≤ c.cnt ∧ d.u.s3 < d.n
 asc : c.rc.Pairwise (fun x y => x.n < y.n)
 cov : ∀ d ∈ D, d.n ≤ c.hor ∨ Hld c.tb d ∨ d ∈ c.rc
 old : ∃ b, 0 ≤ b ∧ b ≤ c.cnt ∧ TbB b c.tb ∧ (∀ k ∈ c.rc, b < k.n) ∧ ∀ d ∈ D, d ∈ c.rc ∨ d.n ≤ b
theorem Cov.new (k o : Int) : Cov [] (newC k o) := ⟨(new_ok k o).1, (new_ok k o).2, (fun x q => nomatch q), List.Pairwise.nil, (fun x q => nomatch q), 0, Int.le_refl _, Int.le_refl _, tbB0 0, (fun x q => nomatch q), (fun x q => nomatch q)⟩
theorem Cov.met {D : List Kp} {c : Cp} (h : Cov D c) (u : Su) (hs : c.hor ≤ u.s3) (d : Kp) (hd : d ∈ D) (hb : u.s3 < d.n) :
    (bwU u d.u = true → (metC c u).w = true) ∧ (meetU u d.u = true → d.o = true → (metC c u).m = true) ∧ (meetU u d.u = true → 0 < (metC c u).f ∧ (metC c u).f ≤ d.n) ∧ (meetU d.u u = true → d.n ≤ (metC c u).l) := by
 have h0 := h.ok.h1
 obtain ⟨b, b0, b1, b2, b3, b4⟩ := h.old
 have hn : ∀ x ∈ c.rc, 1 ≤ x.n := fun x q => (h.ok.num x q).1
 have f0 : (met0T ⟨c.lw, c.lm, c.lr, c.ls⟩ u).f = 0 ∨ (met0T ⟨c.lw, c.lm, c.lr, c.ls⟩ u).f = u.s3 + 1 := by
  show (if _ then _ else _) = _ ∨ (if _ then _ else _) = _
  split
  ·exact .inr rfl
  ·exact .inl rfl
 have l0 : (met0T ⟨c.lw, c.lm, c.lr, c.ls⟩ u).l ≤ b := by
  have x := gA_le b0 b2.r u.W
  have y := gP_le b0 b2.s u.W
  show (if u.s3 < max (gA c.lr u.W) (gP c.ls u.W) then max (gA c.lr u.W) (gP c.ls u.W) else 0) ≤ b
  have x' : gA c.lr u.W ≤ b := x
  have y' : gP c.ls u.W ≤ b := y
  split <;> omega
 have FL := fold_l u c.rc (met0T ⟨c.lw, c.lm, c.lr, c.ls⟩ u) h.asc (fun x q => by have := b3 x q; omega)
 rcases h.cov d hd with q | q | q
 ·omega
 ·refine ⟨fun e => fold_w1 u _ _ ?_, fun e o => fold_m1 u _ _ ?_, fun e => ?_, fun e => Int.le_trans ?_ FL.1⟩
  ·have := gW_ge h.ok.gw q.w e
   exact decide_eq_true (show u.s3 < gA c.lw u.W by omega)
  ·have := rdU_ge h.ok.gm (q.m o) e
   exact decide_eq_true (show u.s3 < rdU u c.lm by omega)
  ·have := rdU_ge h.ok.gw q.w e
   have f1 : (met0T ⟨c.lw, c.lm, c.lr, c.ls⟩ u).f = u.s3 + 1 := if_pos (show u.s3 < rdU u c.lw by omega)
   have := fold_f1 u c.rc (met0T ⟨c.lw, c.lm, c.lr, c.ls⟩ u) (by omega)
   unfold metC
   omega
  ·have := gR_ge (t := c.tb) h.ok.gr q e
   have this' : d.n ≤ max (gA c.lr u.W) (gP c.ls u.W) := this
   show d.n ≤ (if u.s3 < max (gA c.lr u.W) (gP c.ls u.W) then max (gA c.lr u.W) (gP c.ls u.W) else 0)
   rw [if_pos (by omega)]
   exact this'
 ·refine ⟨fun e => fold_w2 u _ _ d q hb e, fun e o => fold_m2 u _ _ d q hb e o, fun e => ?_, fun e => FL.2 d q hb e⟩
  have := fold_f2 u c.rc (met0T ⟨c.lw, c.lm, c.lr, c.ls⟩ u) d h.asc hn (by omega) q hb e
  unfold metC
  refine ⟨this.1, ?_⟩
  rcases f0 with y | y
  ·exact this.2 y
  ·have := fold_f1 u c.rc (met0T ⟨c.lw, c.lm, c.lr, c.ls⟩ u) (by omega)
   omega
theorem Cov.commit {D : List Kp} {c : Cp} (h : Cov D c) (hm : c.cnt < 1099511627776) (u : Su) (fu : u.F) (hu : u.s3 ≤ c.cnt) (o : Bool) : Cov (D ++ [⟨c.cnt + 1, u, o⟩]) (commitC c u o) := by
 have k := commit_ok h.ok h.ff hm fu o
 have n1 := h.ok.n1
 obtain ⟨b, b0, b1, b2, b3, b4⟩ := h.old
 have hrc : (pushC c u o).rc = c.rc ++ [⟨c.cnt + 1, u, o⟩] := rfl
 have asc : (pushC c u o).rc.Pairwise (fun x y => x.n < y.n) := by
  rw [hrc, List.pairwise_append]
  refine ⟨h.asc, by simp, fun x hx y hy => ?_⟩
  simp only [List.mem_singleton] at hy
  subst hy
  have := (h.ok.num x hx).2
  show x.n < c.cnt + 1
  omega
 have num : ∀ d ∈ D ++ [⟨c.cnt + 1, u, o⟩], 1 ≤ d.n ∧ d.n ≤ c.cnt + 1 ∧ d.u.s3 < d.n := fun d hd => by
  rcases List.mem_append.1 hd with q | q
  ·have := h.num d q; omega
  ·simp only [List.mem_singleton] at q; subst q; dsimp only; omega
 have inr : ∀ d ∈ D ++ [⟨c.cnt + 1, u, o⟩], d ∈ (pushC c u o).rc ∨ (d ∈ D ∧ d.n ≤ b) := fun d hd => by
  rw [hrc]
  rcases List.mem_append.1 hd with q | q
  ·rcases b4 d q with z | z
   ·exact .inl (List.mem_append_left _ z)
   ·exact .inr ⟨q, z⟩
  ·exact .inl (List.mem_append_right _ q)
 have cov : ∀ d ∈ D ++ [⟨c.cnt + 1, u, o⟩], d.n ≤ c.hor ∨ Hld c.tb d ∨ d ∈ (pushC c u o).rc := fun d hd => by
  rw [hrc]
  rcases List.mem_append.1 hd with q | q
  ·rcases h.cov d q with z | z | z
   ·exact .inl z
   ·exact .inr (.inl z)
   ·exact .inr (.inr (List.mem_append_left _ z))
  ·exact .inr (.inr (List.mem_append_right _ q))
 have low : ∀ x ∈ (pushC c u o).rc, b < x.n ∧ x.n ≤ c.cnt + 1 := fun x q => by
  rcases List.mem_append.1 (show x ∈ c.rc ++ [⟨c.cnt + 1, u, o⟩] from q) with z | z
  ·have := b3 x z; have := (h.ok.num x z).2; omega
  ·simp only [List.mem_singleton] at z; subst z; dsimp only; omega
 have cc := commit_cnt c u o
 refine ⟨k.1, k.2, by rw [cc]; exact num, ?_, ?_, ?_⟩
 ·unfold commitC
  split
  ·exact asc
  ·unfold dropC
   cases he : (pushC c u o).rc with
   | nil => simp only [he]; exact List.Pairwise.nil
   | cons x r =>
    rw [he] at asc
    dsimp only
    split
    ·exact (List.pairwise_cons.1 asc).2
    ·exact (List.pairwise_cons.1 asc).2
 ·unfold commitC
  split
  ·exact cov
  ·unfold dropC
   cases he : (pushC c u o).rc with
   | nil => intro d hd; rcases cov d hd with z | z | z; exact .inl z; exact .inr (.inl z); rw [he] at z; cases z
   | cons x r =>
    have fx : x.u.F := by
     have : x ∈ c.rc ++ [⟨c.cnt + 1, u, o⟩] := by rw [← hrc, he]; simp
     rcases List.mem_append.1 this with z | z
     ·exact h.ff x z
     ·simp only [List.mem_singleton] at z; subst z; exact fu
    rw [he] at cov inr low
    dsimp only
    split
    ·rename_i hs
     intro d hd
     rcases cov d hd with z | z | z
     ·exact .inl z
     ·exact .inr (.inl (z.sum c.most x))
     ·rcases List.mem_cons.1 z with rfl | z
      ·exact .inr (.inl (Hld.new (show TbOk c.most c.tb from h.ok.tb) fx hs))
      ·exact .inr (.inr z)
    ·intro d hd
     rcases inr d hd with z | ⟨_, z⟩
     ·rcases List.mem_cons.1 z with rfl | z
      ·exact .inl (Int.le_refl _)
      ·exact .inr (.inr z)
     ·have := (low x (by simp)).1
      exact .inl (show d.n ≤ x.n by omega)
 ·rw [cc]
  unfold commitC
  split
  ·exact ⟨b, b0, by omega, b2, fun x q => (low x q).1, fun d hd => by rcases inr d hd with z | ⟨_, z⟩; exact .inl z; exact .inr z⟩
  ·unfold dropC
   cases he : (pushC c u o).rc with
   | nil =>
    refine ⟨b, b0, by omega, b2, fun x q => (by simp only [he] at q; cases q), fun d hd => ?_⟩
    rcases inr d hd with z | ⟨_, z⟩
    ·rw [he] at z; cases z
    ·exact .inr z
   | cons x r =>
    rw [he] at asc inr low
    have lx := low x (by simp)
    have ax := (List.pairwise_cons.1 asc).1
    have fin : ∀ d ∈ D ++ [⟨c.cnt + 1, u, o⟩], d ∈ r ∨ d.n ≤ x.n := fun d hd => by
     rcases inr d hd with z | ⟨_, z⟩
     ·rcases List.mem_cons.1 z with rfl | z
      ·exact .inr (Int.le_refl _)
      ·exact .inl z
     ·exact .inr (by omega)
    dsimp only
    split
    ·exact ⟨x.n, by omega, by omega, sumT_b (show TbB x.n c.tb from b2.mono (by omega)) (Int.le_refl _), ax, fin⟩
    ·exact ⟨x.n, by omega, by omega, tbB0 _, ax, fin⟩
def nearK (a b : Kp) : Prop := a.n ≠ b.n ∧ a.u.s3 < b.n ∧ b.u.s3 < a.n
structure Saf (D : List Kp) : Prop where
 bw : ∀ a ∈ D, ∀ b ∈ D, nearK a b → bwU a.u b.u = false
 three : ∀ a ∈ D, ∀ b ∈ D, nearK a b → meetU a.u b.u = true → ∀ d ∈ D, (nearK b d ∨ d.n = a.n) → meetU b.u d.u = true → d.n ≤ a.n → ¬ d.n < b.n
 out : ∀ b ∈ D, ∀ d ∈ D, d.n < b.n → b.u.s3 < d.n → meetU b.u d.u = true → b.o = true
theorem saf0 : Saf [] := ⟨(fun a q => nomatch q), (fun a q => nomatch q), (fun a q => nomatch q)⟩
theorem Saf.step {D : List Kp} {c : Cp} (s : Saf D) (h : Cov D c) (u : Su) (hs : c.hor ≤ u.s3) (hu : u.s3 ≤ c.cnt) (hw : (metC c u).w = false) (hd : dangM (metC c u) = false) : Saf (D ++ [⟨c.cnt + 1, u, decide (0 < (metC c u).f)⟩]) := by
 have M := fun d hd hb => h.met u hs d hd hb
 have dm : (metC c u).m = false ∧ ¬ (0 < (metC c u).f ∧ (metC c u).f ≤ (metC c u).l) := by
  unfold dangM at hd
  rw [Bool.or_eq_false_iff] at hd
  refine ⟨hd.1, fun z => ?_⟩
  have := hd.2
  rw [decide_eq_true z.1, decide_eq_true z.2] at this
  cases this
 have nb : ∀ d ∈ D, u.s3 < d.n → bwU u d.u = false := fun d q b => by
  cases e : bwU u d.u with
  | false => rfl
  | true => rw [(M d q b).1 e] at hw; cases hw
 have nd : ∀ d ∈ D, ∀ a ∈ D, u.s3 < d.n → u.s3 < a.n → meetU u d.u = true → meetU a.u u = true → ¬ d.n ≤ a.n := fun d q a r b1 b2 e1 e2 le => by
  have x := (M d q b1).2.2.1 e1
  have y := (M a r b2).2.2.2 e2
  exact dm.2 ⟨x.1, by omega⟩
 have ca : ∀ {P : Kp → Prop}, (∀ d ∈ D, P d) → P ⟨c.cnt + 1, u, decide (0 < (metC c u).f)⟩ → ∀ d ∈ D ++ [⟨c.cnt + 1, u, decide (0 < (metC c u).f)⟩], P d := fun p q d hd => by
  rcases List.mem_append.1 hd with z | z
  ·exact p d z
  ·simp only [List.mem_singleton] at z; subst z; exact q
 refine ⟨ca (fun a ha => ca (s.bw a ha) ?_) (ca (fun b hb => ?_) ?_), ca (fun a ha => ca (fun b hb n e => ca (s.three a ha b hb n e) ?_) (fun n e => ca (fun d hd q e2 le lt => ?_) ?_)) (ca (fun b hb n e => ca (fun d hd q e2 le lt => ?_) ?_) ?_), ca (fun b hb => ca (s.out b hb) ?_) (ca (fun d hd lt b e => ?_) ?_)⟩
 ·intro n
  rw [bwU_comm]
  exact nb a ha n.2.2
 ·intro n
  exact nb b hb n.2.1
 ·intro n; exact absurd rfl n.1
 ·intro _ _ _ lt
  have := (h.num b hb).2.1
  exact absurd (show c.cnt + 1 < b.n from lt) (by omega)
 ·have g1 : u.s3 < a.n := n.2.2
  have g2 : u.s3 < d.n := by
   rcases q with z | z
   ·exact z.2.1
   ·omega
  exact nd d hd a ha g2 g1 e2 e le
 ·intro _ _ _ lt; exact absurd (show c.cnt + 1 < c.cnt + 1 from lt) (by omega)
 ·rcases q with z | z
  ·have o := s.out b hb d hd lt z.2.1 e2
   have := (M b hb n.2.1).2.1 e o
   rw [dm.1] at this
   cases this
  ·have z' : d.n = c.cnt + 1 := z
   have := (h.num d hd).2.1
   omega
 ·intro _ _ _ lt
  have := (h.num b hb).2.1
  exact absurd (show c.cnt + 1 < b.n from lt) (by omega)
 ·intro n; exact absurd rfl n.1
 ·intro lt
  have := (h.num b hb).2.1
  exact absurd (show c.cnt + 1 < b.n from lt) (by omega)
 ·exact decide_eq_true ((M d hd b).2.2.1 e).1
 ·intro lt; exact absurd (show c.cnt + 1 < c.cnt + 1 from lt) (by omega)
theorem Cov.dec {D : List Kp} {c : Cp} (h : Cov D c) (s : Saf D) (u : Su) (fu : u.F) (ck : Int) : ((decC c u ck).1 ≠ 0 → (decC c u ck).2.2 = c) ∧ ((decC c u ck).1 = 0 → (decC c u ck).2.1 = c.cnt + 1 ∧ ∃ o, Cov (D ++ [⟨c.cnt + 1, u, o⟩]) (decC c u ck).2.2 ∧ Saf (D ++ [⟨c.cnt + 1, u, o⟩])) := by
 unfold decC
 by_cases h1 : faultC c u ck ≠ 0
 ·rw [if_pos h1]; exact ⟨fun _ => rfl, fun q => absurd q h1⟩
 rw [if_neg h1]
 have hf : faultC c u ck = 0 := Classical.not_not.1 h1
 split
 ·exact ⟨fun _ => rfl, fun q => absurd (show (111 : Int) = 0 from q) (by decide)⟩
 split
 ·exact ⟨fun _ => rfl, fun q => absurd (show (112 : Int) = 0 from q) (by decide)⟩
 ·rename_i g1 g2
  unfold faultC at hf
  split at hf
  ·rename_i z; exact absurd hf z
  split at hf
  ·exact absurd hf (by decide)
  split at hf
  ·exact absurd hf (by decide)
  split at hf
  ·exact absurd hf (by decide)
  rename_i z1 z2 z3 z4
  exact ⟨fun q => absurd rfl q, fun _ => ⟨rfl, _, h.commit (by omega) u fu (by omega) _, s.step h u (by omega) (by omega) (by simpa using g1) (by simpa using g2)⟩⟩
end Go.Proofs.YtgeinnaljlajoaaGreat
