/- Two Certs of which one keeps more, plainly; no condition. -/
import Derived.Test.YtgeinnaljlajoaaGreatCeo
namespace Go.Proofs.YtgeinnaljlajoaaGreat
open Go.RowKit Go.Lib
set_option linter.unusedVariables false
set_option linter.unusedSimpArgs false
set_option maxRecDepth 20000
theorem fold_w3 (u : Su) : ∀ (L : List Kp) (m : Met), (L.foldl (stepM u) m).w = true → m.w = true ∨ ∃ k ∈ L, u.s3 < k.n ∧ bwU u k.u = true
 | [], m, h => .inl h
 | x :: r, m, h => by
  rcases fold_w3 u r (stepM u m x) h with q | ⟨k, hk, q⟩
  ·by_cases b : u.s3 < x.n
   ·rw [stepM_yes b] at q
    rcases (Bool.or_eq_true _ _).mp (show (m.w || bwU u x.u) = true from q) with z | z
    ·exact .inl z
    ·exact .inr ⟨x, by simp, b, z⟩
   ·rw [stepM_no b] at q; exact .inl q
  ·exact .inr ⟨k, by simp [hk], q⟩
theorem fold_m3 (u : Su) : ∀ (L : List Kp) (m : Met), (L.foldl (stepM u) m).m = true → m.m = true ∨ ∃ k ∈ L, u.s3 < k.n ∧ meetU u k.u = true ∧ k.o = true
 | [], m, h => .inl h
 | x :: r, m, h => by
  rcases fold_m3 u r (stepM u m x) h with q | ⟨k, hk, q⟩
  ·by_cases b : u.s3 < x.n
   ·rw [stepM_yes b] at q
    have q' : (if meetU u x.u = true then m.m || x.o else m.m) = true := q
    by_cases e : meetU u x.u = true
    ·rw [if_pos e] at q'
     rcases (Bool.or_eq_true _ _).mp q' with z | z
     ·exact .inl z
     ·exact .inr ⟨x, by simp, b, e, z⟩
    ·rw [if_neg e] at q'; exact .inl q'
   ·rw [stepM_no b] at q; exact .inl q
  ·exact .inr ⟨k, by simp [hk], q⟩
theorem fold_f3 (u : Su) : ∀ (L : List Kp) (m : Met), (L.foldl (stepM u) m).f = m.f ∨ ∃ k ∈ L, u.s3 < k.n ∧ meetU u k.u = true ∧ (L.foldl (stepM u) m).f = k.n
 | [], m => .inl rfl
 | x :: r, m => by
  show (r.foldl (stepM u) (stepM u m x)).f = m.f ∨ ∃ k ∈ x :: r, u.s3 < k.n ∧ meetU u k.u = true ∧ (r.foldl (stepM u) (stepM u m x)).f = k.n
  rcases fold_f3 u r (stepM u m x) with q | ⟨k, hk, q⟩
  ·by_cases b : u.s3 < x.n
   ·rw [stepM_f b] at q
    by_cases e : meetU u x.u = true ∧ m.f = 0
    ·rw [if_pos e] at q; exact .inr ⟨x, by simp, b, e.1, q⟩
    ·rw [if_neg e] at q; exact .inl q
   ·rw [stepM_no b] at q
    refine .inl ?_
    rw [stepM_no b]
    exact q
  ·exact .inr ⟨k, by simp [hk], q⟩
theorem fold_l3 (u : Su) : ∀ (L : List Kp) (m : Met), (L.foldl (stepM u) m).l = m.l ∨ ∃ k ∈ L, u.s3 < k.n ∧ meetU k.u u = true ∧ (L.foldl (stepM u) m).l = k.n
 | [], m => .inl rfl
 | x :: r, m => by
  show (r.foldl (stepM u) (stepM u m x)).l = m.l ∨ ∃ k ∈ x :: r, u.s3 < k.n ∧ meetU k.u u = true ∧ (r.foldl (stepM u) (stepM u m x)).l = k.n
  rcases fold_l3 u r (stepM u m x) with q | ⟨k, hk, q⟩
  ·by_cases b : u.s3 < x.n
   ·rw [stepM_l b] at q
    by_cases e : meetU x.u u = true
    ·rw [if_pos e] at q; exact .inr ⟨x, by simp, b, e, q⟩
    ·rw [if_neg e] at q; exact .inl q
   ·rw [stepM_no b] at q
    refine .inl ?_
    rw [stepM_no b]
    exact q
  ·exact .inr ⟨k, by simp [hk], q⟩
structure Mor (D : List Kp) (c e : Cp) : Prop where
 v : Cov D c
 s : Saf D
 ok : CpOk e
 ff : ∀ k ∈ e.rc, k.u.F
 t : e.tb = ⟨[], [], [], []⟩
 h : e.hor = 0
 k : e.keep = 32
 n : e.cnt = c.cnt
 l : e.rc.length = D.length
 d : ∀ x ∈ e.rc, ∃ y ∈ D, y.n = x.n ∧ y.u = x.u ∧ (x.o = true → y.o = true)
theorem Mor.new (old : Int) : Mor [] (newC 1 old) (newC 32 64) :=
 ⟨Cov.new 1 old, saf0, (new_ok 32 64).1, (new_ok 32 64).2, rfl, rfl, rfl, rfl, rfl, (fun x q => nomatch q)⟩
theorem Mor.dec {D : List Kp} {c e : Cp} (h : Mor D c e) (hl : D.length ≤ 31) (u : Su) (fu : u.F) (ck : Int) :
    ((decC c u ck).1 ≠ 0 → (decC c u ck).2.2 = c) ∧ ((decC c u ck).1 = 0 → (decC e u ck).1 = 0 ∧ (decC e u ck).2.1 = (decC c u ck).2.1 ∧ ∃ D', D'.length = D.length + 1 ∧ Mor D' (decC c u ck).2.2 (decC e u ck).2.2) := by
 have K := h.v.dec h.s u fu ck
 refine ⟨K.1, fun z => ?_⟩
 have hcnt := h.n
 have hf : faultC c u ck = 0 := by
  apply Classical.byContradiction
  intro q
  unfold decC at z
  rw [if_pos q] at z
  exact q z
 have hfe : faultC e u ck = 0 ∧ c.cnt < 1099511627776 ∧ c.hor ≤ u.s3 ∧ u.s3 ≤ c.cnt := by
  unfold faultC at hf ⊢
  split at hf
  ·rename_i q; exact absurd hf q
  split at hf
  ·exact absurd hf (by decide)
  split at hf
  ·exact absurd hf (by decide)
  split at hf
  ·exact absurd hf (by decide)
  rename_i z1 z2 z3 z4
  have a := h.h
  have b := h.v.ok.h1
  rw [if_neg z1, if_neg (by omega), if_neg (by omega), if_neg (by omega)]
  omega
 obtain ⟨hfe, hm, h1, h2⟩ := hfe
 have z0 := z
 have s0 : 0 ≤ u.s3 := Int.le_trans h.v.ok.h1 h1
 unfold decC at z
 rw [hf, if_neg (by decide)] at z
 have hw : (metC c u).w = false := by
  cases q : (metC c u).w with
  | false => rfl
  | true => rw [if_pos q] at z; exact absurd (show (111 : Int) = 0 from z) (by decide)
 rw [if_neg (by rw [hw]; decide)] at z
 have hd : dangM (metC c u) = false := by
  cases q : dangM (metC c u) with
  | false => rfl
  | true => rw [if_pos q] at z; exact absurd (show (112 : Int) = 0 from z) (by decide)
 have dm : (metC c u).m = false ∧ ¬ (0 < (metC c u).f ∧ (metC c u).f ≤ (metC c u).l) := by
  unfold dangM at hd
  rw [Bool.or_eq_false_iff] at hd
  refine ⟨hd.1, fun q => ?_⟩
  have := hd.2
  rw [decide_eq_true q.1, decide_eq_true q.2] at this
  cases this
 have M : ∀ x ∈ e.rc, u.s3 < x.n → bwU u x.u = false ∧ ¬ (meetU u x.u = true ∧ x.o = true) ∧ (meetU u x.u = true → 0 < (metC c u).f ∧ (metC c u).f ≤ x.n) ∧ (meetU x.u u = true → x.n ≤ (metC c u).l) := fun x hx hb => by
  obtain ⟨y, hy, yn, yu, yo⟩ := h.d x hx
  have m := h.v.met u h1 y hy (by rw [yn]; exact hb)
  rw [yn, yu] at m
  refine ⟨?_, fun q => ?_, m.2.2.1, m.2.2.2⟩
  ·cases q : bwU u x.u with
   | false => rfl
   | true => rw [m.1 q] at hw; cases hw
  ·have := m.2.1 q.1 (yo q.2)
   rw [dm.1] at this
   cases this
 have m0 : metC e u = e.rc.foldl (stepM u) ⟨false, false, 0, 0⟩ := by
  unfold metC
  have : (⟨e.lw, e.lm, e.lr, e.ls⟩ : Tb) = ⟨[], [], [], []⟩ := h.t
  rw [this, met_none u s0]
 have ew : (metC e u).w = false := by
  cases q : (metC e u).w with
  | false => rfl
  | true =>
   rw [m0] at q
   rcases fold_w3 u e.rc _ q with y | ⟨k, hk, b, y⟩
   ·cases y
   ·rw [(M k hk b).1] at y; cases y
 have em : (metC e u).m = false := by
  cases q : (metC e u).m with
  | false => rfl
  | true =>
   rw [m0] at q
   rcases fold_m3 u e.rc _ q with y | ⟨k, hk, b, y⟩
   ·cases y
   ·exact absurd y (M k hk b).2.1
 have ef : (metC e u).f = 0 ∨ (0 < (metC c u).f ∧ (metC c u).f ≤ (metC e u).f) := by
  rw [m0]
  rcases fold_f3 u e.rc ⟨false, false, 0, 0⟩ with y | ⟨k, hk, b, y, y2⟩
  ·exact .inl y
  ·have := (M k hk b).2.2.1 y
   rw [y2]
   exact .inr this
 have el : (metC e u).l = 0 ∨ (metC e u).l ≤ (metC c u).l := by
  rw [m0]
  rcases fold_l3 u e.rc ⟨false, false, 0, 0⟩ with y | ⟨k, hk, b, y, y2⟩
  ·exact .inl y
  ·have := (M k hk b).2.2.2 y
   rw [y2]
   exact .inr this
 have ed : dangM (metC e u) = false := by
  unfold dangM
  rw [em, Bool.false_or]
  by_cases q : 0 < (metC e u).f ∧ (metC e u).f ≤ (metC e u).l
  ·exfalso
   rcases ef with y | y
   ·omega
   ·rcases el with w | w
    ·omega
    ·exact dm.2 ⟨y.1, by omega⟩
  ·by_cases q1 : 0 < (metC e u).f
   ·rw [decide_eq_false (fun q2 => q ⟨q1, q2⟩), Bool.and_false]
   ·rw [decide_eq_false q1, Bool.false_and]
 have ek : commitC e u (decide (0 < (metC e u).f)) = pushC e u (decide (0 < (metC e u).f)) := by
  unfold commitC
  rw [if_pos]
  have a := h.l
  have b := h.k
  simp only [pushC, List.length_append, List.length_cons, List.length_nil]
  omega
 have de : decC e u ck = (0, e.cnt + 1, pushC e u (decide (0 < (metC e u).f))) := by
  unfold decC
  rw [hfe, if_neg (by decide), if_neg (by rw [ew]; decide), if_neg (by rw [ed]; decide), ek]
 have dc : decC c u ck = (0, c.cnt + 1, commitC c u (decide (0 < (metC c u).f))) := by
  unfold decC
  rw [hf, if_neg (by decide), if_neg (by rw [hw]; decide), if_neg (by rw [hd]; decide)]
 rw [de, dc]
 have kk := commit_ok h.ok h.ff (by omega) fu (decide (0 < (metC e u).f))
 rw [ek] at kk
 refine ⟨rfl, by show e.cnt + 1 = c.cnt + 1; omega, D ++ [⟨c.cnt + 1, u, decide (0 < (metC c u).f)⟩], by simp, h.v.commit hm u fu h2 _, h.s.step h.v u h1 h2 hw hd, kk.1, kk.2, h.t, h.h, h.k, ?_, ?_, fun x hx => ?_⟩
 ·rw [commit_cnt]
  show e.cnt + 1 = c.cnt + 1
  omega
 ·show (e.rc ++ [_]).length = (D ++ [_]).length
  simp [h.l]
 ·rcases List.mem_append.1 (show x ∈ e.rc ++ [⟨e.cnt + 1, u, decide (0 < (metC e u).f)⟩] from hx) with q | q
  ·obtain ⟨y, hy, w⟩ := h.d x q
   exact ⟨y, List.mem_append_left _ hy, w⟩
  ·simp only [List.mem_singleton] at q
   subst q
   refine ⟨⟨c.cnt + 1, u, decide (0 < (metC c u).f)⟩, by simp, by show c.cnt + 1 = e.cnt + 1; omega, rfl, fun o => ?_⟩
   have o' := of_decide_eq_true (show decide (0 < (metC e u).f) = true from o)
   rcases ef with y | y
   ·omega
   ·exact decide_eq_true y.1
end Go.Proofs.YtgeinnaljlajoaaGreat
