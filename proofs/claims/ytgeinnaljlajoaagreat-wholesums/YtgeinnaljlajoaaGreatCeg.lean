/- What the tables' numbers are bound by; a submission that has seen all ahead of it, plainly; no condition. -/
import Derived.Test.YtgeinnaljlajoaaGreatCxR
namespace Go.Proofs.YtgeinnaljlajoaaGreat
open Go.RowKit Go.Lib
set_option linter.unusedVariables false
set_option linter.unusedSimpArgs false
set_option maxRecDepth 20000
def VB (B : Int) (L : List Vx.It) : Prop := ∀ x ∈ L, x.n ≤ B
def PB (B : Int) (L : List Py.It) : Prop := ∀ x ∈ L, x.n ≤ B
theorem vbPutL {B : Int} {x : Vx.It} : ∀ {L : List Vx.It}, VB B L → x.n ≤ B → VB B (Vx.putL x L)
 | [], h, hx => fun y hy => by
  rw [show Vx.putL x [] = [x] from rfl, List.mem_singleton] at hy
  subst hy; exact hx
 | y :: t, h, hx => fun z hz => by
  have hy := h y (by simp)
  unfold Vx.putL at hz
  split at hz
  ·rcases List.mem_cons.1 hz with rfl | q
   ·exact hy
   ·exact vbPutL (fun w hw => h w (by simp [hw])) hx z q
  ·split at hz
   ·rcases List.mem_cons.1 hz with rfl | q
    ·rw [Vx.n_with]; omega
    ·exact h z (by simp [q])
   ·rcases List.mem_cons.1 hz with rfl | q
    ·exact hx
    ·exact h z q
theorem pbPutL {B : Int} {x : Py.It} : ∀ {L : List Py.It}, PB B L → x.n ≤ B → PB B (Py.putL x L)
 | [], h, hx => fun y hy => by
  rw [show Py.putL x [] = [x] from rfl, List.mem_singleton] at hy
  subst hy; exact hx
 | y :: t, h, hx => fun z hz => by
  have hy := h y (by simp)
  unfold Py.putL at hz
  split at hz
  ·rcases List.mem_cons.1 hz with rfl | q
   ·exact hy
   ·exact pbPutL (fun w hw => h w (by simp [hw])) hx z q
  ·split at hz
   ·rcases List.mem_cons.1 hz with rfl | q
    ·rw [Py.n_with]; omega
    ·exact h z (by simp [q])
   ·rcases List.mem_cons.1 hz with rfl | q
    ·exact hx
    ·exact h z q
theorem vbPutR {B n most : Int} {key : Nat} {L : List Vx.It} (h : VB B L) (hn : n ≤ B) : VB B (Vx.putR key n most L).2 := by
 unfold Vx.putR
 split
 ·exact h
 split
 ·exact h
 split
 ·exact vbPutL h hn
 split
 ·exact h
 ·exact vbPutL h hn
theorem pbPutR {B n most : Int} {x y : Nat} {p q : Bool} {L : List Py.It} (h : PB B L) (hn : n ≤ B) : PB B (Py.putR x y p q n most L).2 := by
 unfold Py.putR
 split
 ·exact h
 split
 ·exact h
 split
 ·exact pbPutL h hn
 split
 ·exact h
 ·exact pbPutL h hn
theorem vbPutV {B n most : Int} : ∀ (ks : List Nat) {L : List Vx.It}, VB B L → n ≤ B → VB B (putV n most ks L).2
 | [], _, h, _ => h
 | k :: r, L, h, hn => by
  have h1 := vbPutR (key := k) (most := most) h hn
  unfold putV
  split
  ·exact vbPutV r h1 hn
  ·exact h1
theorem pbPutP {B n most : Int} : ∀ (ks : List Sp) {L : List Py.It}, PB B L → n ≤ B → PB B (putP n most ks L).2
 | [], _, h, _ => h
 | k :: r, L, h, hn => by
  have h1 := pbPutR (x := k.a) (y := k.b) (p := k.p) (q := k.q) (most := most) h hn
  unfold putP
  split
  ·exact pbPutP r h1 hn
  ·exact h1
structure TbB (B : Int) (t : Tb) : Prop where
 w : VB B t.lw
 m : VB B t.lm
 r : VB B t.lr
 s : PB B t.ls
theorem TbB.mono {B B' : Int} {t : Tb} (h : TbB B t) (hB : B ≤ B') : TbB B' t :=
 ⟨fun x q => Int.le_trans (h.w x q) hB, fun x q => Int.le_trans (h.m x q) hB, fun x q => Int.le_trans (h.r x q) hB, fun x q => Int.le_trans (h.s x q) hB⟩
theorem tbB0 (B : Int) : TbB B ⟨[], [], [], []⟩ := ⟨(fun x q => nomatch q), (fun x q => nomatch q), (fun x q => nomatch q), (fun x q => nomatch q)⟩
theorem andT_b {B : Int} {a : Bool × Tb} {f : Tb → Bool × Tb} (h : TbB B a.2) (hf : ∀ t, TbB B t → TbB B (f t).2) : TbB B (andT a f).2 := by
 unfold andT
 split
 ·exact hf _ h
 ·exact h
theorem sumT_b {B most : Int} {k : Kp} {t : Tb} (h : TbB B t) (hn : k.n ≤ B) : TbB B (sumT most k t).2 := by
 refine andT_b (andT_b (andT_b ⟨vbPutV _ h.w hn, h.m, h.r, h.s⟩ fun t ht => ⟨ht.w, ht.m, vbPutV _ ht.r hn, ht.s⟩) fun t ht => ⟨ht.w, ht.m, ht.r, pbPutP _ ht.s hn⟩) fun t ht => ?_
 by_cases ho : k.o = true
 ·rw [if_pos ho]; exact ⟨ht.w, vbPutV _ ht.m hn, ht.r, ht.s⟩
 ·rw [if_neg ho]; exact ht
theorem commit_b {c : Cp} {B : Int} (h : TbB B c.tb) (hk : ∀ k ∈ c.rc, k.n ≤ B) (hc : c.cnt + 1 ≤ B) (u : Su) (o : Bool) : TbB B (commitC c u o).tb := by
 unfold commitC
 split
 ·exact h
 ·unfold dropC
  cases he : (pushC c u o).rc with
  | nil => exact h
  | cons k r =>
   have hkn : k.n ≤ B := by
    have : k ∈ c.rc ++ [⟨c.cnt + 1, u, o⟩] := by
     have e : (pushC c u o).rc = c.rc ++ [⟨c.cnt + 1, u, o⟩] := rfl
     rw [← e, he]; simp
    rcases List.mem_append.1 this with q | q
    ·exact hk k q
    ·simp only [List.mem_singleton] at q; subst q; exact hc
   dsimp only
   split
   ·exact sumT_b (show TbB B c.tb from h) hkn
   ·exact tbB0 B
theorem fold_le {α : Type} (f : α → Int) (B : Int) (h : ∀ x, f x ≤ B) : ∀ (L : List α) (a : Int), a ≤ B → L.foldl (fun n x => max n (f x)) a ≤ B
 | [], a, ha => ha
 | x :: r, a, ha => fold_le f B h r (max a (f x)) (by have := h x; omega)
theorem vat_le {B : Int} (hB : 0 ≤ B) (c : Nat) : ∀ {L : List Vx.It}, VB B L → Vx.atL c L ≤ B
 | [], _ => hB
 | y :: t, h => by
  unfold Vx.atL
  split
  ·exact h y (by simp)
  ·exact vat_le hB c (fun x q => h x (by simp [q]))
theorem vover_le {B : Int} (hB : 0 ≤ B) (h : Nat → Bool) {L : List Vx.It} (hL : VB B L) : ∀ k, k ≤ L.length → Vx.overT h L k ≤ B
 | 0, _ => hB
 | k + 1, hk => by
  have i1 := vover_le hB h hL k (by omega)
  have i2 : (Vx.atI L k).n ≤ B := by rw [Vx.atI_get L k (by omega)]; exact hL _ (List.getElem_mem _)
  unfold Vx.overT
  split <;> omega
theorem pover_le {B : Int} (hB : 0 ≤ B) (c : Nat) {L : List Py.It} (hL : PB B L) : ∀ k, k ≤ L.length → Py.overT c L k ≤ B
 | 0, _ => hB
 | k + 1, hk => by
  have i1 := pover_le hB c hL k (by omega)
  have i2 : (Py.atI L k).n ≤ B := by rw [Py.atI_get L k (by omega)]; exact hL _ (List.getElem_mem _)
  unfold Py.overT
  split <;> omega
theorem gA_le {B : Int} (hB : 0 ≤ B) {L : List Vx.It} (h : VB B L) (ks : List Nat) : gA L ks ≤ B := fold_le _ B (fun k => vat_le hB _ h) ks 0 hB
theorem gO_le {B : Int} (hB : 0 ≤ B) {L : List Vx.It} (h : VB B L) (ss : List Sp) : gO L ss ≤ B := fold_le _ B (fun k => vover_le hB _ h _ (Nat.le_refl _)) ss 0 hB
theorem gP_le {B : Int} (hB : 0 ≤ B) {L : List Py.It} (h : PB B L) (ks : List Nat) : gP L ks ≤ B := fold_le _ B (fun k => pover_le hB _ h _ (Nat.le_refl _)) ks 0 hB
theorem rdU_le {B : Int} (hB : 0 ≤ B) {L : List Vx.It} (h : VB B L) (u : Su) : rdU u L ≤ B := by
 have a := gA_le hB h u.R
 have b := gO_le hB h u.P
 unfold rdU
 omega
theorem met_seen {B : Int} (hB : 0 ≤ B) {t : Tb} (h : TbB B t) (u : Su) (hu : B ≤ u.s3) : met0T t u = ⟨false, false, 0, 0⟩ := by
 have a := gA_le hB h.w u.W
 have b := rdU_le hB h.m u
 have c := rdU_le hB h.w u
 have d := gA_le hB h.r u.W
 have e := gP_le hB h.s u.W
 unfold met0T
 rw [decide_eq_false (by omega), decide_eq_false (by omega), if_neg (by omega), if_neg (by omega)]
theorem fold_seen (u : Su) : ∀ (L : List Kp) (m : Met), (∀ k ∈ L, k.n ≤ u.s3) → L.foldl (stepM u) m = m
 | [], m, _ => rfl
 | k :: r, m, h => by
  have hk := h k (by simp)
  show r.foldl (stepM u) (stepM u m k) = m
  rw [show stepM u m k = m from if_neg (by omega)]
  exact fold_seen u r m (fun x q => h x (by simp [q]))
structure Seen (n : Int) (c : Cp) : Prop where
 ok : CpOk c
 ff : ∀ k ∈ c.rc, k.u.F
 tb : TbB c.cnt c.tb
 cn : c.cnt = n
theorem Seen.new (k o : Int) : Seen 0 (newC k o) := ⟨(new_ok k o).1, (new_ok k o).2, tbB0 _, rfl⟩
theorem met_all {c : Cp} (ok : CpOk c) (tb : TbB c.cnt c.tb) (u : Su) (hu : c.cnt ≤ u.s3) : metC c u = ⟨false, false, 0, 0⟩ := by
 unfold metC
 rw [met_seen ok.n1 (show TbB c.cnt ⟨c.lw, c.lm, c.lr, c.ls⟩ from tb) u hu]
 exact fold_seen u c.rc _ (fun k q => Int.le_trans (ok.num k q).2 hu)
theorem Seen.dec {n : Int} {c : Cp} (h : Seen n c) (hn : n < 1099511627776) {u : Su} (fu : u.F) (hu : u.s3 = n) (ck : Int) :
    (ck ≠ 0 → decC c u ck = (ck, 0, c)) ∧ (ck = 0 → ∃ c', decC c u ck = (0, n + 1, c') ∧ Seen (n + 1) c') := by
 have hc := h.cn
 refine ⟨fun z => ?_, fun z => ?_⟩
 ·have e : faultC c u ck = ck := by unfold faultC; rw [if_pos z]
  unfold decC
  rw [e, if_pos z]
 ·subst z
  have a3 := h.ok.h2
  have e : faultC c u 0 = 0 := by
   unfold faultC
   rw [if_neg (by decide), if_neg (by omega), if_neg (by omega), if_neg (by omega)]
  have m := met_all h.ok h.tb u (by omega)
  have d : decC c u 0 = (0, c.cnt + 1, commitC c u false) := by
   unfold decC
   rw [e, m, if_neg (by decide), if_neg (by decide), if_neg (by decide)]
   rfl
  have k := commit_ok h.ok h.ff (by omega) fu false
  have cc := commit_cnt c u false
  rw [hc] at d cc
  exact ⟨_, d, k.1, k.2, by rw [cc]; exact commit_b (h.tb.mono (by omega)) (fun k q => by have := (h.ok.num k q).2; omega) (by omega) u false, cc⟩
end Go.Proofs.YtgeinnaljlajoaaGreat
