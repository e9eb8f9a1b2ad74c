/- A certifier as a plain thing: submissions, what has to do with what, what Decide makes; no condition. -/
import Derived.Test.YtgeinnaljlajoaaGreatCxL
import Derived.Test.YtgeinnaljlajoaaGreatCxF
import Derived.Test.YtgeinnaljlajoaaGreatCxH
namespace Go.Proofs.YtgeinnaljlajoaaGreat
open Go.RowKit Go.Lib
set_option linter.unusedVariables false
set_option linter.unusedSimpArgs false
set_option maxRecDepth 20000
theorem goodV0 : Vx.Good [] := ⟨List.Pairwise.nil, fun x hx => by simp at hx⟩
theorem goodP0 : Py.Good [] := ⟨List.Pairwise.nil, fun x hx => by simp at hx⟩
structure Su where
 s1 : Int
 s2 : Int
 s3 : Int
 R : List Nat
 P : List Sp
 W : List Nat
def lsG {α : Type} (x : Nat → α) (n : Nat) : List α := (List.range n).map x
theorem lsG_len {α : Type} (x : Nat → α) (n : Nat) : (lsG x n).length = n := by simp [lsG]
theorem lsG_at {α : Type} (x : Nat → α) (n i : Nat) (h : i < n) : (lsG x n)[i]? = some (x i) := by simp [lsG, h]
theorem lsG_succ {α : Type} (x : Nat → α) (n : Nat) : lsG x (n + 1) = lsG x n ++ [x n] := by simp [lsG, List.range_succ]
theorem lsG_take {α : Type} (x : Nat → α) (n k : Nat) (h : k ≤ n) : (lsG x n).take k = lsG x k := by
 apply List.ext_getElem?
 intro i
 by_cases hi : i < k
 ·rw [List.getElem?_take_of_lt hi, lsG_at _ _ _ hi, lsG_at _ _ _ (by omega)]
 ·rw [List.getElem?_eq_none (by simp [lsG_len]; omega), List.getElem?_eq_none (by simp [lsG_len]; omega)]
theorem lsG_drop {α : Type} (x : Nat → α) (n k : Nat) (h : k < n) : (lsG x n).drop k = x k :: (lsG x n).drop (k + 1) := by
 rw [List.drop_eq_getElem_cons (by rw [lsG_len]; exact h)]
 congr 1
 have := lsG_at x n k h
 rw [List.getElem?_eq_getElem (by rw [lsG_len]; exact h)] at this
 exact Option.some.inj this
theorem lsG_mem {α : Type} {x : Nat → α} {n : Nat} {y : α} (h : y ∈ lsG x n) : ∃ i, i < n ∧ y = x i := by
 simp only [lsG, List.mem_map, List.mem_range] at h
 obtain ⟨i, hi, e⟩ := h
 exact ⟨i, hi, e.symm⟩
theorem anyG_list {α : Type} (x : Nat → α) (g : α → Bool) : ∀ n, Fl.anyG (fun i => g (x i)) n = (lsG x n).any g
 | 0 => rfl
 | n + 1 => by
  show (Fl.anyG (fun i => g (x i)) n || g (x n)) = _
  rw [anyG_list x g n, lsG_succ, List.any_append]
  simp
def Sb.pl (s : Sb) : Su := ⟨s.s1, s.s2, s.s3, lsG s.x1 s.n1, lsG s.f2 s.n2, lsG s.x3 s.n3⟩
def readU (u : Su) (k : Nat) : Bool := u.R.any (fun x => keyEq x k) || u.P.any (fun s => Fl.hasS s k)
def writeU (u : Su) (k : Nat) : Bool := u.W.any (fun x => keyEq x k)
def meetU (a b : Su) : Bool := b.W.any (fun k => readU a k)
def bwU (a b : Su) : Bool := a.W.any (fun k => writeU b k)
theorem readU_pl (s : Sb) (k : Nat) : readB s k = readU s.pl k := by
 unfold readB readU Sb.pl
 dsimp only
 rw [← anyG_list s.x1 (fun x => keyEq x k), ← anyG_list s.f2 (fun x => Fl.hasS x k)]
theorem writeU_pl (s : Sb) (k : Nat) : writeB s k = writeU s.pl k := by
 unfold writeB writeU Sb.pl
 dsimp only
 rw [← anyG_list s.x3 (fun x => keyEq x k)]
theorem meetU_pl (a b : Sb) : meetB a b = meetU a.pl b.pl := by
 have h : meetB a b = Fl.anyG (fun i => readU a.pl (b.x3 i)) b.n3 := by
  unfold meetB
  congr 1
  funext i
  exact readU_pl a _
 rw [h, anyG_list b.x3 (fun k => readU a.pl k)]
 rfl
structure Kp where
 n : Int
 u : Su
 o : Bool
structure Cp where
 keep : Int
 most : Int
 cnt : Int
 hor : Int
 rc : List Kp
 lw : List Vx.It
 lm : List Vx.It
 lr : List Vx.It
 ls : List Py.It
structure Met where
 w : Bool
 m : Bool
 f : Int
 l : Int
def gA (L : List Vx.It) (ks : List Nat) : Int := ks.foldl (fun n k => max n (Vx.atL (Fl.code k) L)) 0
def gO (L : List Vx.It) (ss : List Sp) : Int := ss.foldl (fun n s => max n (Vx.overT (Vx.hasB s.a s.b s.p s.q) L L.length)) 0
def gP (L : List Py.It) (ks : List Nat) : Int := ks.foldl (fun n k => max n (Py.overT k L L.length)) 0
def rdU (u : Su) (L : List Vx.It) : Int := max (gA L u.R) (gO L u.P)
structure Tb where
 lw : List Vx.It
 lm : List Vx.It
 lr : List Vx.It
 ls : List Py.It
def met0T (c : Tb) (u : Su) : Met := ⟨decide (u.s3 < gA c.lw u.W), decide (u.s3 < rdU u c.lm), if u.s3 < rdU u c.lw then u.s3 + 1 else 0, if u.s3 < max (gA c.lr u.W) (gP c.ls u.W) then max (gA c.lr u.W) (gP c.ls u.W) else 0⟩
def addM (u : Su) (m : Met) (k : Kp) : Met :=
 ⟨m.w || bwU u k.u, if meetU u k.u = true then m.m || k.o else m.m, if meetU u k.u = true ∧ m.f = 0 then k.n else m.f, if meetU k.u u = true then k.n else m.l⟩
def stepM (u : Su) (m : Met) (k : Kp) : Met := if u.s3 < k.n then addM u m k else m
def metC (c : Cp) (u : Su) : Met := c.rc.foldl (stepM u) (met0T ⟨c.lw, c.lm, c.lr, c.ls⟩ u)
def dangM (m : Met) : Bool := m.m || (decide (0 < m.f) && decide (m.f ≤ m.l))
def putV (n most : Int) : List Nat → List Vx.It → Bool × List Vx.It
 | [], L => (true, L)
 | k :: r, L => if (Vx.putR k n most L).1 = 0 then putV n most r (Vx.putR k n most L).2 else (false, (Vx.putR k n most L).2)
def putP (n most : Int) : List Sp → List Py.It → Bool × List Py.It
 | [], L => (true, L)
 | s :: r, L => if (Py.putR s.a s.b s.p s.q n most L).1 = 0 then putP n most r (Py.putR s.a s.b s.p s.q n most L).2 else (false, (Py.putR s.a s.b s.p s.q n most L).2)
def sumW (most : Int) (k : Kp) (t : Tb) : Bool × Tb := ((putV k.n most k.u.W t.lw).1, { t with lw := (putV k.n most k.u.W t.lw).2 })
def sumR (most : Int) (k : Kp) (t : Tb) : Bool × Tb := ((putV k.n most k.u.R t.lr).1, { t with lr := (putV k.n most k.u.R t.lr).2 })
def sumP (most : Int) (k : Kp) (t : Tb) : Bool × Tb := ((putP k.n most k.u.P t.ls).1, { t with ls := (putP k.n most k.u.P t.ls).2 })
def sumM (most : Int) (k : Kp) (t : Tb) : Bool × Tb := ((putV k.n most k.u.W t.lm).1, { t with lm := (putV k.n most k.u.W t.lm).2 })
def andT (a : Bool × Tb) (f : Tb → Bool × Tb) : Bool × Tb := if a.1 = true then f a.2 else a
def sumT (most : Int) (k : Kp) (t : Tb) : Bool × Tb := andT (andT (andT (sumW most k t) (sumR most k)) (sumP most k)) (fun t => if k.o = true then sumM most k t else (true, t))
def Cp.tb (c : Cp) : Tb := ⟨c.lw, c.lm, c.lr, c.ls⟩
def Cp.with (c : Cp) (t : Tb) : Cp := { c with lw := t.lw, lm := t.lm, lr := t.lr, ls := t.ls }
def dropC (c : Cp) : Cp := match c.rc with
 | [] => c
 | k :: r => if (sumT c.most k c.tb).1 = true then { c.with (sumT c.most k c.tb).2 with rc := r } else { c with rc := r, lw := [], lm := [], lr := [], ls := [], hor := k.n }
def pushC (c : Cp) (u : Su) (o : Bool) : Cp := { c with cnt := c.cnt + 1, rc := c.rc ++ [⟨c.cnt + 1, u, o⟩] }
def commitC (c : Cp) (u : Su) (o : Bool) : Cp := if ((pushC c u o).rc.length : Int) ≤ c.keep then pushC c u o else dropC (pushC c u o)
def faultC (c : Cp) (u : Su) (ck : Int) : Int := if ck ≠ 0 then ck else if 1099511627776 ≤ c.cnt then 3 else if c.cnt < u.s3 then 113 else if u.s3 < c.hor then 110 else 0
def decC (c : Cp) (u : Su) (ck : Int) : Int × Int × Cp :=
 if faultC c u ck ≠ 0 then (faultC c u ck, 0, c) else if (metC c u).w = true then (111, 0, c) else if dangM (metC c u) = true then (112, 0, c) else (0, c.cnt + 1, commitC c u (decide (0 < (metC c u).f)))
def newC (keep old : Int) : Cp := ⟨max 1 (min keep 32), Vx.mostC old, 0, 0, [], [], [], [], []⟩
structure CpOk (c : Cp) : Prop where
 k1 : 1 ≤ c.keep
 k2 : c.keep ≤ 32
 m1 : 0 ≤ c.most
 m2 : c.most ≤ 64
 n1 : 0 ≤ c.cnt
 n2 : c.cnt ≤ 1099511627776
 h1 : 0 ≤ c.hor
 h2 : c.hor ≤ c.cnt
 r : (c.rc.length : Int) ≤ c.keep
 gw : Vx.Good c.lw
 gm : Vx.Good c.lm
 gr : Vx.Good c.lr
 gs : Py.Good c.ls
 qw : (c.lw.length : Int) ≤ c.most
 qm : (c.lm.length : Int) ≤ c.most
 qr : (c.lr.length : Int) ≤ c.most
 qs : (c.ls.length : Int) ≤ c.most
 num : ∀ k ∈ c.rc, 1 ≤ k.n ∧ k.n ≤ c.cnt
def Su.F (u : Su) : Prop := (∀ k ∈ u.R, Fl.W k) ∧ (∀ s ∈ u.P, Fl.W s.a ∧ Fl.W s.b) ∧ ∀ k ∈ u.W, Fl.W k
theorem putV_ok {n most : Int} : ∀ (ks : List Nat) (L : List Vx.It), (∀ k ∈ ks, Fl.W k) → Vx.Good L → (L.length : Int) ≤ most → Vx.Good (putV n most ks L).2 ∧ (((putV n most ks L).2.length : Nat) : Int) ≤ most
 | [], L, _, h, q => ⟨h, q⟩
 | k :: r, L, hk, h, q => by
  have h1 := Vx.put_good (n := n) (most := most) (hk k (by simp)) h
  have h2 := Vx.put_most (key := k) (n := n) h q
  unfold putV
  split
  ·exact putV_ok r _ (fun x hx => hk x (by simp [hx])) h1 h2
  ·exact ⟨h1, h2⟩
theorem putP_ok {n most : Int} : ∀ (ks : List Sp) (L : List Py.It), (∀ s ∈ ks, Fl.W s.a ∧ Fl.W s.b) → Py.Good L → (L.length : Int) ≤ most → Py.Good (putP n most ks L).2 ∧ (((putP n most ks L).2.length : Nat) : Int) ≤ most
 | [], L, _, h, q => ⟨h, q⟩
 | k :: r, L, hk, h, q => by
  have h0 := hk k (by simp)
  have h1 := Py.put_good (p := k.p) (q := k.q) (n := n) (most := most) h0.1 h0.2 h
  have h2 := Py.put_most (x := k.a) (y := k.b) (p := k.p) (q := k.q) (n := n) h q
  unfold putP
  split
  ·exact putP_ok r _ (fun x hx => hk x (by simp [hx])) h1 h2
  ·exact ⟨h1, h2⟩
structure TbOk (most : Int) (t : Tb) : Prop where
 gw : Vx.Good t.lw
 gm : Vx.Good t.lm
 gr : Vx.Good t.lr
 gs : Py.Good t.ls
 qw : (t.lw.length : Int) ≤ most
 qm : (t.lm.length : Int) ≤ most
 qr : (t.lr.length : Int) ≤ most
 qs : (t.ls.length : Int) ≤ most
theorem CpOk.tb {c : Cp} (h : CpOk c) : TbOk c.most c.tb := ⟨h.gw, h.gm, h.gr, h.gs, h.qw, h.qm, h.qr, h.qs⟩
theorem sumW_ok {most : Int} {k : Kp} {t : Tb} (h : TbOk most t) (f : k.u.F) : TbOk most (sumW most k t).2 := by
 have := putV_ok (n := k.n) (most := most) k.u.W t.lw f.2.2 h.gw h.qw
 exact ⟨this.1, h.gm, h.gr, h.gs, this.2, h.qm, h.qr, h.qs⟩
theorem sumR_ok {most : Int} {k : Kp} {t : Tb} (h : TbOk most t) (f : k.u.F) : TbOk most (sumR most k t).2 := by
 have := putV_ok (n := k.n) (most := most) k.u.R t.lr f.1 h.gr h.qr
 exact ⟨h.gw, h.gm, this.1, h.gs, h.qw, h.qm, this.2, h.qs⟩
theorem sumM_ok {most : Int} {k : Kp} {t : Tb} (h : TbOk most t) (f : k.u.F) : TbOk most (sumM most k t).2 := by
 have := putV_ok (n := k.n) (most := most) k.u.W t.lm f.2.2 h.gm h.qm
 exact ⟨h.gw, this.1, h.gr, h.gs, h.qw, this.2, h.qr, h.qs⟩
theorem sumP_ok {most : Int} {k : Kp} {t : Tb} (h : TbOk most t) (f : k.u.F) : TbOk most (sumP most k t).2 := by
 have := putP_ok (n := k.n) (most := most) k.u.P t.ls f.2.1 h.gs h.qs
 exact ⟨h.gw, h.gm, h.gr, this.1, h.qw, h.qm, h.qr, this.2⟩
theorem andT_ok {most : Int} {a : Bool × Tb} {f : Tb → Bool × Tb} (h : TbOk most a.2) (hf : ∀ t, TbOk most t → TbOk most (f t).2) : TbOk most (andT a f).2 := by
 unfold andT
 split
 ·exact hf _ h
 ·exact h
theorem sumT_ok {most : Int} {k : Kp} {t : Tb} (h : TbOk most t) (f : k.u.F) : TbOk most (sumT most k t).2 := by
 refine andT_ok (andT_ok (andT_ok (sumW_ok h f) fun t ht => sumR_ok ht f) fun t ht => sumP_ok ht f) fun t ht => ?_
 by_cases ho : k.o = true
 ·rw [if_pos ho]; exact sumM_ok ht f
 ·rw [if_neg ho]; exact ht
theorem commit_ok {c : Cp} (h : CpOk c) (hf : ∀ k ∈ c.rc, k.u.F) (hc : c.cnt < 1099511627776) {u : Su} (fu : u.F) (o : Bool) : CpOk (commitC c u o) ∧ ∀ k ∈ (commitC c u o).rc, k.u.F := by
 have hn : ∀ k ∈ (pushC c u o).rc, 1 ≤ k.n ∧ k.n ≤ c.cnt + 1 := fun k hk => by
  rcases List.mem_append.1 (show k ∈ c.rc ++ [⟨c.cnt + 1, u, o⟩] from hk) with q | q
  ·have := h.num k q; omega
  ·simp only [List.mem_singleton] at q; subst q; have := h.n1; dsimp only; omega
 have hF : ∀ k ∈ (pushC c u o).rc, k.u.F := fun k hk => by
  rcases List.mem_append.1 (show k ∈ c.rc ++ [⟨c.cnt + 1, u, o⟩] from hk) with q | q
  ·exact hf k q
  ·simp only [List.mem_singleton] at q; subst q; exact fu
 have hl : (pushC c u o).rc.length = c.rc.length + 1 := by simp [pushC]
 have a1 := h.n1; have a2 := h.h1; have a3 := h.h2; have a4 := h.r
 unfold commitC
 by_cases hq : ((pushC c u o).rc.length : Int) ≤ c.keep
 ·rw [if_pos hq]
  exact ⟨⟨h.k1, h.k2, h.m1, h.m2, by show 0 ≤ c.cnt + 1; omega, by show c.cnt + 1 ≤ _; omega, h.h1, by show c.hor ≤ c.cnt + 1; omega, hq, h.gw, h.gm, h.gr, h.gs, h.qw, h.qm, h.qr, h.qs, hn⟩, hF⟩
 ·rw [if_neg hq]
  unfold dropC
  cases he : (pushC c u o).rc with
  | nil => rw [he] at hl; simp at hl
  | cons k r =>
   rw [he] at hn hF hl
   have hk := hn k (by simp)
   have hr : ((r.length : Nat) : Int) ≤ c.keep := by rw [List.length_cons] at hl; omega
   dsimp only
   by_cases hs : (sumT (pushC c u o).most k (pushC c u o).tb).1 = true
   ·rw [if_pos hs]
    have t := sumT_ok (k := k) (show TbOk c.most c.tb from h.tb) (hF k (by simp))
    exact ⟨⟨h.k1, h.k2, h.m1, h.m2, by show 0 ≤ c.cnt + 1; omega, by show c.cnt + 1 ≤ _; omega, h.h1, by show c.hor ≤ c.cnt + 1; omega, hr, t.gw, t.gm, t.gr, t.gs, t.qw, t.qm, t.qr, t.qs, fun x hx => hn x (by simp [show x ∈ r from hx])⟩, fun x hx => hF x (by simp [show x ∈ r from hx])⟩
   ·rw [if_neg hs]
    exact ⟨⟨h.k1, h.k2, h.m1, h.m2, by show 0 ≤ c.cnt + 1; omega, by show c.cnt + 1 ≤ _; omega, by show 0 ≤ k.n; omega, by show k.n ≤ c.cnt + 1; omega, hr, goodV0, goodV0, goodV0, goodP0, h.m1, h.m1, h.m1, h.m1, fun x hx => hn x (by simp [show x ∈ r from hx])⟩, fun x hx => hF x (by simp [show x ∈ r from hx])⟩
theorem dec_ok {c : Cp} (h : CpOk c) (hf : ∀ k ∈ c.rc, k.u.F) {u : Su} (fu : u.F) (ck : Int) : CpOk (decC c u ck).2.2 ∧ ∀ k ∈ (decC c u ck).2.2.rc, k.u.F := by
 unfold decC
 by_cases h1 : faultC c u ck ≠ 0
 ·rw [if_pos h1]; exact ⟨h, hf⟩
 rw [if_neg h1]
 split
 ·exact ⟨h, hf⟩
 split
 ·exact ⟨h, hf⟩
 ·refine commit_ok h hf ?_ fu _
  have := h.n2
  by_cases q : 1099511627776 ≤ c.cnt
  ·exfalso
   apply h1
   unfold faultC
   by_cases q2 : ck ≠ 0
   ·rw [if_pos q2]; exact q2
   ·rw [if_neg q2, if_pos q]; decide
  ·omega
theorem new_ok (keep old : Int) : CpOk (newC keep old) ∧ ∀ k ∈ (newC keep old).rc, k.u.F := by
 refine ⟨⟨?_, ?_, ?_, ?_, ?_, ?_, ?_, ?_, ?_, goodV0, goodV0, goodV0, goodP0, ?_, ?_, ?_, ?_, fun k hk => by cases hk⟩, fun k hk => by cases hk⟩
 all_goals simp only [newC, Vx.mostC, List.length_nil]
 all_goals omega
end Go.Proofs.YtgeinnaljlajoaaGreat
namespace Go.Proofs.YtgeinnaljlajoaaGreat
open Go.RowKit Go.Lib
set_option linter.unusedVariables false
set_option linter.unusedSimpArgs false
set_option maxRecDepth 20000
attribute [local go_sem] run_bits run_frombits run_store_float eqF
theorem mxI (a b : Int) : (if a < b then b else a) = max a b := by split <;> omega
def mxG (g : Nat → Int) : Nat → Int | 0 => 0 | k + 1 => max (mxG g k) (g k)
theorem mxG_list {α : Type} (x : Nat → α) (g : α → Int) : ∀ n, mxG (fun i => g (x i)) n = (lsG x n).foldl (fun m y => max m (g y)) 0
 | 0 => rfl
 | n + 1 => by
  show max (mxG (fun i => g (x i)) n) (g (x n)) = _
  rw [mxG_list x g n, lsG_succ, List.foldl_append]
  rfl
set_option maxHeartbeats 2000000 in
theorem greatA_any (v : Value) (n : Nat) (x : Nat → Nat) (g : Nat → Int) (b : Nat) (w : World) (hv : FRow w v n x) (hf : ∀ i, i < n → ∀ W, Old w W → Calls Tryz.prog 84 #[.pointer (some ⟨b, 0, none⟩), .float .f64 (x i)] W fun e w' => e = .returned (.int .i64 (g i)) ∧ Old W w') :
    Calls Tryz.prog 83 #[v, .func (.func 84) #[.pointer (some ⟨b, 0, none⟩)] #[]] w fun e w' => e = .returned (.int .i64 (mxG g n)) ∧ Old w w' := by
 obtain ⟨hm, a, c, rfl, hc⟩ := hv
 have HC := hid hc
 have HF := hid hf
 have hmm := hm
 clear hc hf hm
 go_enter Tryz.func83, Tryz.ntmps83
 go_wp2
 go_loopw [5, 10] (fun m i wx => ∃ k : Nat, k ≤ n ∧ i = .int .i64 (k : Nat) ∧ m = .int .i64 (mxG g k) ∧ Old w wx) (fun _ i _ => n - (intOf i).toNat)
 case atStart => exact ⟨0, Nat.zero_le _, rfl, rfl, Old.refl _⟩
 case round =>
  obtain ⟨k, hk, rfl, rfl, hu⟩ := hrel
  have HU := hid hu
  by_cases hlt : k < n
  ·obtain ⟨b2, off, ha, hW, c0⟩ := HC.out k hlt
   subst ha
   have x0 := HU.out.keep c0
   have HK := hid (fun W (u : Old w W) => HF.out k hlt W u)
   have HS := hid (show mxG g (k + 1) = max (mxG g k) (g k) from rfl)
   have l1 : (0 : Int) ≤ (k : Int) := by omega
   have l2 : (k : Int) < (n : Int) := by omega
   clear c0 HF HC hW hu
   generalize x k = X at *
   generalize g k = gk at *
   generalize mxG g k = mk at *
   go_wp2_with (go_at_call 84; refine (HK.out _ HU.out).mono ?_; rintro o w5 ⟨rfl, u5⟩; have U5 := hid (HU.out.trans u5); clear u5)
   go_roundw
   case rel => exact ⟨k + 1, hlt, by go_num, by rw [HS.out, ← mxI], U5.out⟩
   case measure => simp [intOf]; omega
  ·obtain rfl : k = n := by omega
   clear hu HF HC
   go_wp2
   go_ret
   exact ⟨rfl, HU.out⟩
set_option maxHeartbeats 2000000 in
theorem greatP_any (v : Value) (n : Nat) (x : Nat → Nat) (g : Nat → Int) (b : Nat) (w : World) (hv : FRow w v n x) (hf : ∀ i, i < n → ∀ W, Old w W → Calls Tryz.prog 86 #[.pointer (some ⟨b, 0, none⟩), .float .f64 (x i)] W fun e w' => e = .returned (.int .i64 (g i)) ∧ Old W w') :
    Calls Tryz.prog 83 #[v, .func (.func 86) #[.pointer (some ⟨b, 0, none⟩)] #[]] w fun e w' => e = .returned (.int .i64 (mxG g n)) ∧ Old w w' := by
 obtain ⟨hm, a, c, rfl, hc⟩ := hv
 have HC := hid hc
 have HF := hid hf
 have hmm := hm
 clear hc hf hm
 go_enter Tryz.func83, Tryz.ntmps83
 go_wp2
 go_loopw [5, 10] (fun m i wx => ∃ k : Nat, k ≤ n ∧ i = .int .i64 (k : Nat) ∧ m = .int .i64 (mxG g k) ∧ Old w wx) (fun _ i _ => n - (intOf i).toNat)
 case atStart => exact ⟨0, Nat.zero_le _, rfl, rfl, Old.refl _⟩
 case round =>
  obtain ⟨k, hk, rfl, rfl, hu⟩ := hrel
  have HU := hid hu
  by_cases hlt : k < n
  ·obtain ⟨b2, off, ha, hW, c0⟩ := HC.out k hlt
   subst ha
   have x0 := HU.out.keep c0
   have HK := hid (fun W (u : Old w W) => HF.out k hlt W u)
   have HS := hid (show mxG g (k + 1) = max (mxG g k) (g k) from rfl)
   have l1 : (0 : Int) ≤ (k : Int) := by omega
   have l2 : (k : Int) < (n : Int) := by omega
   clear c0 HF HC hW hu
   generalize x k = X at *
   generalize g k = gk at *
   generalize mxG g k = mk at *
   go_wp2_with (go_at_call 86; refine (HK.out _ HU.out).mono ?_; rintro o w5 ⟨rfl, u5⟩; have U5 := hid (HU.out.trans u5); clear u5)
   go_roundw
   case rel => exact ⟨k + 1, hlt, by go_num, by rw [HS.out, ← mxI], U5.out⟩
   case measure => simp [intOf]; omega
  ·obtain rfl : k = n := by omega
   clear hu HF HC
   go_wp2
   go_ret
   exact ⟨rfl, HU.out⟩
set_option maxHeartbeats 2000000 in
theorem greatO_any (v : Value) (n : Nat) (x : Nat → Sp) (g : Nat → Int) (b : Nat) (w : World) (hv : SRow w v n x) (hf : ∀ i, i < n → ∀ W, Old w W → Calls Tryz.prog 112 #[.pointer (some ⟨b, 0, none⟩), .agg #[.float .f64 (x i).a, .float .f64 (x i).b, .bool (x i).p, .bool (x i).q]] W fun e w' => e = .returned (.int .i64 (g i)) ∧ Old W w') :
    Calls Tryz.prog 111 #[v, .func (.func 112) #[.pointer (some ⟨b, 0, none⟩)] #[]] w fun e w' => e = .returned (.int .i64 (mxG g n)) ∧ Old w w' := by
 obtain ⟨hm, a, c, rfl, hc⟩ := hv
 have HC := hid hc
 have HF := hid hf
 have hmm := hm
 clear hc hf hm
 go_enter Tryz.func111, Tryz.ntmps111
 go_wp2
 go_loopw [5, 10] (fun m i wx => ∃ k : Nat, k ≤ n ∧ i = .int .i64 (k : Nat) ∧ m = .int .i64 (mxG g k) ∧ Old w wx) (fun _ i _ => n - (intOf i).toNat)
 case atStart => exact ⟨0, Nat.zero_le _, rfl, rfl, Old.refl _⟩
 case round =>
  obtain ⟨k, hk, rfl, rfl, hu⟩ := hrel
  have HU := hid hu
  by_cases hlt : k < n
  ·obtain ⟨b2, off, ha, hW1, hW2, c0, c1, c2, c3⟩ := HC.out k hlt
   subst ha
   have x0 := HU.out.keep c0
   have x1 := HU.out.keep c1
   have x2 := HU.out.keep c2
   have x3 := HU.out.keep c3
   have HK := hid (fun W (u : Old w W) => HF.out k hlt W u)
   have HS := hid (show mxG g (k + 1) = max (mxG g k) (g k) from rfl)
   have l1 : (0 : Int) ≤ (k : Int) := by omega
   have l2 : (k : Int) < (n : Int) := by omega
   clear c0 c1 c2 c3 HF HC hW1 hW2 hu
   generalize x k = X at *
   obtain ⟨xa, xb, xp, xq⟩ := X
   dsimp only at x0 x1 x2 x3 HK
   generalize g k = gk at *
   generalize mxG g k = mk at *
   go_wp2_with (go_at_call 112; refine (HK.out _ (HU.out.alloc _)).mono ?_; rintro o w5 ⟨rfl, u5⟩; have U5 := hid ((HU.out.alloc _).trans u5); clear u5)
   go_roundw
   case rel => exact ⟨k + 1, hlt, by go_num, by rw [HS.out, ← mxI], U5.out⟩
   case measure => simp [intOf]; omega
  ·obtain rfl : k = n := by omega
   clear hu HF HC
   go_wp2
   go_ret
   exact ⟨rfl, HU.out⟩
end Go.Proofs.YtgeinnaljlajoaaGreat
namespace Go.Proofs.YtgeinnaljlajoaaGreat
open Go.RowKit Go.Lib
set_option linter.unusedVariables false
set_option linter.unusedSimpArgs false
set_option maxRecDepth 20000
structure Tp where
 t1 : Nat
 t2 : Nat
 t3 : Nat
 t4 : Nat
structure Tv where
 u1 : Value
 u2 : Value
 u3 : Value
 u4 : Value
def tbl (P : Tp) (V : Tv) : List Nat := Vx.blks P.t1 V.u1 ++ (Vx.blks P.t2 V.u2 ++ (Vx.blks P.t3 V.u3 ++ Py.blks P.t4 V.u4))
theorem mem_tbl {P : Tp} {V : Tv} {k : Nat} : k ∈ tbl P V ↔ k ∈ Vx.blks P.t1 V.u1 ∨ k ∈ Vx.blks P.t2 V.u2 ∨ k ∈ Vx.blks P.t3 V.u3 ∨ k ∈ Py.blks P.t4 V.u4 := by simp [tbl]
structure TabsAt (base : Nat) (P : Tp) (V : Tv) (most : Int) (t : Tb) (w : World) : Prop where
 a1 : Vx.TabAt base w P.t1 most V.u1 t.lw
 a2 : Vx.TabAt base w P.t2 most V.u2 t.lm
 a3 : Vx.TabAt base w P.t3 most V.u3 t.lr
 a4 : Py.TabAt base w P.t4 most V.u4 t.ls
 d12 : ∀ k ∈ Vx.blks P.t1 V.u1, k ∉ Vx.blks P.t2 V.u2
 d13 : ∀ k ∈ Vx.blks P.t1 V.u1, k ∉ Vx.blks P.t3 V.u3
 d14 : ∀ k ∈ Vx.blks P.t1 V.u1, k ∉ Py.blks P.t4 V.u4
 d23 : ∀ k ∈ Vx.blks P.t2 V.u2, k ∉ Vx.blks P.t3 V.u3
 d24 : ∀ k ∈ Vx.blks P.t2 V.u2, k ∉ Py.blks P.t4 V.u4
 d34 : ∀ k ∈ Vx.blks P.t3 V.u3, k ∉ Py.blks P.t4 V.u4
theorem TabsAt.old {base : Nat} {P : Tp} {V : Tv} {most : Int} {t : Tb} {w w' : World} (h : TabsAt base P V most t w) (u : Old w w') : TabsAt base P V most t w' := ⟨h.a1.old u, h.a2.old u, h.a3.old u, h.a4.old u, h.d12, h.d13, h.d14, h.d23, h.d24, h.d34⟩
theorem TabsAt.lt {base : Nat} {P : Tp} {V : Tv} {most : Int} {t : Tb} {w : World} (h : TabsAt base P V most t w) : ∀ k ∈ tbl P V, base ≤ k ∧ k < w.heap.size := fun k hk => by
 rcases mem_tbl.1 hk with q | q | q | q
 ·exact h.a1.blk k q
 ·exact h.a2.blk k q
 ·exact h.a3.blk k q
 ·exact h.a4.blk k q
theorem Vx.TabAt.far {base : Nat} {S : List Nat} {w w' : World} {b : Nat} {most : Int} {v : Value} {L : List Vx.It} (h : Vx.TabAt base w b most v L) (u : Chg S w w') (hn : ∀ k ∈ Vx.blks b v, k ∉ S) : Vx.TabAt base w' b most v L := h.chg u (hn b (Vx.mem_blks.2 (.inl rfl))) (fun g e => hn g (Vx.mem_blks.2 (.inr e)))
theorem Py.TabAt.far {base : Nat} {S : List Nat} {w w' : World} {b : Nat} {most : Int} {v : Value} {L : List Py.It} (h : Py.TabAt base w b most v L) (u : Chg S w w') (hn : ∀ k ∈ Py.blks b v, k ∉ S) : Py.TabAt base w' b most v L := h.chg u (hn b (Py.mem_blks.2 (.inl rfl))) (fun g e => hn g (Py.mem_blks.2 (.inr e)))
theorem TabsAt.chg {base : Nat} {S : List Nat} {P : Tp} {V : Tv} {most : Int} {t : Tb} {w w' : World} (h : TabsAt base P V most t w) (u : Chg S w w') (hn : ∀ k ∈ tbl P V, k ∉ S) : TabsAt base P V most t w' :=
 ⟨h.a1.far u (fun k q => hn k (mem_tbl.2 (.inl q))), h.a2.far u (fun k q => hn k (mem_tbl.2 (.inr (.inl q)))), h.a3.far u (fun k q => hn k (mem_tbl.2 (.inr (.inr (.inl q))))), h.a4.far u (fun k q => hn k (mem_tbl.2 (.inr (.inr (.inr q))))), h.d12, h.d13, h.d14, h.d23, h.d24, h.d34⟩
theorem chg_after {S T : List Nat} {a b c : World} (h : Chg S a b) (k : Chg T b c) (hT : ∀ i ∈ T, i ∈ S ∨ a.heap.size ≤ i) : Chg S a c :=
 ⟨k.os.trans h.os, k.tape.trans h.tape, k.output.trans h.output, Nat.le_trans h.size k.size, fun i hi hn => (k.block i (Nat.lt_of_lt_of_le hi h.size) (fun q => by rcases hT i q with z | z; exact hn z; omega)).trans (h.block i hi hn)⟩
def TMov (P : Tp) (w : World) (V : Tv) (w' : World) (V' : Tv) : Prop := Chg (tbl P V) w w' ∧ ∀ k ∈ tbl P V', k ∈ tbl P V ∨ w.heap.size ≤ k
theorem TMov.refl (P : Tp) (w : World) (V : Tv) : TMov P w V w V := ⟨Chg.refl _ _, fun k h => .inl h⟩
theorem TMov.old {P : Tp} {w w' : World} {V : Tv} (u : Old w w') : TMov P w V w' V := ⟨Chg.ofOld u, fun k h => .inl h⟩
theorem TMov.trans {P : Tp} {w w1 w2 : World} {V V1 V2 : Tv} (h : TMov P w V w1 V1) (k : TMov P w1 V1 w2 V2) : TMov P w V w2 V2 := by
 refine ⟨chg_after h.1 k.1 (fun i hi => ?_), fun i hi => ?_⟩
 ·exact h.2 i hi
 ·rcases k.2 i hi with q | q
  ·exact h.2 i q
  ·exact .inr (Nat.le_trans h.1.size q)
theorem TabsAt.put1 {base : Nat} {P : Tp} {V : Tv} {most : Int} {t : Tb} {w w' : World} (h : TabsAt base P V most t w) {v' : Value} {L' : List Vx.It} (a : Vx.TabAt base w' P.t1 most v' L') (c : Chg (Vx.blks P.t1 V.u1) w w') (hv : ∀ g, v'.ownBlock = some g → V.u1.ownBlock = some g ∨ w.heap.size ≤ g) :
    TabsAt base P { V with u1 := v' } most { t with lw := L' } w' ∧ TMov P w V w' { V with u1 := v' } := by
 have hb : ∀ k ∈ Vx.blks P.t1 v', k ∈ Vx.blks P.t1 V.u1 ∨ w.heap.size ≤ k := fun k hk => by
  rcases Vx.mem_blks.1 hk with q | q
  ·exact .inl (Vx.mem_blks.2 (.inl q))
  ·rcases hv k q with z | z
   ·exact .inl (Vx.mem_blks.2 (.inr z))
   ·exact .inr z
 refine ⟨⟨a, h.a2.far c (fun k q z => h.d12 k z q), h.a3.far c (fun k q z => h.d13 k z q), h.a4.far c (fun k q z => h.d14 k z q), fun k hk z => by rcases hb k hk with y | y; exact h.d12 k y z; have := (h.a2.blk k z).2; omega, fun k hk z => by rcases hb k hk with y | y; exact h.d13 k y z; have := (h.a3.blk k z).2; omega, fun k hk z => by rcases hb k hk with y | y; exact h.d14 k y z; have := (h.a4.blk k z).2; omega, h.d23, h.d24, h.d34⟩, ⟨c.mono (fun k hk _ => mem_tbl.2 (.inl hk)), fun k hk => ?_⟩⟩
 rcases mem_tbl.1 hk with q | q | q | q
 ·rcases hb k q with z | z
  ·exact .inl (mem_tbl.2 (.inl z))
  ·exact .inr z
 ·exact .inl (mem_tbl.2 (.inr (.inl q)))
 ·exact .inl (mem_tbl.2 (.inr (.inr (.inl q))))
 ·exact .inl (mem_tbl.2 (.inr (.inr (.inr q))))
theorem TabsAt.put2 {base : Nat} {P : Tp} {V : Tv} {most : Int} {t : Tb} {w w' : World} (h : TabsAt base P V most t w) {v' : Value} {L' : List Vx.It} (a : Vx.TabAt base w' P.t2 most v' L') (c : Chg (Vx.blks P.t2 V.u2) w w') (hv : ∀ g, v'.ownBlock = some g → V.u2.ownBlock = some g ∨ w.heap.size ≤ g) :
    TabsAt base P { V with u2 := v' } most { t with lm := L' } w' ∧ TMov P w V w' { V with u2 := v' } := by
 have hb : ∀ k ∈ Vx.blks P.t2 v', k ∈ Vx.blks P.t2 V.u2 ∨ w.heap.size ≤ k := fun k hk => by
  rcases Vx.mem_blks.1 hk with q | q
  ·exact .inl (Vx.mem_blks.2 (.inl q))
  ·rcases hv k q with z | z
   ·exact .inl (Vx.mem_blks.2 (.inr z))
   ·exact .inr z
 refine ⟨⟨h.a1.far c (fun k q z => h.d12 k q z), a, h.a3.far c (fun k q z => h.d23 k z q), h.a4.far c (fun k q z => h.d24 k z q), fun k hk z => by rcases hb k z with y | y; exact h.d12 k hk y; have := (h.a1.blk k hk).2; omega, h.d13, h.d14, fun k hk z => by rcases hb k hk with y | y; exact h.d23 k y z; have := (h.a3.blk k z).2; omega, fun k hk z => by rcases hb k hk with y | y; exact h.d24 k y z; have := (h.a4.blk k z).2; omega, h.d34⟩, ⟨c.mono (fun k hk _ => mem_tbl.2 (.inr (.inl hk))), fun k hk => ?_⟩⟩
 rcases mem_tbl.1 hk with q | q | q | q
 ·exact .inl (mem_tbl.2 (.inl q))
 ·rcases hb k q with z | z
  ·exact .inl (mem_tbl.2 (.inr (.inl z)))
  ·exact .inr z
 ·exact .inl (mem_tbl.2 (.inr (.inr (.inl q))))
 ·exact .inl (mem_tbl.2 (.inr (.inr (.inr q))))
theorem TabsAt.put3 {base : Nat} {P : Tp} {V : Tv} {most : Int} {t : Tb} {w w' : World} (h : TabsAt base P V most t w) {v' : Value} {L' : List Vx.It} (a : Vx.TabAt base w' P.t3 most v' L') (c : Chg (Vx.blks P.t3 V.u3) w w') (hv : ∀ g, v'.ownBlock = some g → V.u3.ownBlock = some g ∨ w.heap.size ≤ g) :
    TabsAt base P { V with u3 := v' } most { t with lr := L' } w' ∧ TMov P w V w' { V with u3 := v' } := by
 have hb : ∀ k ∈ Vx.blks P.t3 v', k ∈ Vx.blks P.t3 V.u3 ∨ w.heap.size ≤ k := fun k hk => by
  rcases Vx.mem_blks.1 hk with q | q
  ·exact .inl (Vx.mem_blks.2 (.inl q))
  ·rcases hv k q with z | z
   ·exact .inl (Vx.mem_blks.2 (.inr z))
   ·exact .inr z
 refine ⟨⟨h.a1.far c (fun k q z => h.d13 k q z), h.a2.far c (fun k q z => h.d23 k q z), a, h.a4.far c (fun k q z => h.d34 k z q), h.d12, fun k hk z => by rcases hb k z with y | y; exact h.d13 k hk y; have := (h.a1.blk k hk).2; omega, h.d14, fun k hk z => by rcases hb k z with y | y; exact h.d23 k hk y; have := (h.a2.blk k hk).2; omega, h.d24, fun k hk z => by rcases hb k hk with y | y; exact h.d34 k y z; have := (h.a4.blk k z).2; omega⟩, ⟨c.mono (fun k hk _ => mem_tbl.2 (.inr (.inr (.inl hk)))), fun k hk => ?_⟩⟩
 rcases mem_tbl.1 hk with q | q | q | q
 ·exact .inl (mem_tbl.2 (.inl q))
 ·exact .inl (mem_tbl.2 (.inr (.inl q)))
 ·rcases hb k q with z | z
  ·exact .inl (mem_tbl.2 (.inr (.inr (.inl z))))
  ·exact .inr z
 ·exact .inl (mem_tbl.2 (.inr (.inr (.inr q))))
theorem TabsAt.put4 {base : Nat} {P : Tp} {V : Tv} {most : Int} {t : Tb} {w w' : World} (h : TabsAt base P V most t w) {v' : Value} {L' : List Py.It} (a : Py.TabAt base w' P.t4 most v' L') (c : Chg (Py.blks P.t4 V.u4) w w') (hv : ∀ g, v'.ownBlock = some g → V.u4.ownBlock = some g ∨ w.heap.size ≤ g) :
    TabsAt base P { V with u4 := v' } most { t with ls := L' } w' ∧ TMov P w V w' { V with u4 := v' } := by
 have hb : ∀ k ∈ Py.blks P.t4 v', k ∈ Py.blks P.t4 V.u4 ∨ w.heap.size ≤ k := fun k hk => by
  rcases Py.mem_blks.1 hk with q | q
  ·exact .inl (Py.mem_blks.2 (.inl q))
  ·rcases hv k q with z | z
   ·exact .inl (Py.mem_blks.2 (.inr z))
   ·exact .inr z
 refine ⟨⟨h.a1.far c (fun k q z => h.d14 k q z), h.a2.far c (fun k q z => h.d24 k q z), h.a3.far c (fun k q z => h.d34 k q z), a, h.d12, h.d13, fun k hk z => by rcases hb k z with y | y; exact h.d14 k hk y; have := (h.a1.blk k hk).2; omega, h.d23, fun k hk z => by rcases hb k z with y | y; exact h.d24 k hk y; have := (h.a2.blk k hk).2; omega, fun k hk z => by rcases hb k z with y | y; exact h.d34 k hk y; have := (h.a3.blk k hk).2; omega⟩, ⟨c.mono (fun k hk _ => mem_tbl.2 (.inr (.inr (.inr hk)))), fun k hk => ?_⟩⟩
 rcases mem_tbl.1 hk with q | q | q | q
 ·exact .inl (mem_tbl.2 (.inl q))
 ·exact .inl (mem_tbl.2 (.inr (.inl q)))
 ·exact .inl (mem_tbl.2 (.inr (.inr (.inl q))))
 ·rcases hb k q with z | z
  ·exact .inl (mem_tbl.2 (.inr (.inr (.inr z))))
  ·exact .inr z
structure Kg where
 p : Kp
 a1 : Option Addr
 a2 : Option Addr
 a3 : Option Addr
 c1 : Nat
 c2 : Nat
 c3 : Nat
abbrev Kg.v1 (k : Kg) : Value := .slice k.a1 k.p.u.R.length k.c1
abbrev Kg.v2 (k : Kg) : Value := .slice k.a2 k.p.u.P.length k.c2
abbrev Kg.v3 (k : Kg) : Value := .slice k.a3 k.p.u.W.length k.c3
def kgc (k : Kg) : List Value := [.int .i64 k.p.n, .int .i64 k.p.u.s1, .int .i64 k.p.u.s2, .int .i64 k.p.u.s3, k.v1, k.v2, k.v3, .bool k.p.o]
def kgcs (L : List Kg) : List Value := L.flatMap kgc
theorem kgcs_len (L : List Kg) : (kgcs L).length = L.length * 8 := flat_len kgc 8 (fun _ => rfl) L
theorem kgcs_app (L M : List Kg) : kgcs L ++ kgcs M = kgcs (L ++ M) := by simp [kgcs]
theorem kgc_one (k : Kg) : ∀ u ∈ kgc k, u.oneCell' = true := by
 intro u hu
 simp only [kgc, List.mem_cons, List.not_mem_nil, or_false] at hu
 rcases hu with rfl | rfl | rfl | rfl | rfl | rfl | rfl | rfl <;> rfl
theorem kgcs_one (L : List Kg) : ∀ u ∈ kgcs L, u.oneCell' = true := by
 intro u hu
 obtain ⟨k, _, h⟩ := List.mem_flatMap.1 hu
 exact kgc_one k u h
structure KOk (base : Nat) (k : Kg) (w : World) : Prop where
 r : OwnF base w k.v1 k.p.u.R
 s : OwnS base w k.v2 k.p.u.P
 w : OwnF base w k.v3 k.p.u.W
 f : k.p.u.F
 l : k.p.u.R.length ≤ 17592186044000 ∧ k.p.u.P.length ≤ 5864062014805 ∧ k.p.u.W.length ≤ 17592186044000
theorem KOk.old {base : Nat} {k : Kg} {w w' : World} (h : KOk base k w) (u : Old w w') : KOk base k w' := ⟨h.r.up u, h.s.old u, h.w.up u, h.f, h.l⟩
theorem own_chg {base : Nat} {S : List Nat} {w w' : World} {t : TypeId} {k n : Nat} {xs : List Value} {v : Value} (h : w.ownsRow base t k v n xs) (u : Chg S w w') (hn : ∀ g, v.ownBlock = some g → g ∉ S) : w'.ownsRow base t k v n xs := by
 refine ⟨h.1, ?_⟩
 rcases h.2 with e | ⟨g, cap, cur, e, hb', hg, r⟩
 ·exact .inl e
 ·subst e
  exact .inr ⟨g, cap, cur, rfl, hb', u.heapAt hg (hn g rfl), r⟩
def Kg.bl (k : Kg) : List Nat := k.v1.ownBlock.toList ++ (k.v2.ownBlock.toList ++ k.v3.ownBlock.toList)
theorem mem_kbl {k : Kg} {g : Nat} : g ∈ k.bl ↔ k.v1.ownBlock = some g ∨ k.v2.ownBlock = some g ∨ k.v3.ownBlock = some g := by simp [Kg.bl, Option.mem_toList]
theorem KOk.chg {base : Nat} {S : List Nat} {k : Kg} {w w' : World} (h : KOk base k w) (u : Chg S w w') (hn : ∀ g ∈ k.bl, g ∉ S) : KOk base k w' :=
 ⟨own_chg h.r u (fun g e => hn g (mem_kbl.2 (.inl e))), own_chg h.s u (fun g e => hn g (mem_kbl.2 (.inr (.inl e)))), own_chg h.w u (fun g e => hn g (mem_kbl.2 (.inr (.inr e)))), h.f, h.l⟩
theorem KOk.lt {base : Nat} {k : Kg} {w : World} (h : KOk base k w) : ∀ g ∈ k.bl, base ≤ g ∧ g < w.heap.size := fun g hg => by
 rcases mem_kbl.1 hg with q | q | q
 ·exact World.ownsRow.lt h.r g q
 ·exact World.ownsRow.lt h.s g q
 ·exact World.ownsRow.lt h.w g q
structure Cg where
 c : Cp
 kn : List Kg
 vr : Value
 P : Tp
 V : Tv
def mblC (cb : Nat) (G : Cg) : List Nat := cb :: (G.vr.ownBlock.toList ++ tbl G.P G.V)
theorem mem_mblC {cb : Nat} {G : Cg} {k : Nat} : k ∈ mblC cb G ↔ k = cb ∨ G.vr.ownBlock = some k ∨ k ∈ tbl G.P G.V := by simp [mblC, Option.mem_toList]
abbrev pV (t : Nat) : Value := .pointer (some ⟨t, 0, none⟩)
def boxC (c : Cp) (vr : Value) (P : Tp) : Array Value := #[.int .i64 c.keep, .int .i64 c.cnt, .int .i64 c.hor, vr, pV P.t1, pV P.t2, pV P.t3, pV P.t4]
structure CtAt (base cb : Nat) (G : Cg) (w : World) : Prop where
 bx : w.heap[cb]? = some (.cells (boxC G.c G.vr G.P) 59 (0, 0))
 bb : base ≤ cb
 row : w.ownsRow base 93 8 G.vr G.kn.length (kgcs G.kn)
 kk : ∀ k ∈ G.kn, KOk base k w
 kp : G.kn.map (·.p) = G.c.rc
 ta : TabsAt base G.P G.V G.c.most G.c.tb w
 n1 : G.vr.ownBlock ≠ some cb
 n2 : cb ∉ tbl G.P G.V
 n3 : ∀ g, G.vr.ownBlock = some g → g ∉ tbl G.P G.V
 far : ∀ k ∈ G.kn, ∀ g ∈ k.bl, g ∉ mblC cb G
theorem CtAt.old {base cb : Nat} {G : Cg} {w w' : World} (h : CtAt base cb G w) (u : Old w w') : CtAt base cb G w' := ⟨u.block h.bx, h.bb, own_old h.row u, fun k hk => (h.kk k hk).old u, h.kp, h.ta.old u, h.n1, h.n2, h.n3, h.far⟩
theorem CtAt.lt {base cb : Nat} {G : Cg} {w : World} (h : CtAt base cb G w) : ∀ k ∈ mblC cb G, base ≤ k ∧ k < w.heap.size := fun k hk => by
 rcases mem_mblC.1 hk with rfl | q | q
 ·exact ⟨h.bb, heap_lt h.bx⟩
 ·exact World.ownsRow.lt h.row k q
 ·exact h.ta.lt k q
def CMov (cb : Nat) (w : World) (G : Cg) (w' : World) (G' : Cg) : Prop := Chg (mblC cb G) w w' ∧ ∀ k ∈ mblC cb G', k ∈ mblC cb G ∨ w.heap.size ≤ k
theorem CMov.refl (cb : Nat) (w : World) (G : Cg) : CMov cb w G w G := ⟨Chg.refl _ _, fun k h => .inl h⟩
theorem CMov.old {cb : Nat} {w w' : World} {G : Cg} (u : Old w w') : CMov cb w G w' G := ⟨Chg.ofOld u, fun k h => .inl h⟩
theorem CMov.trans {cb : Nat} {w w1 w2 : World} {G G1 G2 : Cg} (h : CMov cb w G w1 G1) (k : CMov cb w1 G1 w2 G2) : CMov cb w G w2 G2 := by
 refine ⟨chg_after h.1 k.1 h.2, fun i hi => ?_⟩
 rcases k.2 i hi with q | q
 ·exact h.2 i q
 ·exact .inr (Nat.le_trans h.1.size q)
theorem CMov.keep {W0 w w' : World} {cb : Nat} {G G' : Cg} (u : Old W0 w) (h : CtAt W0.heap.size cb G w) (m : CMov cb w G w' G') : Old W0 w' :=
 Old.below u (m.1.below _ (fun k hk => (h.lt k hk).1) u.size)
theorem CtAt.chg {base cb : Nat} {S : List Nat} {G : Cg} {w w' : World} (h : CtAt base cb G w) (u : Chg S w w') (hn : ∀ k ∈ mblC cb G, k ∉ S) (hk : ∀ k ∈ G.kn, ∀ g ∈ k.bl, g ∉ S) : CtAt base cb G w' :=
 ⟨u.heapAt h.bx (hn cb (mem_mblC.2 (.inl rfl))), h.bb, own_chg h.row u (fun g e => hn g (mem_mblC.2 (.inr (.inl e)))), fun k q => (h.kk k q).chg u (hk k q), h.kp, h.ta.chg u (fun k q => hn k (mem_mblC.2 (.inr (.inr q)))), h.n1, h.n2, h.n3, h.far⟩
theorem CtAt.setT {base cb : Nat} {G : Cg} {w w' : World} (h : CtAt base cb G w) {V' : Tv} {t' : Tb} (a : TabsAt base G.P V' G.c.most t' w') (m : TMov G.P w G.V w' V') : CtAt base cb { G with V := V', c := G.c.with t' } w' ∧ CMov cb w G w' { G with V := V', c := G.c.with t' } := by
 have hS : ∀ k ∈ tbl G.P G.V, k ∈ mblC cb G := fun k q => mem_mblC.2 (.inr (.inr q))
 have hf : ∀ k ∈ tbl G.P V', k ∈ tbl G.P G.V ∨ w.heap.size ≤ k := m.2
 have hc := heap_lt h.bx
 refine ⟨⟨m.1.heapAt h.bx h.n2, h.bb, own_chg h.row m.1 h.n3, fun k q => (h.kk k q).chg m.1 (fun g hg z => h.far k q g hg (hS g z)), h.kp, a, h.n1, fun z => ?_, fun g e z => ?_, fun k q g hg z => ?_⟩, ⟨m.1.mono (fun k q _ => hS k q), fun k q => ?_⟩⟩
 ·rcases hf cb z with y | y
  ·exact h.n2 y
  ·omega
 ·rcases hf g z with y | y
  ·exact h.n3 g e y
  ·have := (World.ownsRow.lt h.row g e).2; omega
 ·rcases mem_mblC.1 z with y | y | y
  ·exact h.far k q g hg (mem_mblC.2 (.inl y))
  ·exact h.far k q g hg (mem_mblC.2 (.inr (.inl y)))
  ·rcases hf g y with x | x
   ·exact h.far k q g hg (hS g x)
   ·have := ((h.kk k q).lt g hg).2; omega
 ·rcases mem_mblC.1 q with y | y | y
  ·exact .inl (mem_mblC.2 (.inl y))
  ·exact .inl (mem_mblC.2 (.inr (.inl y)))
  ·rcases hf k y with x | x
   ·exact .inl (hS k x)
   ·exact .inr x
def Kg.sb (k : Kg) : Sb := ⟨k.p.u.s1, k.p.u.s2, k.p.u.s3, k.a1, k.a2, k.a3, k.p.u.R.length, k.p.u.P.length, k.p.u.W.length, k.c1, k.c2, k.c3, fun i => k.p.u.R.getD i 0, fun i => k.p.u.W.getD i 0, fun i => k.p.u.P.getD i ⟨0, 0, false, false⟩⟩
theorem lsG_getD {α : Type} (L : List α) (d : α) : lsG (fun i => L.getD i d) L.length = L := by
 apply List.ext_getElem?
 intro i
 by_cases hi : i < L.length
 ·rw [lsG_at _ _ _ hi, List.getD_eq_getElem?_getD, List.getElem?_eq_getElem hi]; rfl
 ·rw [List.getElem?_eq_none (by rw [lsG_len]; omega), List.getElem?_eq_none (by omega)]
theorem Kg.sb_pl (k : Kg) : k.sb.pl = k.p.u := by
 unfold Kg.sb Sb.pl
 dsimp only
 rw [lsG_getD, lsG_getD, lsG_getD]
theorem OwnF.frow {base : Nat} {w : World} {v : Value} {L : List Nat} (h : OwnF base w v L) (hf : ∀ k ∈ L, Fl.W k) (hl : L.length ≤ 9223372036854775807) : FRow w v L.length (fun i => L.getD i 0) := by
 obtain ⟨a, c, e⟩ := h.len
 refine ⟨hl, a, c, e, fun i hi => ?_⟩
 obtain ⟨g, cap, e2, _, _, hc⟩ := h.shape (by omega)
 rw [e] at e2
 injection e2 with e3
 have z : (fun i => L.getD i 0) i = L[i] := by dsimp only; rw [List.getD_eq_getElem?_getD, List.getElem?_eq_getElem hi]; rfl
 refine ⟨g, 0, e3, ?_, ?_⟩
 ·rw [z]; exact hf _ (List.getElem_mem hi)
 ·rw [Nat.zero_add, hc i hi, z]
theorem OwnS.srow {base : Nat} {w : World} {v : Value} {L : List Sp} (h : OwnS base w v L) (hf : ∀ s ∈ L, Fl.W s.a ∧ Fl.W s.b) (hl : L.length ≤ 9223372036854775807) : SRow w v L.length (fun i => L.getD i ⟨0, 0, false, false⟩) := by
 obtain ⟨a, c, e⟩ := h.len
 refine ⟨hl, a, c, e, fun i hi => ?_⟩
 obtain ⟨g, cap, e2, _, _, _, _, hc, _⟩ := h.shape (by omega)
 rw [e] at e2
 injection e2 with e3
 have q := hc i hi
 have z : (fun i => L.getD i ⟨0, 0, false, false⟩) i = L[i] := by dsimp only; rw [List.getD_eq_getElem?_getD, List.getElem?_eq_getElem hi]; rfl
 rw [z]
 refine ⟨g, 0, e3, (hf _ (List.getElem_mem hi)).1, (hf _ (List.getElem_mem hi)).2, ?_, ?_, ?_, ?_⟩
 ·rw [Nat.zero_add]; exact q.1
 ·rw [Nat.zero_add]; exact q.2.1
 ·rw [Nat.zero_add]; exact q.2.2.1
 ·rw [Nat.zero_add]; exact q.2.2.2
def Su.few (u : Su) : Prop := u.R.length ≤ 17592186044000 ∧ u.P.length ≤ 5864062014805 ∧ u.W.length ≤ 17592186044000
theorem KOk.few {base : Nat} {k : Kg} {w : World} (h : KOk base k w) : k.p.u.few := h.l
theorem KOk.sb {base : Nat} {k : Kg} {w : World} (h : KOk base k w) : k.sb.Ok w := by
 have hl := h.few
 exact   ⟨h.r.frow h.f.1 (by have := hl.1; omega), h.s.srow h.f.2.1 (by have := hl.2.1; omega), h.w.frow h.f.2.2 (by have := hl.2.2; omega), hl.1, hl.2.1, hl.2.2⟩
theorem Sb.plF {s : Sb} {w : World} (h : s.Ok w) : s.pl.F := by
 refine ⟨fun k hk => ?_, fun k hk => ?_, fun k hk => ?_⟩
 ·obtain ⟨i, hi, rfl⟩ := lsG_mem hk
  exact h.h1.ws i hi
 ·obtain ⟨i, hi, rfl⟩ := lsG_mem hk
  exact h.h2.ws i hi
 ·obtain ⟨i, hi, rfl⟩ := lsG_mem hk
  exact h.h3.ws i hi
theorem Sb.few {s : Sb} {w : World} (h : s.Ok w) : s.pl.few := by
 refine ⟨?_, ?_, ?_⟩
 ·show (lsG s.x1 s.n1).length ≤ _; rw [lsG_len]; exact h.b1
 ·show (lsG s.f2 s.n2).length ≤ _; rw [lsG_len]; exact h.b2
 ·show (lsG s.x3 s.n3).length ≤ _; rw [lsG_len]; exact h.b3
end Go.Proofs.YtgeinnaljlajoaaGreat
namespace Go.Proofs.YtgeinnaljlajoaaGreat
open Go.RowKit Go.Lib
set_option linter.unusedVariables false
set_option linter.unusedSimpArgs false
set_option maxRecDepth 20000
attribute [local go_sem] run_bits run_frombits run_store_float eqF
set_option maxHeartbeats 1000000 in
theorem index_cb (v : Value) (n : Nat) (f : Nat → Nat) (g : Nat → Bool) (kb : Nat) (w : World) (hv : FRow w v n f) (hf : ∀ i, i < n → ∀ W, Old w W → Calls Tryz.prog 114 #[.float .f64 (f i), .pointer (some ⟨kb, 0, none⟩)] W fun e w' => e = .returned (.bool (g i)) ∧ Old W w') :
    Calls Tryz.prog 80 #[v, .func (.func 114) #[] #[.pointer (some ⟨kb, 0, none⟩)]] w fun e w' => ∃ r : Int, e = .returned (.int .i64 r) ∧ decide (0 ≤ r) = Fl.anyG g n ∧ Old w w' := by
 obtain ⟨hm, a, c, rfl, hc⟩ := hv
 have HC := hid hc
 have HF := hid hf
 have hmm := hm
 clear hc hf hm
 go_enter Tryz.func80, Tryz.ntmps80
 go_wp2
 go_loopw [8] (fun i wr => ∃ k : Nat, k ≤ n ∧ i = .int .i64 (k : Nat) ∧ Fl.anyG g k = false ∧ Old w wr) (fun i _ => n - (intOf i).toNat)
 case atStart => exact ⟨0, Nat.zero_le _, rfl, rfl, Old.refl _⟩
 case round =>
  obtain ⟨k, hk, rfl, h0, hu⟩ := hrel
  by_cases hlt : k < n
  ·obtain ⟨b, off, ha, hW, c0⟩ := HC.out k hlt
   subst ha
   have x0 := hu.keep c0
   have HK := hid (HF.out k hlt)
   have l1 : (0 : Int) ≤ (k : Int) := by omega
   have l2 : (k : Int) < (n : Int) := by omega
   have H0 := hid h0
   clear c0 h0 HF HC
   generalize f k = X at *
   cases hg : g k
   ·rw [hg] at HK
    have HS := hid (Fl.anyG_step g k H0.out hg)
    clear hg
    go_wp2_with (go_at_call 114; refine (HK.out _ hu).mono ?_; rintro o w5 ⟨rfl, u5⟩)
    go_roundw
    case rel => exact ⟨k + 1, hlt, by go_num, HS.out, Old.trans hu u5⟩
    case measure => simp [intOf]; omega
   ·have HT := hid (Fl.anyG_true g n k hlt hg)
    rw [hg] at HK
    clear hg
    go_wp2_with (go_at_call 114; refine (HK.out _ hu).mono ?_; rintro o w5 ⟨rfl, u5⟩)
    go_ret
    exact ⟨_, rfl, by rw [HT.out]; simp, Old.trans hu u5⟩
  ·obtain rfl : k = n := by omega
   have H0 := hid h0
   clear h0
   go_wp2
   go_ret
   exact ⟨_, rfl, by rw [H0.out]; rfl, hu⟩
set_option maxHeartbeats 400000 in
theorem contains_cb (v : Value) (n : Nat) (f : Nat → Nat) (g : Nat → Bool) (kb : Nat) (w : World) (hv : FRow w v n f) (hf : ∀ i, i < n → ∀ W, Old w W → Calls Tryz.prog 114 #[.float .f64 (f i), .pointer (some ⟨kb, 0, none⟩)] W fun e w' => e = .returned (.bool (g i)) ∧ Old W w') :
    Calls Tryz.prog 45 #[v, .func (.func 114) #[] #[.pointer (some ⟨kb, 0, none⟩)]] w fun e w' => e = .returned (.bool (Fl.anyG g n)) ∧ Old w w' := by
 have HI := hid (index_cb v n f g kb w hv hf)
 clear hv hf
 go_enter Tryz.func45, Tryz.ntmps45
 go_wp2_with (go_at_call 80; refine HI.out.mono ?_; rintro o w5 ⟨r, rfl, hr, u5⟩; have HR := hid hr; clear hr)
 go_ret
 exact ⟨ret_b (by rw [← HR.out]), u5⟩
set_option maxHeartbeats 1000000 in
theorem cb1_any (a : Sb) (k ab : Nat) (hk : Fl.W k) (w : World) (ha : a.Ok w) (h : SubAt ab a.s1 a.s2 a.s3 (.slice a.a1 a.n1 a.c1) (.slice a.a2 a.n2 a.c2) (.slice a.a3 a.n3 a.c3) w) :
    Calls Tryz.prog 114 #[.float .f64 k, .pointer (some ⟨ab, 0, none⟩)] w fun e w' => e = .returned (.bool (writeB a k)) ∧ Old w w' := by
 have HR := hid (writes_any a k hk w ha)
 generalize writeB a k = r at *
 obtain ⟨t0, t1, t2, t3, t4, t5⟩ := h
 clear ha
 go_enter Tryz.func114, Tryz.ntmps114
 go_wp2_with (go_at_call 68; refine HR.out.mono ?_; rintro e w2 ⟨rfl, u2⟩; have U2 := hid u2; clear u2)
 go_ret
 exact ⟨rfl, U2.out⟩
def bwS (a b : Sb) : Bool := Fl.anyG (fun i => writeB b (a.x3 i)) a.n3
theorem bwS_pl (a b : Sb) : bwS a b = bwU a.pl b.pl := by
 have h : bwS a b = Fl.anyG (fun i => writeU b.pl (a.x3 i)) a.n3 := by
  unfold bwS
  congr 1
  funext i
  exact writeU_pl b _
 rw [h, anyG_list a.x3 (fun k => writeU b.pl k)]
 rfl
set_option maxHeartbeats 1000000 in
theorem cbWrite_any (a b : Sb) (w : World) (ha : a.Ok w) (hb : b.Ok w) :
    Calls Tryz.prog 87 #[.agg #[.int .i64 a.s1, .int .i64 a.s2, .int .i64 a.s3, .slice a.a1 a.n1 a.c1, .slice a.a2 a.n2 a.c2, .slice a.a3 a.n3 a.c3], .agg #[.int .i64 b.s1, .int .i64 b.s2, .int .i64 b.s3, .slice b.a1 b.n1 b.c1, .slice b.a2 b.n2 b.c2, .slice b.a3 b.n3 b.c3]] w fun e w' => e = .returned (.bool (bwS a b)) ∧ Old w w' := by
 have hmf : ∀ (fn : Fn) (first cap : Array Value) (w : World), (Instr.makeFunc fn first cap).run Tryz.prog w = .ok (.func fn first cap) w := fun _ _ _ _ => rfl
 have HC := hid (fun (W : World) (ab : Nat) (u : Old w W) (h : SubAt ab b.s1 b.s2 b.s3 (.slice b.a1 b.n1 b.c1) (.slice b.a2 b.n2 b.c2) (.slice b.a3 b.n3 b.c3) W) => contains_cb _ a.n3 a.x3 (fun i => writeB b (a.x3 i)) ab W (ha.h3.old u) (fun i hi V k => cb1_any b (a.x3 i) ab (ha.h3.ws i hi) V ((hb.old u).old k) (SubAt.old k h)))
 unfold bwS
 generalize Fl.anyG (fun i => writeB b (a.x3 i)) a.n3 = r at *
 clear ha hb
 go_enter Tryz.func87, Tryz.ntmps87
 go_upto_region 1 with fail
 generalize hw1 : (w.alloc (.cells #[.int .i64 a.s1, .int .i64 a.s2, .int .i64 a.s3, .slice a.a1 a.n1 a.c1, .slice a.a2 a.n2 a.c2, .slice a.a3 a.n3 a.c3] 25)).alloc (.cells #[.int .i64 b.s1, .int .i64 b.s2, .int .i64 b.s3, .slice b.a1 b.n1 b.c1, .slice b.a2 b.n2 b.c2, .slice b.a3 b.n3 b.c3] 25) = w1 at *
 have HW := hid (two_new w a b w1 hw1 _ rfl)
 generalize w.heap.size = m at *
 clear hw1
 have HC1 := hid (HC.out w1 (m + 1) HW.out.2.2 HW.out.2.1)
 obtain ⟨u0, u1, u2, u3, u4, u5⟩ := HW.out.1
 clear HC
 go_wp2_with (go_at_call 45; refine HC1.out.mono ?_; rintro e w2 ⟨rfl, v2⟩; have V2 := hid (HW.out.2.2.trans v2); clear v2)
 go_ret
 exact ⟨rfl, V2.out⟩
def metV (m : Met) : Array Value := #[.bool m.w, .bool m.m, .int .i64 m.f, .int .i64 m.l]
abbrev MBx (b : Nat) (m : Met) (w : World) : Prop := w.heap[b]? = some (.cells #[.bool m.w, .bool m.m, .int .i64 m.f, .int .i64 m.l] 64 (0, 0))
theorem box4M {w : World} {b : Nat} {x y z u : Value} {T : TypeId} (h : w.heap[b]? = some (.cells #[x, y, z, u] T (0, 0))) : (w.cell? ⟨b, 0, none⟩ = some x ∧ w.cell? ⟨b, 1, none⟩ = some y ∧ w.cell? ⟨b, 2, none⟩ = some z ∧ w.cell? ⟨b, 3, none⟩ = some u) ∧ w.frozen? ⟨b, 0, none⟩ = false ∧ w.frozen? ⟨b, 1, none⟩ = false ∧ w.frozen? ⟨b, 2, none⟩ = false ∧ w.frozen? ⟨b, 3, none⟩ = false :=
 ⟨⟨by rw [Go.Joins.cell_of_block h]; rfl, by rw [Go.Joins.cell_of_block h]; rfl, by rw [Go.Joins.cell_of_block h]; rfl, by rw [Go.Joins.cell_of_block h]; rfl⟩, Go.Joins.unfrozen_of_block h 0, Go.Joins.unfrozen_of_block h 1, Go.Joins.unfrozen_of_block h 2, Go.Joins.unfrozen_of_block h 3⟩
theorem MBx.s0 {b : Nat} {m : Met} {w : World} (h : MBx b m w) (x : Bool) : MBx b { m with w := x } (w.setCell ⟨b, 0, none⟩ (.bool x)) := Go.Joins.block_setCell h _ (i := 0)
theorem MBx.s1 {b : Nat} {m : Met} {w : World} (h : MBx b m w) (x : Bool) : MBx b { m with m := x } (w.setCell ⟨b, 1, none⟩ (.bool x)) := Go.Joins.block_setCell h _ (i := 1)
theorem MBx.s2 {b : Nat} {m : Met} {w : World} (h : MBx b m w) (x : Int) : MBx b { m with f := x } (w.setCell ⟨b, 2, none⟩ (.int .i64 x)) := Go.Joins.block_setCell h _ (i := 2)
theorem MBx.s3 {b : Nat} {m : Met} {w : World} (h : MBx b m w) (x : Int) : MBx b { m with l := x } (w.setCell ⟨b, 3, none⟩ (.int .i64 x)) := Go.Joins.block_setCell h _ (i := 3)
theorem MBx.old {b : Nat} {m : Met} {w w' : World} (h : MBx b m w) (u : Old w w') : MBx b m w' := u.block h
theorem addM_eq (u : Su) (m : Met) (k : Kp) (bw m1 m2 : Bool) (h0 : bwU u k.u = bw) (h1 : meetU u k.u = m1) (h2 : meetU k.u u = m2) (r : Met) (e : r = ⟨m.w || bw, if m1 = true then m.m || k.o else m.m, if m1 = true ∧ m.f = 0 then k.n else m.f, if m2 = true then k.n else m.l⟩) : addM u m k = r := by
 subst h0 h1 h2 e
 rfl
theorem two_newK (w : World) (a b : Obj) : ((w.alloc a).alloc b).heap[w.heap.size]? = some a ∧ ((w.alloc a).alloc b).heap[w.heap.size + 1]? = some b := by
 refine ⟨?_, ?_⟩
 ·exact ((Old.refl (w.alloc a)).alloc b).block (by show (w.heap.push a)[w.heap.size]? = some a; simp)
 ·show ((w.heap.push a).push b)[w.heap.size + 1]? = some b
  rw [Array.getElem?_push, if_pos (by simp)]
abbrev SB6 (m : Nat) (s1 s2 s3 : Int) (v1 v2 v3 : Value) (w : World) : Prop := w.cell? ⟨m, 0, none⟩ = some (.int .i64 s1) ∧ w.cell? ⟨m, 1, none⟩ = some (.int .i64 s2) ∧ w.cell? ⟨m, 2, none⟩ = some (.int .i64 s3) ∧ w.cell? ⟨m, 3, none⟩ = some v1 ∧ w.cell? ⟨m, 4, none⟩ = some v2 ∧ w.cell? ⟨m, 5, none⟩ = some v3
theorem box6K {w : World} {b : Nat} {s1 s2 s3 : Int} {v1 v2 v3 : Value} {T : TypeId} (h : w.heap[b]? = some (.cells #[.int .i64 s1, .int .i64 s2, .int .i64 s3, v1, v2, v3] T (0, 0))) : SB6 b s1 s2 s3 v1 v2 v3 w := by
 refine ⟨?_, ?_, ?_, ?_, ?_, ?_⟩ <;> (rw [Go.Joins.cell_of_block h]; rfl)
abbrev KB8 (m : Nat) (n s1 s2 s3 : Int) (v1 v2 v3 : Value) (o : Bool) (w : World) : Prop := w.cell? ⟨m, 0, none⟩ = some (.int .i64 n) ∧ w.cell? ⟨m, 1, none⟩ = some (.int .i64 s1) ∧ w.cell? ⟨m, 2, none⟩ = some (.int .i64 s2) ∧ w.cell? ⟨m, 3, none⟩ = some (.int .i64 s3) ∧ w.cell? ⟨m, 4, none⟩ = some v1 ∧ w.cell? ⟨m, 5, none⟩ = some v2 ∧ w.cell? ⟨m, 6, none⟩ = some v3 ∧ w.cell? ⟨m, 7, none⟩ = some (.bool o)
theorem box8K {w : World} {b : Nat} {n s1 s2 s3 : Int} {v1 v2 v3 : Value} {o : Bool} {T : TypeId} (h : w.heap[b]? = some (.cells #[.int .i64 n, .int .i64 s1, .int .i64 s2, .int .i64 s3, v1, v2, v3, .bool o] T (0, 0))) : KB8 b n s1 s2 s3 v1 v2 v3 o w := by
 refine ⟨?_, ?_, ?_, ?_, ?_, ?_, ?_, ?_⟩ <;> (rw [Go.Joins.cell_of_block h]; rfl)
theorem SB6.chg {m : Nat} {s1 s2 s3 : Int} {v1 v2 v3 : Value} {w w' : World} {S : List Nat} (h : SB6 m s1 s2 s3 v1 v2 v3 w) (u : Chg S w w') (n : m ∉ S) : SB6 m s1 s2 s3 v1 v2 v3 w' := ⟨u.cell h.1 n, u.cell h.2.1 n, u.cell h.2.2.1 n, u.cell h.2.2.2.1 n, u.cell h.2.2.2.2.1 n, u.cell h.2.2.2.2.2 n⟩
theorem KB8.chg {m : Nat} {n s1 s2 s3 : Int} {v1 v2 v3 : Value} {o : Bool} {w w' : World} {S : List Nat} (h : KB8 m n s1 s2 s3 v1 v2 v3 o w) (u : Chg S w w') (k : m ∉ S) : KB8 m n s1 s2 s3 v1 v2 v3 o w' := ⟨u.cell h.1 k, u.cell h.2.1 k, u.cell h.2.2.1 k, u.cell h.2.2.2.1 k, u.cell h.2.2.2.2.1 k, u.cell h.2.2.2.2.2.1 k, u.cell h.2.2.2.2.2.2.1 k, u.cell h.2.2.2.2.2.2.2 k⟩
set_option maxHeartbeats 8000000 in
theorem add_any (s : Sb) (k : Kg) (b : Nat) (m : Met) (w : World) (hm : MBx b m w) (hs : ∀ W, Chg [b] w W → s.Ok W) (hk : ∀ W, Chg [b] w W → k.sb.Ok W) :
    Calls Tryz.prog 50 #[.pointer (some ⟨b, 0, none⟩), .agg #[.int .i64 s.s1, .int .i64 s.s2, .int .i64 s.s3, .slice s.a1 s.n1 s.c1, .slice s.a2 s.n2 s.c2, .slice s.a3 s.n3 s.c3], .agg #[.int .i64 k.p.n, .int .i64 k.p.u.s1, .int .i64 k.p.u.s2, .int .i64 k.p.u.s3, k.v1, k.v2, k.v3, .bool k.p.o]] w fun e w' => e = .returned (.tuple #[]) ∧ MBx b (addM s.pl m k.p) w' ∧ Chg [b] w w' := by
 have HBw := hid (fun (W : World) (u : Chg [b] w W) => cbWrite_any s k.sb W (hs W u) (hk W u))
 have HX1 := hid (fun (W : World) (u : Chg [b] w W) => meets_any s k.sb W (hs W u) (hk W u))
 have HX2 := hid (fun (W : World) (u : Chg [b] w W) => meets_any k.sb s W (hk W u) (hs W u))
 obtain ⟨bw, hbw⟩ : ∃ bw, bwS s k.sb = bw := ⟨_, rfl⟩
 obtain ⟨m1, hm1⟩ : ∃ m1, meetB s k.sb = m1 := ⟨_, rfl⟩
 obtain ⟨m2, hm2⟩ : ∃ m2, meetB k.sb s = m2 := ⟨_, rfl⟩
 have HE := hid (addM_eq s.pl m k.p bw m1 m2 (by rw [← Kg.sb_pl k, ← bwS_pl]; exact hbw) (by rw [← Kg.sb_pl k, ← meetU_pl]; exact hm1) (by rw [← Kg.sb_pl k, ← meetU_pl]; exact hm2))
 rw [hbw] at HBw
 rw [hm1] at HX1
 rw [hm2] at HX2
 clear hbw hm1 hm2 hs hk
 unfold Kg.sb at HBw HX1 HX2
 unfold Kg.v1 Kg.v2 Kg.v3
 dsimp only at HBw HX1 HX2
 generalize addM s.pl m k.p = R at *
 obtain ⟨⟨kn, ⟨k1, k2, k3, kR, kP, kW⟩, ko⟩, ka1, ka2, ka3, kc1, kc2, kc3⟩ := k
 obtain ⟨s1, s2, s3, a1, a2, a3, n1, n2, n3, c1, c2, c3, x1, x3, f2⟩ := s
 dsimp only at HBw HX1 HX2 HE ⊢
 generalize kR.length = l1 at *
 generalize kP.length = l2 at *
 generalize kW.length = l3 at *
 clear x1 x3 f2 kR kP kW
 obtain ⟨mw, mm, mf, ml⟩ := m
 dsimp only at HE
 go_enter Tryz.func50, Tryz.ntmps50
 go_upto_region 1 with fail
 have U0 := hid (((Old.refl w).alloc (.cells #[.int .i64 s1, .int .i64 s2, .int .i64 s3, .slice a1 n1 c1, .slice a2 n2 c2, .slice a3 n3 c3] 25)).alloc (.cells #[.int .i64 kn, .int .i64 k1, .int .i64 k2, .int .i64 k3, .slice ka1 l1 kc1, .slice ka2 l2 kc2, .slice ka3 l3 kc3, .bool ko] 93))
 have B0 := hid (two_newK w (.cells #[.int .i64 s1, .int .i64 s2, .int .i64 s3, .slice a1 n1 c1, .slice a2 n2 c2, .slice a3 n3 c3] 25) (.cells #[.int .i64 kn, .int .i64 k1, .int .i64 k2, .int .i64 k3, .slice ka1 l1 kc1, .slice ka2 l2 kc2, .slice ka3 l3 kc3, .bool ko] 93))
 generalize (w.alloc (.cells #[.int .i64 s1, .int .i64 s2, .int .i64 s3, .slice a1 n1 c1, .slice a2 n2 c2, .slice a3 n3 c3] 25)).alloc (.cells #[.int .i64 kn, .int .i64 k1, .int .i64 k2, .int .i64 k3, .slice ka1 l1 kc1, .slice ka2 l2 kc2, .slice ka3 l3 kc3, .bool ko] 93) = w0 at *
 have HB := hid (show b < w.heap.size from heap_lt hm)
 have HM0 := hid (MBx.old hm U0.out)
 have HC0 := hid (show Chg [b] w w0 from Chg.ofOld U0.out)
 obtain ⟨sb, hsb⟩ : ∃ sb, w.heap.size = sb := ⟨_, rfl⟩
 rw [hsb] at B0 HB ⊢
 clear hsb hm U0
 obtain ⟨kb, hkb⟩ : ∃ kb, sb + 1 = kb := ⟨_, rfl⟩
 have HNB := hid (show b ≠ sb ∧ b ≠ kb from ⟨by have := HB.out; omega, by have := HB.out; omega⟩)
 rw [hkb] at B0 ⊢
 clear hkb HB
 have HS0 := hid (box6K B0.out.1)
 have HK0 := hid (box8K B0.out.2)
 clear B0
 obtain ⟨t0, t1, t2, t3, t4, t5⟩ := HS0.out
 obtain ⟨y0, y1, y2, y3, y4, y5, y6, y7⟩ := HK0.out
 obtain ⟨⟨z0, z1, z2, z3⟩, g0, g1, g2, g3⟩ := box4M HM0.out
 cases mw
 ·go_upto_region 2 with (go_at_call 87; refine (HBw.out _ HC0.out).mono ?_; rintro e w1a ⟨rfl, o1a⟩; have HM1a := hid (MBx.old HM0.out o1a); have HC1a := hid (HC0.out.trans (Chg.ofOld o1a)); have HS1a := hid (HS0.out.chg (Chg.ofOld (S := []) o1a) (by simp)); have HK1a := hid (HK0.out.chg (Chg.ofOld (S := []) o1a) (by simp)); clear o1a HM0 HC0 HS0 HK0; clear t0 t1 t2 t3 t4 t5 y0 y1 y2 y3 y4 y5 y6 y7 z0 z1 z2 z3 g0 g1 g2 g3; obtain ⟨t0, t1, t2, t3, t4, t5⟩ := HS1a.out; obtain ⟨y0, y1, y2, y3, y4, y5, y6, y7⟩ := HK1a.out; obtain ⟨⟨z0, z1, z2, z3⟩, g0, g1, g2, g3⟩ := box4M HM1a.out)
  clear t0 t1 t2 t3 t4 t5 y0 y1 y2 y3 y4 y5 y6 y7 z0 z1 z2 z3 g0 g1 g2 g3
  have HM1 := hid (MBx.s0 HM1a.out bw)
  have HE1 := hid (Chg.set (S := [b]) w1a ⟨b, 0, none⟩ (.bool bw) (by simp))
  have HC1 := hid (HC1a.out.trans HE1.out)
  have HS1 := hid (HS1a.out.chg HE1.out (by simp; exact fun e => HNB.out.1 e.symm))
  have HK1 := hid (HK1a.out.chg HE1.out (by simp; exact fun e => HNB.out.2 e.symm))
  generalize w1a.setCell ⟨b, 0, none⟩ (.bool bw) = w1 at *
  clear HE1 HM1a HC1a HS1a HK1a
  obtain ⟨t0, t1, t2, t3, t4, t5⟩ := HS1.out
  obtain ⟨y0, y1, y2, y3, y4, y5, y6, y7⟩ := HK1.out
  obtain ⟨⟨z0, z1, z2, z3⟩, g0, g1, g2, g3⟩ := box4M HM1.out
  cases m1
  ·go_upto_region 6 with (go_at_call 88; refine (HX1.out _ HC1.out).mono ?_; rintro e w2 ⟨rfl, o2⟩; have HM2 := hid (MBx.old HM1.out o2); have HC2 := hid (HC1.out.trans (Chg.ofOld o2)); have HS2 := hid (HS1.out.chg (Chg.ofOld (S := []) o2) (by simp)); have HK2 := hid (HK1.out.chg (Chg.ofOld (S := []) o2) (by simp)); clear o2 HM1 HC1 HS1 HK1; clear t0 t1 t2 t3 t4 t5 y0 y1 y2 y3 y4 y5 y6 y7 z0 z1 z2 z3 g0 g1 g2 g3; obtain ⟨t0, t1, t2, t3, t4, t5⟩ := HS2.out; obtain ⟨y0, y1, y2, y3, y4, y5, y6, y7⟩ := HK2.out; obtain ⟨⟨z0, z1, z2, z3⟩, g0, g1, g2, g3⟩ := box4M HM2.out)
   clear t0 t1 t2 t3 t4 t5 y0 y1 y2 y3 y4 y5 y6 y7 z0 z1 z2 z3 g0 g1 g2 g3
   obtain ⟨t0, t1, t2, t3, t4, t5⟩ := HS2.out
   obtain ⟨y0, y1, y2, y3, y4, y5, y6, y7⟩ := HK2.out
   obtain ⟨⟨z0, z1, z2, z3⟩, g0, g1, g2, g3⟩ := box4M HM2.out
   cases m2
   ·go_wp2_with (go_at_call 88; refine (HX2.out _ HC2.out).mono ?_; rintro e w9 ⟨rfl, o9⟩; have HM9 := hid (MBx.old HM2.out o9); have HC9 := hid (HC2.out.trans (Chg.ofOld o9)); have HS9 := hid (HS2.out.chg (Chg.ofOld (S := []) o9) (by simp)); have HK9 := hid (HK2.out.chg (Chg.ofOld (S := []) o9) (by simp)); clear o9 HM2 HC2 HS2 HK2; clear t0 t1 t2 t3 t4 t5 y0 y1 y2 y3 y4 y5 y6 y7 z0 z1 z2 z3 g0 g1 g2 g3; obtain ⟨t0, t1, t2, t3, t4, t5⟩ := HS9.out; obtain ⟨y0, y1, y2, y3, y4, y5, y6, y7⟩ := HK9.out; obtain ⟨⟨z0, z1, z2, z3⟩, g0, g1, g2, g3⟩ := box4M HM9.out)
    exact bodyPost_end (v := .tuple #[]) (by simp [results, Tryz.results50, go_sem]) rfl ⟨rfl, by rw [HE.out _ rfl]; simp; exact HM9.out, HC9.out⟩
   ·go_upto_region 7 with (go_at_call 88; refine (HX2.out _ HC2.out).mono ?_; rintro e w8 ⟨rfl, o8⟩; have HM8 := hid (MBx.old HM2.out o8); have HC8 := hid (HC2.out.trans (Chg.ofOld o8)); have HS8 := hid (HS2.out.chg (Chg.ofOld (S := []) o8) (by simp)); have HK8 := hid (HK2.out.chg (Chg.ofOld (S := []) o8) (by simp)); clear o8 HM2 HC2 HS2 HK2; clear t0 t1 t2 t3 t4 t5 y0 y1 y2 y3 y4 y5 y6 y7 z0 z1 z2 z3 g0 g1 g2 g3; obtain ⟨t0, t1, t2, t3, t4, t5⟩ := HS8.out; obtain ⟨y0, y1, y2, y3, y4, y5, y6, y7⟩ := HK8.out; obtain ⟨⟨z0, z1, z2, z3⟩, g0, g1, g2, g3⟩ := box4M HM8.out)
    clear t0 t1 t2 t3 t4 t5 y0 y1 y2 y3 y4 y5 y6 y7 z0 z1 z2 z3 g0 g1 g2 g3
    obtain ⟨t0, t1, t2, t3, t4, t5⟩ := HS8.out
    obtain ⟨y0, y1, y2, y3, y4, y5, y6, y7⟩ := HK8.out
    obtain ⟨⟨z0, z1, z2, z3⟩, g0, g1, g2, g3⟩ := box4M HM8.out
    go_wp2
    clear t0 t1 t2 t3 t4 t5 y0 y1 y2 y3 y4 y5 y6 y7 z0 z1 z2 z3 g0 g1 g2 g3
    have HM9 := hid (MBx.s3 HM8.out kn)
    have HE9 := hid (Chg.set (S := [b]) w8 ⟨b, 3, none⟩ (.int .i64 kn) (by simp))
    have HC9 := hid (HC8.out.trans HE9.out)
    have HS9 := hid (HS8.out.chg HE9.out (by simp; exact fun e => HNB.out.1 e.symm))
    have HK9 := hid (HK8.out.chg HE9.out (by simp; exact fun e => HNB.out.2 e.symm))
    generalize w8.setCell ⟨b, 3, none⟩ (.int .i64 kn) = w9 at *
    clear HE9 HM8 HC8 HS8 HK8
    exact bodyPost_end (v := .tuple #[]) (by simp [results, Tryz.results50, go_sem]) rfl ⟨rfl, by rw [HE.out _ rfl]; simp; exact HM9.out, HC9.out⟩
  ·go_upto_region 3 with (go_at_call 88; refine (HX1.out _ HC1.out).mono ?_; rintro e w2 ⟨rfl, o2⟩; have HM2 := hid (MBx.old HM1.out o2); have HC2 := hid (HC1.out.trans (Chg.ofOld o2)); have HS2 := hid (HS1.out.chg (Chg.ofOld (S := []) o2) (by simp)); have HK2 := hid (HK1.out.chg (Chg.ofOld (S := []) o2) (by simp)); clear o2 HM1 HC1 HS1 HK1; clear t0 t1 t2 t3 t4 t5 y0 y1 y2 y3 y4 y5 y6 y7 z0 z1 z2 z3 g0 g1 g2 g3; obtain ⟨t0, t1, t2, t3, t4, t5⟩ := HS2.out; obtain ⟨y0, y1, y2, y3, y4, y5, y6, y7⟩ := HK2.out; obtain ⟨⟨z0, z1, z2, z3⟩, g0, g1, g2, g3⟩ := box4M HM2.out)
   clear t0 t1 t2 t3 t4 t5 y0 y1 y2 y3 y4 y5 y6 y7 z0 z1 z2 z3 g0 g1 g2 g3
   obtain ⟨t0, t1, t2, t3, t4, t5⟩ := HS2.out
   obtain ⟨y0, y1, y2, y3, y4, y5, y6, y7⟩ := HK2.out
   obtain ⟨⟨z0, z1, z2, z3⟩, g0, g1, g2, g3⟩ := box4M HM2.out
   cases mm
   ·go_upto_region 4 with fail
    clear t0 t1 t2 t3 t4 t5 y0 y1 y2 y3 y4 y5 y6 y7 z0 z1 z2 z3 g0 g1 g2 g3
    have HM3 := hid (MBx.s1 HM2.out ko)
    have HE3 := hid (Chg.set (S := [b]) w2 ⟨b, 1, none⟩ (.bool ko) (by simp))
    have HC3 := hid (HC2.out.trans HE3.out)
    have HS3 := hid (HS2.out.chg HE3.out (by simp; exact fun e => HNB.out.1 e.symm))
    have HK3 := hid (HK2.out.chg HE3.out (by simp; exact fun e => HNB.out.2 e.symm))
    generalize w2.setCell ⟨b, 1, none⟩ (.bool ko) = w3 at *
    clear HE3 HM2 HC2 HS2 HK2
    obtain ⟨t0, t1, t2, t3, t4, t5⟩ := HS3.out
    obtain ⟨y0, y1, y2, y3, y4, y5, y6, y7⟩ := HK3.out
    obtain ⟨⟨z0, z1, z2, z3⟩, g0, g1, g2, g3⟩ := box4M HM3.out
    by_cases hf : mf = 0
    ·subst hf
     go_upto_region 6 with fail
     clear t0 t1 t2 t3 t4 t5 y0 y1 y2 y3 y4 y5 y6 y7 z0 z1 z2 z3 g0 g1 g2 g3
     have HM4 := hid (MBx.s2 HM3.out kn)
     have HE4 := hid (Chg.set (S := [b]) w3 ⟨b, 2, none⟩ (.int .i64 kn) (by simp))
     have HC4 := hid (HC3.out.trans HE4.out)
     have HS4 := hid (HS3.out.chg HE4.out (by simp; exact fun e => HNB.out.1 e.symm))
     have HK4 := hid (HK3.out.chg HE4.out (by simp; exact fun e => HNB.out.2 e.symm))
     generalize w3.setCell ⟨b, 2, none⟩ (.int .i64 kn) = w4 at *
     clear HE4 HM3 HC3 HS3 HK3
     obtain ⟨t0, t1, t2, t3, t4, t5⟩ := HS4.out
     obtain ⟨y0, y1, y2, y3, y4, y5, y6, y7⟩ := HK4.out
     obtain ⟨⟨z0, z1, z2, z3⟩, g0, g1, g2, g3⟩ := box4M HM4.out
     cases m2
     ·go_wp2_with (go_at_call 88; refine (HX2.out _ HC4.out).mono ?_; rintro e w9 ⟨rfl, o9⟩; have HM9 := hid (MBx.old HM4.out o9); have HC9 := hid (HC4.out.trans (Chg.ofOld o9)); have HS9 := hid (HS4.out.chg (Chg.ofOld (S := []) o9) (by simp)); have HK9 := hid (HK4.out.chg (Chg.ofOld (S := []) o9) (by simp)); clear o9 HM4 HC4 HS4 HK4; clear t0 t1 t2 t3 t4 t5 y0 y1 y2 y3 y4 y5 y6 y7 z0 z1 z2 z3 g0 g1 g2 g3; obtain ⟨t0, t1, t2, t3, t4, t5⟩ := HS9.out; obtain ⟨y0, y1, y2, y3, y4, y5, y6, y7⟩ := HK9.out; obtain ⟨⟨z0, z1, z2, z3⟩, g0, g1, g2, g3⟩ := box4M HM9.out)
      exact bodyPost_end (v := .tuple #[]) (by simp [results, Tryz.results50, go_sem]) rfl ⟨rfl, by rw [HE.out _ rfl]; simp; exact HM9.out, HC9.out⟩
     ·go_upto_region 7 with (go_at_call 88; refine (HX2.out _ HC4.out).mono ?_; rintro e w8 ⟨rfl, o8⟩; have HM8 := hid (MBx.old HM4.out o8); have HC8 := hid (HC4.out.trans (Chg.ofOld o8)); have HS8 := hid (HS4.out.chg (Chg.ofOld (S := []) o8) (by simp)); have HK8 := hid (HK4.out.chg (Chg.ofOld (S := []) o8) (by simp)); clear o8 HM4 HC4 HS4 HK4; clear t0 t1 t2 t3 t4 t5 y0 y1 y2 y3 y4 y5 y6 y7 z0 z1 z2 z3 g0 g1 g2 g3; obtain ⟨t0, t1, t2, t3, t4, t5⟩ := HS8.out; obtain ⟨y0, y1, y2, y3, y4, y5, y6, y7⟩ := HK8.out; obtain ⟨⟨z0, z1, z2, z3⟩, g0, g1, g2, g3⟩ := box4M HM8.out)
      clear t0 t1 t2 t3 t4 t5 y0 y1 y2 y3 y4 y5 y6 y7 z0 z1 z2 z3 g0 g1 g2 g3
      obtain ⟨t0, t1, t2, t3, t4, t5⟩ := HS8.out
      obtain ⟨y0, y1, y2, y3, y4, y5, y6, y7⟩ := HK8.out
      obtain ⟨⟨z0, z1, z2, z3⟩, g0, g1, g2, g3⟩ := box4M HM8.out
      go_wp2
      clear t0 t1 t2 t3 t4 t5 y0 y1 y2 y3 y4 y5 y6 y7 z0 z1 z2 z3 g0 g1 g2 g3
      have HM9 := hid (MBx.s3 HM8.out kn)
      have HE9 := hid (Chg.set (S := [b]) w8 ⟨b, 3, none⟩ (.int .i64 kn) (by simp))
      have HC9 := hid (HC8.out.trans HE9.out)
      have HS9 := hid (HS8.out.chg HE9.out (by simp; exact fun e => HNB.out.1 e.symm))
      have HK9 := hid (HK8.out.chg HE9.out (by simp; exact fun e => HNB.out.2 e.symm))
      generalize w8.setCell ⟨b, 3, none⟩ (.int .i64 kn) = w9 at *
      clear HE9 HM8 HC8 HS8 HK8
      exact bodyPost_end (v := .tuple #[]) (by simp [results, Tryz.results50, go_sem]) rfl ⟨rfl, by rw [HE.out _ rfl]; simp; exact HM9.out, HC9.out⟩
    ·have hf2 : (mf == 0) = false := by simp [hf]
     go_upto_region 6 with fail
     clear t0 t1 t2 t3 t4 t5 y0 y1 y2 y3 y4 y5 y6 y7 z0 z1 z2 z3 g0 g1 g2 g3
     obtain ⟨t0, t1, t2, t3, t4, t5⟩ := HS3.out
     obtain ⟨y0, y1, y2, y3, y4, y5, y6, y7⟩ := HK3.out
     obtain ⟨⟨z0, z1, z2, z3⟩, g0, g1, g2, g3⟩ := box4M HM3.out
     cases m2
     ·go_wp2_with (go_at_call 88; refine (HX2.out _ HC3.out).mono ?_; rintro e w9 ⟨rfl, o9⟩; have HM9 := hid (MBx.old HM3.out o9); have HC9 := hid (HC3.out.trans (Chg.ofOld o9)); have HS9 := hid (HS3.out.chg (Chg.ofOld (S := []) o9) (by simp)); have HK9 := hid (HK3.out.chg (Chg.ofOld (S := []) o9) (by simp)); clear o9 HM3 HC3 HS3 HK3; clear t0 t1 t2 t3 t4 t5 y0 y1 y2 y3 y4 y5 y6 y7 z0 z1 z2 z3 g0 g1 g2 g3; obtain ⟨t0, t1, t2, t3, t4, t5⟩ := HS9.out; obtain ⟨y0, y1, y2, y3, y4, y5, y6, y7⟩ := HK9.out; obtain ⟨⟨z0, z1, z2, z3⟩, g0, g1, g2, g3⟩ := box4M HM9.out)
      exact bodyPost_end (v := .tuple #[]) (by simp [results, Tryz.results50, go_sem]) rfl ⟨rfl, by rw [HE.out _ rfl]; simp [hf]; exact HM9.out, HC9.out⟩
     ·go_upto_region 7 with (go_at_call 88; refine (HX2.out _ HC3.out).mono ?_; rintro e w8 ⟨rfl, o8⟩; have HM8 := hid (MBx.old HM3.out o8); have HC8 := hid (HC3.out.trans (Chg.ofOld o8)); have HS8 := hid (HS3.out.chg (Chg.ofOld (S := []) o8) (by simp)); have HK8 := hid (HK3.out.chg (Chg.ofOld (S := []) o8) (by simp)); clear o8 HM3 HC3 HS3 HK3; clear t0 t1 t2 t3 t4 t5 y0 y1 y2 y3 y4 y5 y6 y7 z0 z1 z2 z3 g0 g1 g2 g3; obtain ⟨t0, t1, t2, t3, t4, t5⟩ := HS8.out; obtain ⟨y0, y1, y2, y3, y4, y5, y6, y7⟩ := HK8.out; obtain ⟨⟨z0, z1, z2, z3⟩, g0, g1, g2, g3⟩ := box4M HM8.out)
      clear t0 t1 t2 t3 t4 t5 y0 y1 y2 y3 y4 y5 y6 y7 z0 z1 z2 z3 g0 g1 g2 g3
      obtain ⟨t0, t1, t2, t3, t4, t5⟩ := HS8.out
      obtain ⟨y0, y1, y2, y3, y4, y5, y6, y7⟩ := HK8.out
      obtain ⟨⟨z0, z1, z2, z3⟩, g0, g1, g2, g3⟩ := box4M HM8.out
      go_wp2
      clear t0 t1 t2 t3 t4 t5 y0 y1 y2 y3 y4 y5 y6 y7 z0 z1 z2 z3 g0 g1 g2 g3
      have HM9 := hid (MBx.s3 HM8.out kn)
      have HE9 := hid (Chg.set (S := [b]) w8 ⟨b, 3, none⟩ (.int .i64 kn) (by simp))
      have HC9 := hid (HC8.out.trans HE9.out)
      have HS9 := hid (HS8.out.chg HE9.out (by simp; exact fun e => HNB.out.1 e.symm))
      have HK9 := hid (HK8.out.chg HE9.out (by simp; exact fun e => HNB.out.2 e.symm))
      generalize w8.setCell ⟨b, 3, none⟩ (.int .i64 kn) = w9 at *
      clear HE9 HM8 HC8 HS8 HK8
      exact bodyPost_end (v := .tuple #[]) (by simp [results, Tryz.results50, go_sem]) rfl ⟨rfl, by rw [HE.out _ rfl]; simp [hf]; exact HM9.out, HC9.out⟩
   ·go_upto_region 4 with fail
    clear t0 t1 t2 t3 t4 t5 y0 y1 y2 y3 y4 y5 y6 y7 z0 z1 z2 z3 g0 g1 g2 g3
    have HM3 := hid (MBx.s1 HM2.out true)
    have HE3 := hid (Chg.set (S := [b]) w2 ⟨b, 1, none⟩ (.bool true) (by simp))
    have HC3 := hid (HC2.out.trans HE3.out)
    have HS3 := hid (HS2.out.chg HE3.out (by simp; exact fun e => HNB.out.1 e.symm))
    have HK3 := hid (HK2.out.chg HE3.out (by simp; exact fun e => HNB.out.2 e.symm))
    generalize w2.setCell ⟨b, 1, none⟩ (.bool true) = w3 at *
    clear HE3 HM2 HC2 HS2 HK2
    obtain ⟨t0, t1, t2, t3, t4, t5⟩ := HS3.out
    obtain ⟨y0, y1, y2, y3, y4, y5, y6, y7⟩ := HK3.out
    obtain ⟨⟨z0, z1, z2, z3⟩, g0, g1, g2, g3⟩ := box4M HM3.out
    by_cases hf : mf = 0
    ·subst hf
     go_upto_region 6 with fail
     clear t0 t1 t2 t3 t4 t5 y0 y1 y2 y3 y4 y5 y6 y7 z0 z1 z2 z3 g0 g1 g2 g3
     have HM4 := hid (MBx.s2 HM3.out kn)
     have HE4 := hid (Chg.set (S := [b]) w3 ⟨b, 2, none⟩ (.int .i64 kn) (by simp))
     have HC4 := hid (HC3.out.trans HE4.out)
     have HS4 := hid (HS3.out.chg HE4.out (by simp; exact fun e => HNB.out.1 e.symm))
     have HK4 := hid (HK3.out.chg HE4.out (by simp; exact fun e => HNB.out.2 e.symm))
     generalize w3.setCell ⟨b, 2, none⟩ (.int .i64 kn) = w4 at *
     clear HE4 HM3 HC3 HS3 HK3
     obtain ⟨t0, t1, t2, t3, t4, t5⟩ := HS4.out
     obtain ⟨y0, y1, y2, y3, y4, y5, y6, y7⟩ := HK4.out
     obtain ⟨⟨z0, z1, z2, z3⟩, g0, g1, g2, g3⟩ := box4M HM4.out
     cases m2
     ·go_wp2_with (go_at_call 88; refine (HX2.out _ HC4.out).mono ?_; rintro e w9 ⟨rfl, o9⟩; have HM9 := hid (MBx.old HM4.out o9); have HC9 := hid (HC4.out.trans (Chg.ofOld o9)); have HS9 := hid (HS4.out.chg (Chg.ofOld (S := []) o9) (by simp)); have HK9 := hid (HK4.out.chg (Chg.ofOld (S := []) o9) (by simp)); clear o9 HM4 HC4 HS4 HK4; clear t0 t1 t2 t3 t4 t5 y0 y1 y2 y3 y4 y5 y6 y7 z0 z1 z2 z3 g0 g1 g2 g3; obtain ⟨t0, t1, t2, t3, t4, t5⟩ := HS9.out; obtain ⟨y0, y1, y2, y3, y4, y5, y6, y7⟩ := HK9.out; obtain ⟨⟨z0, z1, z2, z3⟩, g0, g1, g2, g3⟩ := box4M HM9.out)
      exact bodyPost_end (v := .tuple #[]) (by simp [results, Tryz.results50, go_sem]) rfl ⟨rfl, by rw [HE.out _ rfl]; simp; exact HM9.out, HC9.out⟩
     ·go_upto_region 7 with (go_at_call 88; refine (HX2.out _ HC4.out).mono ?_; rintro e w8 ⟨rfl, o8⟩; have HM8 := hid (MBx.old HM4.out o8); have HC8 := hid (HC4.out.trans (Chg.ofOld o8)); have HS8 := hid (HS4.out.chg (Chg.ofOld (S := []) o8) (by simp)); have HK8 := hid (HK4.out.chg (Chg.ofOld (S := []) o8) (by simp)); clear o8 HM4 HC4 HS4 HK4; clear t0 t1 t2 t3 t4 t5 y0 y1 y2 y3 y4 y5 y6 y7 z0 z1 z2 z3 g0 g1 g2 g3; obtain ⟨t0, t1, t2, t3, t4, t5⟩ := HS8.out; obtain ⟨y0, y1, y2, y3, y4, y5, y6, y7⟩ := HK8.out; obtain ⟨⟨z0, z1, z2, z3⟩, g0, g1, g2, g3⟩ := box4M HM8.out)
      clear t0 t1 t2 t3 t4 t5 y0 y1 y2 y3 y4 y5 y6 y7 z0 z1 z2 z3 g0 g1 g2 g3
      obtain ⟨t0, t1, t2, t3, t4, t5⟩ := HS8.out
      obtain ⟨y0, y1, y2, y3, y4, y5, y6, y7⟩ := HK8.out
      obtain ⟨⟨z0, z1, z2, z3⟩, g0, g1, g2, g3⟩ := box4M HM8.out
      go_wp2
      clear t0 t1 t2 t3 t4 t5 y0 y1 y2 y3 y4 y5 y6 y7 z0 z1 z2 z3 g0 g1 g2 g3
      have HM9 := hid (MBx.s3 HM8.out kn)
      have HE9 := hid (Chg.set (S := [b]) w8 ⟨b, 3, none⟩ (.int .i64 kn) (by simp))
      have HC9 := hid (HC8.out.trans HE9.out)
      have HS9 := hid (HS8.out.chg HE9.out (by simp; exact fun e => HNB.out.1 e.symm))
      have HK9 := hid (HK8.out.chg HE9.out (by simp; exact fun e => HNB.out.2 e.symm))
      generalize w8.setCell ⟨b, 3, none⟩ (.int .i64 kn) = w9 at *
      clear HE9 HM8 HC8 HS8 HK8
      exact bodyPost_end (v := .tuple #[]) (by simp [results, Tryz.results50, go_sem]) rfl ⟨rfl, by rw [HE.out _ rfl]; simp; exact HM9.out, HC9.out⟩
    ·have hf2 : (mf == 0) = false := by simp [hf]
     go_upto_region 6 with fail
     clear t0 t1 t2 t3 t4 t5 y0 y1 y2 y3 y4 y5 y6 y7 z0 z1 z2 z3 g0 g1 g2 g3
     obtain ⟨t0, t1, t2, t3, t4, t5⟩ := HS3.out
     obtain ⟨y0, y1, y2, y3, y4, y5, y6, y7⟩ := HK3.out
     obtain ⟨⟨z0, z1, z2, z3⟩, g0, g1, g2, g3⟩ := box4M HM3.out
     cases m2
     ·go_wp2_with (go_at_call 88; refine (HX2.out _ HC3.out).mono ?_; rintro e w9 ⟨rfl, o9⟩; have HM9 := hid (MBx.old HM3.out o9); have HC9 := hid (HC3.out.trans (Chg.ofOld o9)); have HS9 := hid (HS3.out.chg (Chg.ofOld (S := []) o9) (by simp)); have HK9 := hid (HK3.out.chg (Chg.ofOld (S := []) o9) (by simp)); clear o9 HM3 HC3 HS3 HK3; clear t0 t1 t2 t3 t4 t5 y0 y1 y2 y3 y4 y5 y6 y7 z0 z1 z2 z3 g0 g1 g2 g3; obtain ⟨t0, t1, t2, t3, t4, t5⟩ := HS9.out; obtain ⟨y0, y1, y2, y3, y4, y5, y6, y7⟩ := HK9.out; obtain ⟨⟨z0, z1, z2, z3⟩, g0, g1, g2, g3⟩ := box4M HM9.out)
      exact bodyPost_end (v := .tuple #[]) (by simp [results, Tryz.results50, go_sem]) rfl ⟨rfl, by rw [HE.out _ rfl]; simp [hf]; exact HM9.out, HC9.out⟩
     ·go_upto_region 7 with (go_at_call 88; refine (HX2.out _ HC3.out).mono ?_; rintro e w8 ⟨rfl, o8⟩; have HM8 := hid (MBx.old HM3.out o8); have HC8 := hid (HC3.out.trans (Chg.ofOld o8)); have HS8 := hid (HS3.out.chg (Chg.ofOld (S := []) o8) (by simp)); have HK8 := hid (HK3.out.chg (Chg.ofOld (S := []) o8) (by simp)); clear o8 HM3 HC3 HS3 HK3; clear t0 t1 t2 t3 t4 t5 y0 y1 y2 y3 y4 y5 y6 y7 z0 z1 z2 z3 g0 g1 g2 g3; obtain ⟨t0, t1, t2, t3, t4, t5⟩ := HS8.out; obtain ⟨y0, y1, y2, y3, y4, y5, y6, y7⟩ := HK8.out; obtain ⟨⟨z0, z1, z2, z3⟩, g0, g1, g2, g3⟩ := box4M HM8.out)
      clear t0 t1 t2 t3 t4 t5 y0 y1 y2 y3 y4 y5 y6 y7 z0 z1 z2 z3 g0 g1 g2 g3
      obtain ⟨t0, t1, t2, t3, t4, t5⟩ := HS8.out
      obtain ⟨y0, y1, y2, y3, y4, y5, y6, y7⟩ := HK8.out
      obtain ⟨⟨z0, z1, z2, z3⟩, g0, g1, g2, g3⟩ := box4M HM8.out
      go_wp2
      clear t0 t1 t2 t3 t4 t5 y0 y1 y2 y3 y4 y5 y6 y7 z0 z1 z2 z3 g0 g1 g2 g3
      have HM9 := hid (MBx.s3 HM8.out kn)
      have HE9 := hid (Chg.set (S := [b]) w8 ⟨b, 3, none⟩ (.int .i64 kn) (by simp))
      have HC9 := hid (HC8.out.trans HE9.out)
      have HS9 := hid (HS8.out.chg HE9.out (by simp; exact fun e => HNB.out.1 e.symm))
      have HK9 := hid (HK8.out.chg HE9.out (by simp; exact fun e => HNB.out.2 e.symm))
      generalize w8.setCell ⟨b, 3, none⟩ (.int .i64 kn) = w9 at *
      clear HE9 HM8 HC8 HS8 HK8
      exact bodyPost_end (v := .tuple #[]) (by simp [results, Tryz.results50, go_sem]) rfl ⟨rfl, by rw [HE.out _ rfl]; simp [hf]; exact HM9.out, HC9.out⟩
 ·go_upto_region 2 with fail
  clear t0 t1 t2 t3 t4 t5 y0 y1 y2 y3 y4 y5 y6 y7 z0 z1 z2 z3 g0 g1 g2 g3
  have HM1 := hid (MBx.s0 HM0.out true)
  have HE1 := hid (Chg.set (S := [b]) w0 ⟨b, 0, none⟩ (.bool true) (by simp))
  have HC1 := hid (HC0.out.trans HE1.out)
  have HS1 := hid (HS0.out.chg HE1.out (by simp; exact fun e => HNB.out.1 e.symm))
  have HK1 := hid (HK0.out.chg HE1.out (by simp; exact fun e => HNB.out.2 e.symm))
  generalize w0.setCell ⟨b, 0, none⟩ (.bool true) = w1 at *
  clear HE1 HM0 HC0 HS0 HK0
  obtain ⟨t0, t1, t2, t3, t4, t5⟩ := HS1.out
  obtain ⟨y0, y1, y2, y3, y4, y5, y6, y7⟩ := HK1.out
  obtain ⟨⟨z0, z1, z2, z3⟩, g0, g1, g2, g3⟩ := box4M HM1.out
  cases m1
  ·go_upto_region 6 with (go_at_call 88; refine (HX1.out _ HC1.out).mono ?_; rintro e w2 ⟨rfl, o2⟩; have HM2 := hid (MBx.old HM1.out o2); have HC2 := hid (HC1.out.trans (Chg.ofOld o2)); have HS2 := hid (HS1.out.chg (Chg.ofOld (S := []) o2) (by simp)); have HK2 := hid (HK1.out.chg (Chg.ofOld (S := []) o2) (by simp)); clear o2 HM1 HC1 HS1 HK1; clear t0 t1 t2 t3 t4 t5 y0 y1 y2 y3 y4 y5 y6 y7 z0 z1 z2 z3 g0 g1 g2 g3; obtain ⟨t0, t1, t2, t3, t4, t5⟩ := HS2.out; obtain ⟨y0, y1, y2, y3, y4, y5, y6, y7⟩ := HK2.out; obtain ⟨⟨z0, z1, z2, z3⟩, g0, g1, g2, g3⟩ := box4M HM2.out)
   clear t0 t1 t2 t3 t4 t5 y0 y1 y2 y3 y4 y5 y6 y7 z0 z1 z2 z3 g0 g1 g2 g3
   obtain ⟨t0, t1, t2, t3, t4, t5⟩ := HS2.out
   obtain ⟨y0, y1, y2, y3, y4, y5, y6, y7⟩ := HK2.out
   obtain ⟨⟨z0, z1, z2, z3⟩, g0, g1, g2, g3⟩ := box4M HM2.out
   cases m2
   ·go_wp2_with (go_at_call 88; refine (HX2.out _ HC2.out).mono ?_; rintro e w9 ⟨rfl, o9⟩; have HM9 := hid (MBx.old HM2.out o9); have HC9 := hid (HC2.out.trans (Chg.ofOld o9)); have HS9 := hid (HS2.out.chg (Chg.ofOld (S := []) o9) (by simp)); have HK9 := hid (HK2.out.chg (Chg.ofOld (S := []) o9) (by simp)); clear o9 HM2 HC2 HS2 HK2; clear t0 t1 t2 t3 t4 t5 y0 y1 y2 y3 y4 y5 y6 y7 z0 z1 z2 z3 g0 g1 g2 g3; obtain ⟨t0, t1, t2, t3, t4, t5⟩ := HS9.out; obtain ⟨y0, y1, y2, y3, y4, y5, y6, y7⟩ := HK9.out; obtain ⟨⟨z0, z1, z2, z3⟩, g0, g1, g2, g3⟩ := box4M HM9.out)
    exact bodyPost_end (v := .tuple #[]) (by simp [results, Tryz.results50, go_sem]) rfl ⟨rfl, by rw [HE.out _ rfl]; simp; exact HM9.out, HC9.out⟩
   ·go_upto_region 7 with (go_at_call 88; refine (HX2.out _ HC2.out).mono ?_; rintro e w8 ⟨rfl, o8⟩; have HM8 := hid (MBx.old HM2.out o8); have HC8 := hid (HC2.out.trans (Chg.ofOld o8)); have HS8 := hid (HS2.out.chg (Chg.ofOld (S := []) o8) (by simp)); have HK8 := hid (HK2.out.chg (Chg.ofOld (S := []) o8) (by simp)); clear o8 HM2 HC2 HS2 HK2; clear t0 t1 t2 t3 t4 t5 y0 y1 y2 y3 y4 y5 y6 y7 z0 z1 z2 z3 g0 g1 g2 g3; obtain ⟨t0, t1, t2, t3, t4, t5⟩ := HS8.out; obtain ⟨y0, y1, y2, y3, y4, y5, y6, y7⟩ := HK8.out; obtain ⟨⟨z0, z1, z2, z3⟩, g0, g1, g2, g3⟩ := box4M HM8.out)
    clear t0 t1 t2 t3 t4 t5 y0 y1 y2 y3 y4 y5 y6 y7 z0 z1 z2 z3 g0 g1 g2 g3
    obtain ⟨t0, t1, t2, t3, t4, t5⟩ := HS8.out
    obtain ⟨y0, y1, y2, y3, y4, y5, y6, y7⟩ := HK8.out
    obtain ⟨⟨z0, z1, z2, z3⟩, g0, g1, g2, g3⟩ := box4M HM8.out
    go_wp2
    clear t0 t1 t2 t3 t4 t5 y0 y1 y2 y3 y4 y5 y6 y7 z0 z1 z2 z3 g0 g1 g2 g3
    have HM9 := hid (MBx.s3 HM8.out kn)
    have HE9 := hid (Chg.set (S := [b]) w8 ⟨b, 3, none⟩ (.int .i64 kn) (by simp))
    have HC9 := hid (HC8.out.trans HE9.out)
    have HS9 := hid (HS8.out.chg HE9.out (by simp; exact fun e => HNB.out.1 e.symm))
    have HK9 := hid (HK8.out.chg HE9.out (by simp; exact fun e => HNB.out.2 e.symm))
    generalize w8.setCell ⟨b, 3, none⟩ (.int .i64 kn) = w9 at *
    clear HE9 HM8 HC8 HS8 HK8
    exact bodyPost_end (v := .tuple #[]) (by simp [results, Tryz.results50, go_sem]) rfl ⟨rfl, by rw [HE.out _ rfl]; simp; exact HM9.out, HC9.out⟩
  ·go_upto_region 3 with (go_at_call 88; refine (HX1.out _ HC1.out).mono ?_; rintro e w2 ⟨rfl, o2⟩; have HM2 := hid (MBx.old HM1.out o2); have HC2 := hid (HC1.out.trans (Chg.ofOld o2)); have HS2 := hid (HS1.out.chg (Chg.ofOld (S := []) o2) (by simp)); have HK2 := hid (HK1.out.chg (Chg.ofOld (S := []) o2) (by simp)); clear o2 HM1 HC1 HS1 HK1; clear t0 t1 t2 t3 t4 t5 y0 y1 y2 y3 y4 y5 y6 y7 z0 z1 z2 z3 g0 g1 g2 g3; obtain ⟨t0, t1, t2, t3, t4, t5⟩ := HS2.out; obtain ⟨y0, y1, y2, y3, y4, y5, y6, y7⟩ := HK2.out; obtain ⟨⟨z0, z1, z2, z3⟩, g0, g1, g2, g3⟩ := box4M HM2.out)
   clear t0 t1 t2 t3 t4 t5 y0 y1 y2 y3 y4 y5 y6 y7 z0 z1 z2 z3 g0 g1 g2 g3
   obtain ⟨t0, t1, t2, t3, t4, t5⟩ := HS2.out
   obtain ⟨y0, y1, y2, y3, y4, y5, y6, y7⟩ := HK2.out
   obtain ⟨⟨z0, z1, z2, z3⟩, g0, g1, g2, g3⟩ := box4M HM2.out
   cases mm
   ·go_upto_region 4 with fail
    clear t0 t1 t2 t3 t4 t5 y0 y1 y2 y3 y4 y5 y6 y7 z0 z1 z2 z3 g0 g1 g2 g3
    have HM3 := hid (MBx.s1 HM2.out ko)
    have HE3 := hid (Chg.set (S := [b]) w2 ⟨b, 1, none⟩ (.bool ko) (by simp))
    have HC3 := hid (HC2.out.trans HE3.out)
    have HS3 := hid (HS2.out.chg HE3.out (by simp; exact fun e => HNB.out.1 e.symm))
    have HK3 := hid (HK2.out.chg HE3.out (by simp; exact fun e => HNB.out.2 e.symm))
    generalize w2.setCell ⟨b, 1, none⟩ (.bool ko) = w3 at *
    clear HE3 HM2 HC2 HS2 HK2
    obtain ⟨t0, t1, t2, t3, t4, t5⟩ := HS3.out
    obtain ⟨y0, y1, y2, y3, y4, y5, y6, y7⟩ := HK3.out
    obtain ⟨⟨z0, z1, z2, z3⟩, g0, g1, g2, g3⟩ := box4M HM3.out
    by_cases hf : mf = 0
    ·subst hf
     go_upto_region 6 with fail
     clear t0 t1 t2 t3 t4 t5 y0 y1 y2 y3 y4 y5 y6 y7 z0 z1 z2 z3 g0 g1 g2 g3
     have HM4 := hid (MBx.s2 HM3.out kn)
     have HE4 := hid (Chg.set (S := [b]) w3 ⟨b, 2, none⟩ (.int .i64 kn) (by simp))
     have HC4 := hid (HC3.out.trans HE4.out)
     have HS4 := hid (HS3.out.chg HE4.out (by simp; exact fun e => HNB.out.1 e.symm))
     have HK4 := hid (HK3.out.chg HE4.out (by simp; exact fun e => HNB.out.2 e.symm))
     generalize w3.setCell ⟨b, 2, none⟩ (.int .i64 kn) = w4 at *
     clear HE4 HM3 HC3 HS3 HK3
     obtain ⟨t0, t1, t2, t3, t4, t5⟩ := HS4.out
     obtain ⟨y0, y1, y2, y3, y4, y5, y6, y7⟩ := HK4.out
     obtain ⟨⟨z0, z1, z2, z3⟩, g0, g1, g2, g3⟩ := box4M HM4.out
     cases m2
     ·go_wp2_with (go_at_call 88; refine (HX2.out _ HC4.out).mono ?_; rintro e w9 ⟨rfl, o9⟩; have HM9 := hid (MBx.old HM4.out o9); have HC9 := hid (HC4.out.trans (Chg.ofOld o9)); have HS9 := hid (HS4.out.chg (Chg.ofOld (S := []) o9) (by simp)); have HK9 := hid (HK4.out.chg (Chg.ofOld (S := []) o9) (by simp)); clear o9 HM4 HC4 HS4 HK4; clear t0 t1 t2 t3 t4 t5 y0 y1 y2 y3 y4 y5 y6 y7 z0 z1 z2 z3 g0 g1 g2 g3; obtain ⟨t0, t1, t2, t3, t4, t5⟩ := HS9.out; obtain ⟨y0, y1, y2, y3, y4, y5, y6, y7⟩ := HK9.out; obtain ⟨⟨z0, z1, z2, z3⟩, g0, g1, g2, g3⟩ := box4M HM9.out)
      exact bodyPost_end (v := .tuple #[]) (by simp [results, Tryz.results50, go_sem]) rfl ⟨rfl, by rw [HE.out _ rfl]; simp; exact HM9.out, HC9.out⟩
     ·go_upto_region 7 with (go_at_call 88; refine (HX2.out _ HC4.out).mono ?_; rintro e w8 ⟨rfl, o8⟩; have HM8 := hid (MBx.old HM4.out o8); have HC8 := hid (HC4.out.trans (Chg.ofOld o8)); have HS8 := hid (HS4.out.chg (Chg.ofOld (S := []) o8) (by simp)); have HK8 := hid (HK4.out.chg (Chg.ofOld (S := []) o8) (by simp)); clear o8 HM4 HC4 HS4 HK4; clear t0 t1 t2 t3 t4 t5 y0 y1 y2 y3 y4 y5 y6 y7 z0 z1 z2 z3 g0 g1 g2 g3; obtain ⟨t0, t1, t2, t3, t4, t5⟩ := HS8.out; obtain ⟨y0, y1, y2, y3, y4, y5, y6, y7⟩ := HK8.out; obtain ⟨⟨z0, z1, z2, z3⟩, g0, g1, g2, g3⟩ := box4M HM8.out)
      clear t0 t1 t2 t3 t4 t5 y0 y1 y2 y3 y4 y5 y6 y7 z0 z1 z2 z3 g0 g1 g2 g3
      obtain ⟨t0, t1, t2, t3, t4, t5⟩ := HS8.out
      obtain ⟨y0, y1, y2, y3, y4, y5, y6, y7⟩ := HK8.out
      obtain ⟨⟨z0, z1, z2, z3⟩, g0, g1, g2, g3⟩ := box4M HM8.out
      go_wp2
      clear t0 t1 t2 t3 t4 t5 y0 y1 y2 y3 y4 y5 y6 y7 z0 z1 z2 z3 g0 g1 g2 g3
      have HM9 := hid (MBx.s3 HM8.out kn)
      have HE9 := hid (Chg.set (S := [b]) w8 ⟨b, 3, none⟩ (.int .i64 kn) (by simp))
      have HC9 := hid (HC8.out.trans HE9.out)
      have HS9 := hid (HS8.out.chg HE9.out (by simp; exact fun e => HNB.out.1 e.symm))
      have HK9 := hid (HK8.out.chg HE9.out (by simp; exact fun e => HNB.out.2 e.symm))
      generalize w8.setCell ⟨b, 3, none⟩ (.int .i64 kn) = w9 at *
      clear HE9 HM8 HC8 HS8 HK8
      exact bodyPost_end (v := .tuple #[]) (by simp [results, Tryz.results50, go_sem]) rfl ⟨rfl, by rw [HE.out _ rfl]; simp; exact HM9.out, HC9.out⟩
    ·have hf2 : (mf == 0) = false := by simp [hf]
     go_upto_region 6 with fail
     clear t0 t1 t2 t3 t4 t5 y0 y1 y2 y3 y4 y5 y6 y7 z0 z1 z2 z3 g0 g1 g2 g3
     obtain ⟨t0, t1, t2, t3, t4, t5⟩ := HS3.out
     obtain ⟨y0, y1, y2, y3, y4, y5, y6, y7⟩ := HK3.out
     obtain ⟨⟨z0, z1, z2, z3⟩, g0, g1, g2, g3⟩ := box4M HM3.out
     cases m2
     ·go_wp2_with (go_at_call 88; refine (HX2.out _ HC3.out).mono ?_; rintro e w9 ⟨rfl, o9⟩; have HM9 := hid (MBx.old HM3.out o9); have HC9 := hid (HC3.out.trans (Chg.ofOld o9)); have HS9 := hid (HS3.out.chg (Chg.ofOld (S := []) o9) (by simp)); have HK9 := hid (HK3.out.chg (Chg.ofOld (S := []) o9) (by simp)); clear o9 HM3 HC3 HS3 HK3; clear t0 t1 t2 t3 t4 t5 y0 y1 y2 y3 y4 y5 y6 y7 z0 z1 z2 z3 g0 g1 g2 g3; obtain ⟨t0, t1, t2, t3, t4, t5⟩ := HS9.out; obtain ⟨y0, y1, y2, y3, y4, y5, y6, y7⟩ := HK9.out; obtain ⟨⟨z0, z1, z2, z3⟩, g0, g1, g2, g3⟩ := box4M HM9.out)
      exact bodyPost_end (v := .tuple #[]) (by simp [results, Tryz.results50, go_sem]) rfl ⟨rfl, by rw [HE.out _ rfl]; simp [hf]; exact HM9.out, HC9.out⟩
     ·go_upto_region 7 with (go_at_call 88; refine (HX2.out _ HC3.out).mono ?_; rintro e w8 ⟨rfl, o8⟩; have HM8 := hid (MBx.old HM3.out o8); have HC8 := hid (HC3.out.trans (Chg.ofOld o8)); have HS8 := hid (HS3.out.chg (Chg.ofOld (S := []) o8) (by simp)); have HK8 := hid (HK3.out.chg (Chg.ofOld (S := []) o8) (by simp)); clear o8 HM3 HC3 HS3 HK3; clear t0 t1 t2 t3 t4 t5 y0 y1 y2 y3 y4 y5 y6 y7 z0 z1 z2 z3 g0 g1 g2 g3; obtain ⟨t0, t1, t2, t3, t4, t5⟩ := HS8.out; obtain ⟨y0, y1, y2, y3, y4, y5, y6, y7⟩ := HK8.out; obtain ⟨⟨z0, z1, z2, z3⟩, g0, g1, g2, g3⟩ := box4M HM8.out)
      clear t0 t1 t2 t3 t4 t5 y0 y1 y2 y3 y4 y5 y6 y7 z0 z1 z2 z3 g0 g1 g2 g3
      obtain ⟨t0, t1, t2, t3, t4, t5⟩ := HS8.out
      obtain ⟨y0, y1, y2, y3, y4, y5, y6, y7⟩ := HK8.out
      obtain ⟨⟨z0, z1, z2, z3⟩, g0, g1, g2, g3⟩ := box4M HM8.out
      go_wp2
      clear t0 t1 t2 t3 t4 t5 y0 y1 y2 y3 y4 y5 y6 y7 z0 z1 z2 z3 g0 g1 g2 g3
      have HM9 := hid (MBx.s3 HM8.out kn)
      have HE9 := hid (Chg.set (S := [b]) w8 ⟨b, 3, none⟩ (.int .i64 kn) (by simp))
      have HC9 := hid (HC8.out.trans HE9.out)
      have HS9 := hid (HS8.out.chg HE9.out (by simp; exact fun e => HNB.out.1 e.symm))
      have HK9 := hid (HK8.out.chg HE9.out (by simp; exact fun e => HNB.out.2 e.symm))
      generalize w8.setCell ⟨b, 3, none⟩ (.int .i64 kn) = w9 at *
      clear HE9 HM8 HC8 HS8 HK8
      exact bodyPost_end (v := .tuple #[]) (by simp [results, Tryz.results50, go_sem]) rfl ⟨rfl, by rw [HE.out _ rfl]; simp [hf]; exact HM9.out, HC9.out⟩
   ·go_upto_region 4 with fail
    clear t0 t1 t2 t3 t4 t5 y0 y1 y2 y3 y4 y5 y6 y7 z0 z1 z2 z3 g0 g1 g2 g3
    have HM3 := hid (MBx.s1 HM2.out true)
    have HE3 := hid (Chg.set (S := [b]) w2 ⟨b, 1, none⟩ (.bool true) (by simp))
    have HC3 := hid (HC2.out.trans HE3.out)
    have HS3 := hid (HS2.out.chg HE3.out (by simp; exact fun e => HNB.out.1 e.symm))
    have HK3 := hid (HK2.out.chg HE3.out (by simp; exact fun e => HNB.out.2 e.symm))
    generalize w2.setCell ⟨b, 1, none⟩ (.bool true) = w3 at *
    clear HE3 HM2 HC2 HS2 HK2
    obtain ⟨t0, t1, t2, t3, t4, t5⟩ := HS3.out
    obtain ⟨y0, y1, y2, y3, y4, y5, y6, y7⟩ := HK3.out
    obtain ⟨⟨z0, z1, z2, z3⟩, g0, g1, g2, g3⟩ := box4M HM3.out
    by_cases hf : mf = 0
    ·subst hf
     go_upto_region 6 with fail
     clear t0 t1 t2 t3 t4 t5 y0 y1 y2 y3 y4 y5 y6 y7 z0 z1 z2 z3 g0 g1 g2 g3
     have HM4 := hid (MBx.s2 HM3.out kn)
     have HE4 := hid (Chg.set (S := [b]) w3 ⟨b, 2, none⟩ (.int .i64 kn) (by simp))
     have HC4 := hid (HC3.out.trans HE4.out)
     have HS4 := hid (HS3.out.chg HE4.out (by simp; exact fun e => HNB.out.1 e.symm))
     have HK4 := hid (HK3.out.chg HE4.out (by simp; exact fun e => HNB.out.2 e.symm))
     generalize w3.setCell ⟨b, 2, none⟩ (.int .i64 kn) = w4 at *
     clear HE4 HM3 HC3 HS3 HK3
     obtain ⟨t0, t1, t2, t3, t4, t5⟩ := HS4.out
     obtain ⟨y0, y1, y2, y3, y4, y5, y6, y7⟩ := HK4.out
     obtain ⟨⟨z0, z1, z2, z3⟩, g0, g1, g2, g3⟩ := box4M HM4.out
     cases m2
     ·go_wp2_with (go_at_call 88; refine (HX2.out _ HC4.out).mono ?_; rintro e w9 ⟨rfl, o9⟩; have HM9 := hid (MBx.old HM4.out o9); have HC9 := hid (HC4.out.trans (Chg.ofOld o9)); have HS9 := hid (HS4.out.chg (Chg.ofOld (S := []) o9) (by simp)); have HK9 := hid (HK4.out.chg (Chg.ofOld (S := []) o9) (by simp)); clear o9 HM4 HC4 HS4 HK4; clear t0 t1 t2 t3 t4 t5 y0 y1 y2 y3 y4 y5 y6 y7 z0 z1 z2 z3 g0 g1 g2 g3; obtain ⟨t0, t1, t2, t3, t4, t5⟩ := HS9.out; obtain ⟨y0, y1, y2, y3, y4, y5, y6, y7⟩ := HK9.out; obtain ⟨⟨z0, z1, z2, z3⟩, g0, g1, g2, g3⟩ := box4M HM9.out)
      exact bodyPost_end (v := .tuple #[]) (by simp [results, Tryz.results50, go_sem]) rfl ⟨rfl, by rw [HE.out _ rfl]; simp; exact HM9.out, HC9.out⟩
     ·go_upto_region 7 with (go_at_call 88; refine (HX2.out _ HC4.out).mono ?_; rintro e w8 ⟨rfl, o8⟩; have HM8 := hid (MBx.old HM4.out o8); have HC8 := hid (HC4.out.trans (Chg.ofOld o8)); have HS8 := hid (HS4.out.chg (Chg.ofOld (S := []) o8) (by simp)); have HK8 := hid (HK4.out.chg (Chg.ofOld (S := []) o8) (by simp)); clear o8 HM4 HC4 HS4 HK4; clear t0 t1 t2 t3 t4 t5 y0 y1 y2 y3 y4 y5 y6 y7 z0 z1 z2 z3 g0 g1 g2 g3; obtain ⟨t0, t1, t2, t3, t4, t5⟩ := HS8.out; obtain ⟨y0, y1, y2, y3, y4, y5, y6, y7⟩ := HK8.out; obtain ⟨⟨z0, z1, z2, z3⟩, g0, g1, g2, g3⟩ := box4M HM8.out)
      clear t0 t1 t2 t3 t4 t5 y0 y1 y2 y3 y4 y5 y6 y7 z0 z1 z2 z3 g0 g1 g2 g3
      obtain ⟨t0, t1, t2, t3, t4, t5⟩ := HS8.out
      obtain ⟨y0, y1, y2, y3, y4, y5, y6, y7⟩ := HK8.out
      obtain ⟨⟨z0, z1, z2, z3⟩, g0, g1, g2, g3⟩ := box4M HM8.out
      go_wp2
      clear t0 t1 t2 t3 t4 t5 y0 y1 y2 y3 y4 y5 y6 y7 z0 z1 z2 z3 g0 g1 g2 g3
      have HM9 := hid (MBx.s3 HM8.out kn)
      have HE9 := hid (Chg.set (S := [b]) w8 ⟨b, 3, none⟩ (.int .i64 kn) (by simp))
      have HC9 := hid (HC8.out.trans HE9.out)
      have HS9 := hid (HS8.out.chg HE9.out (by simp; exact fun e => HNB.out.1 e.symm))
      have HK9 := hid (HK8.out.chg HE9.out (by simp; exact fun e => HNB.out.2 e.symm))
      generalize w8.setCell ⟨b, 3, none⟩ (.int .i64 kn) = w9 at *
      clear HE9 HM8 HC8 HS8 HK8
      exact bodyPost_end (v := .tuple #[]) (by simp [results, Tryz.results50, go_sem]) rfl ⟨rfl, by rw [HE.out _ rfl]; simp; exact HM9.out, HC9.out⟩
    ·have hf2 : (mf == 0) = false := by simp [hf]
     go_upto_region 6 with fail
     clear t0 t1 t2 t3 t4 t5 y0 y1 y2 y3 y4 y5 y6 y7 z0 z1 z2 z3 g0 g1 g2 g3
     obtain ⟨t0, t1, t2, t3, t4, t5⟩ := HS3.out
     obtain ⟨y0, y1, y2, y3, y4, y5, y6, y7⟩ := HK3.out
     obtain ⟨⟨z0, z1, z2, z3⟩, g0, g1, g2, g3⟩ := box4M HM3.out
     cases m2
     ·go_wp2_with (go_at_call 88; refine (HX2.out _ HC3.out).mono ?_; rintro e w9 ⟨rfl, o9⟩; have HM9 := hid (MBx.old HM3.out o9); have HC9 := hid (HC3.out.trans (Chg.ofOld o9)); have HS9 := hid (HS3.out.chg (Chg.ofOld (S := []) o9) (by simp)); have HK9 := hid (HK3.out.chg (Chg.ofOld (S := []) o9) (by simp)); clear o9 HM3 HC3 HS3 HK3; clear t0 t1 t2 t3 t4 t5 y0 y1 y2 y3 y4 y5 y6 y7 z0 z1 z2 z3 g0 g1 g2 g3; obtain ⟨t0, t1, t2, t3, t4, t5⟩ := HS9.out; obtain ⟨y0, y1, y2, y3, y4, y5, y6, y7⟩ := HK9.out; obtain ⟨⟨z0, z1, z2, z3⟩, g0, g1, g2, g3⟩ := box4M HM9.out)
      exact bodyPost_end (v := .tuple #[]) (by simp [results, Tryz.results50, go_sem]) rfl ⟨rfl, by rw [HE.out _ rfl]; simp [hf]; exact HM9.out, HC9.out⟩
     ·go_upto_region 7 with (go_at_call 88; refine (HX2.out _ HC3.out).mono ?_; rintro e w8 ⟨rfl, o8⟩; have HM8 := hid (MBx.old HM3.out o8); have HC8 := hid (HC3.out.trans (Chg.ofOld o8)); have HS8 := hid (HS3.out.chg (Chg.ofOld (S := []) o8) (by simp)); have HK8 := hid (HK3.out.chg (Chg.ofOld (S := []) o8) (by simp)); clear o8 HM3 HC3 HS3 HK3; clear t0 t1 t2 t3 t4 t5 y0 y1 y2 y3 y4 y5 y6 y7 z0 z1 z2 z3 g0 g1 g2 g3; obtain ⟨t0, t1, t2, t3, t4, t5⟩ := HS8.out; obtain ⟨y0, y1, y2, y3, y4, y5, y6, y7⟩ := HK8.out; obtain ⟨⟨z0, z1, z2, z3⟩, g0, g1, g2, g3⟩ := box4M HM8.out)
      clear t0 t1 t2 t3 t4 t5 y0 y1 y2 y3 y4 y5 y6 y7 z0 z1 z2 z3 g0 g1 g2 g3
      obtain ⟨t0, t1, t2, t3, t4, t5⟩ := HS8.out
      obtain ⟨y0, y1, y2, y3, y4, y5, y6, y7⟩ := HK8.out
      obtain ⟨⟨z0, z1, z2, z3⟩, g0, g1, g2, g3⟩ := box4M HM8.out
      go_wp2
      clear t0 t1 t2 t3 t4 t5 y0 y1 y2 y3 y4 y5 y6 y7 z0 z1 z2 z3 g0 g1 g2 g3
      have HM9 := hid (MBx.s3 HM8.out kn)
      have HE9 := hid (Chg.set (S := [b]) w8 ⟨b, 3, none⟩ (.int .i64 kn) (by simp))
      have HC9 := hid (HC8.out.trans HE9.out)
      have HS9 := hid (HS8.out.chg HE9.out (by simp; exact fun e => HNB.out.1 e.symm))
      have HK9 := hid (HK8.out.chg HE9.out (by simp; exact fun e => HNB.out.2 e.symm))
      generalize w8.setCell ⟨b, 3, none⟩ (.int .i64 kn) = w9 at *
      clear HE9 HM8 HC8 HS8 HK8
      exact bodyPost_end (v := .tuple #[]) (by simp [results, Tryz.results50, go_sem]) rfl ⟨rfl, by rw [HE.out _ rfl]; simp [hf]; exact HM9.out, HC9.out⟩
end Go.Proofs.YtgeinnaljlajoaaGreat
