/- sub.Check at every submission; conditions: the lengths fit. -/
import Derived.Test.YtfpadkgienjjpaaGreatSqz
import Derived.Test.YtfpadkgienjjpaaGreatCvL
import Derived.Sort.AtCall
import Derived.Test.YtfpadkgienjjpaaGreatCvB
namespace Go.Proofs.YtfpadkgienjjpaaGreat
open Go.RowKit Go.Lib
set_option linter.unusedVariables false
set_option linter.unusedSimpArgs false
set_option maxRecDepth 20000
theorem sp_ext {s t : Sp} (h : spEq s t = true) : s = t := by
 obtain ⟨a, b, p, q⟩ := s
 obtain ⟨a', b', p', q'⟩ := t
 simp [spEq] at h
 simp [h]
theorem spEq_false {s t : Sp} (h : spEq s t = false) : s ≠ t := fun e => by subst e; simp [spEq] at h
theorem ordE (a b : Nat) (ha : Fl.W a) (hb : Fl.W b) : (FloatKind.f64.format.order a b == some .eq) = (!Fl.nan a && !Fl.nan b && decide (Fl.code b = Fl.code a)) := (Fl.ord_gt_code a b ha hb).2.1
abbrev P82 (m : Nat) (s t : Sp) (w : World) : Prop := SpAt m s.a s.b s.p s.q w ∧ SpAt (m + 1) t.a t.b t.p t.q w
theorem sp_new (w : World) (a b : Nat) (p q : Bool) (w1 : World) (e : w.alloc (.cells #[.float .f64 a, .float .f64 b, .bool p, .bool q] 69) = w1) (m : Nat) (hm : w.heap.size = m) : SpAt m a b p q w1 ∧ Old w w1 := by
 subst e hm
 exact ⟨by simp [SpAt], (Old.refl w).alloc _⟩
theorem SpAt.oldq {m a b : Nat} {p q : Bool} {w w' : World} (u : Old w w') (h : SpAt m a b p q w) : SpAt m a b p q w' := ⟨u.keep h.1, u.keep h.2.1, u.keep h.2.2.1, u.keep h.2.2.2⟩
attribute [local go_sem] run_bits run_frombits run_store_float eqF
set_option maxHeartbeats 400000 in
theorem alike_any (a b : Nat) (ha : Fl.W a) (hb : Fl.W b) (w : World) : Calls Tryz.prog 84 #[.float .f64 a, .float .f64 b] w fun e w' => e = .returned (.bool (decide (a = b))) ∧ w' = w := by
 go_enter Tryz.func84, Tryz.ntmps84
 go_wp2
 go_ret
 refine ⟨ret_b ?_, rfl⟩
 by_cases e : a = b
 ·subst e; simp
 ·have : ((a : Int) == (b : Int)) = false := by rw [beq_eq_false_iff_ne]; omega
  simp [this, e]
set_option maxHeartbeats 1000000 in
theorem spansAlike_any (s t : Sp) (h1 : Fl.W s.a) (h2 : Fl.W s.b) (h3 : Fl.W t.a) (h4 : Fl.W t.b) (na : Fl.nan s.a = false) (nb : Fl.nan s.b = false) (w : World) :
    Calls Tryz.prog 86 #[.agg #[.float .f64 s.a, .float .f64 s.b, .bool s.p, .bool s.q], .agg #[.float .f64 t.a, .float .f64 t.b, .bool t.p, .bool t.q]] w fun e w' => e = .returned (.bool (spEq s t)) ∧ Old w w' := by
 have HO1 := ordE s.a t.a h1 h3
 have HO2 := ordE s.b t.b h2 h4
 rw [na] at HO1
 rw [nb] at HO2
 have A1 := hid (fun W => alike_any s.a t.a h1 h3 W)
 have A2 := hid (fun W => alike_any s.b t.b h2 h4 W)
 have HE := hid (show spEq s t = ((s.p == t.p) && (s.q == t.q) && (decide (s.a = t.a) && decide (s.b = t.b))) from rfl)
 have HV := hid (((Old.refl w).alloc (.cells #[.float .f64 s.a, .float .f64 s.b, .bool s.p, .bool s.q] 69)).alloc (.cells #[.float .f64 t.a, .float .f64 t.b, .bool t.p, .bool t.q] 69))
 by_cases e1 : s.a = t.a
 ·by_cases e2 : s.b = t.b
  ·have o1 : (FloatKind.f64.format.order s.a t.a == some .eq) = true := by rw [HO1, ← e1, na]; simp
   have o2 : (FloatKind.f64.format.order s.b t.b == some .eq) = true := by rw [HO2, ← e2, nb]; simp
   rw [decide_eq_true e1] at A1 HE
   rw [decide_eq_true e2] at A2 HE
   clear HO1 HO2 e1 e2
   generalize spEq s t = r at *
   generalize s.p = sp at *
   generalize t.p = tp at *
   generalize s.q = sq at *
   generalize t.q = tq at *
   cases hp : (sp == tp)
   ·rw [hp] at HE
    go_enter Tryz.func86, Tryz.ntmps86
    go_wp2_with (first | (go_at_call_of 84 (Value.float .f64 t.a); refine (A1.out _).mono ?_; rintro e w5 ⟨rfl, hq⟩; have hq2 := hq.symm; subst hq2) | (go_at_call_of 84 (Value.float .f64 t.b); refine (A2.out _).mono ?_; rintro e w6 ⟨rfl, hq⟩; have hq2 := hq.symm; subst hq2))
    all_goals go_ret
    all_goals exact ⟨by rw [HE.out]; simp, ((Old.refl w).alloc _).alloc _⟩
   ·rw [hp] at HE
    cases hq0 : (sq == tq)
    ·rw [hq0] at HE
     go_enter Tryz.func86, Tryz.ntmps86
     go_wp2_with (first | (go_at_call_of 84 (Value.float .f64 t.a); refine (A1.out _).mono ?_; rintro e w5 ⟨rfl, hq⟩; have hq2 := hq.symm; subst hq2) | (go_at_call_of 84 (Value.float .f64 t.b); refine (A2.out _).mono ?_; rintro e w6 ⟨rfl, hq⟩; have hq2 := hq.symm; subst hq2))
     all_goals go_ret
     all_goals exact ⟨by rw [HE.out]; simp, ((Old.refl w).alloc _).alloc _⟩
    ·rw [hq0] at HE
     go_enter Tryz.func86, Tryz.ntmps86
     go_wp2_with (first | (go_at_call_of 84 (Value.float .f64 t.a); refine (A1.out _).mono ?_; rintro e w5 ⟨rfl, hq⟩; have hq2 := hq.symm; subst hq2) | (go_at_call_of 84 (Value.float .f64 t.b); refine (A2.out _).mono ?_; rintro e w6 ⟨rfl, hq⟩; have hq2 := hq.symm; subst hq2))
     all_goals go_ret
     all_goals exact ⟨by rw [HE.out]; simp, ((Old.refl w).alloc _).alloc _⟩
  ·have HE2 := hid (show spEq s t = false by rw [HE.out, decide_eq_false e2]; simp)
   rw [decide_eq_true e1] at A1
   rw [decide_eq_false e2] at A2
   rw [HE2.out]
   clear HO1 HO2 e1 e2 HE HE2
   go_enter Tryz.func86, Tryz.ntmps86
   go_wp2_with (first | (go_at_call_of 84 (Value.float .f64 t.a); refine (A1.out _).mono ?_; rintro e w5 ⟨rfl, hq⟩; have hq2 := hq.symm; subst hq2) | (go_at_call_of 84 (Value.float .f64 t.b); refine (A2.out _).mono ?_; rintro e w6 ⟨rfl, hq⟩; have hq2 := hq.symm; subst hq2))
   all_goals go_ret
   all_goals exact ⟨rfl, ((Old.refl w).alloc _).alloc _⟩
 ·have HE2 := hid (show spEq s t = false by rw [HE.out, decide_eq_false e1]; simp)
  rw [decide_eq_false e1] at A1
  rw [HE2.out]
  clear HO1 HO2 e1 HE HE2 A2
  go_enter Tryz.func86, Tryz.ntmps86
  go_wp2_with (first | (go_at_call_of 84 (Value.float .f64 t.a); refine (A1.out _).mono ?_; rintro e w5 ⟨rfl, hq⟩; have hq2 := hq.symm; subst hq2))
  all_goals go_ret
  all_goals exact ⟨rfl, ((Old.refl w).alloc _).alloc _⟩
set_option maxHeartbeats 1000000 in
theorem equalF_any (v1 v2 : Value) (n m : Nat) (x y : Nat → Nat) (w : World) (h1 : FRow w v1 n x) (h2 : FRow w v2 m y) :
    Calls Tryz.prog 83 #[v1, v2, .func (.func 84) #[] #[]] w fun e w' => e = .returned (.bool (decide (n = m) && Fl.sameU x y n)) ∧ Old w w' := by
 obtain ⟨hb, a, c, rfl, hc⟩ := h1
 obtain ⟨hb', a', c', rfl, hc'⟩ := h2
 by_cases e : n = m
 ·subst e
  rw [decide_eq_true rfl, Bool.true_and]
  have HC := hid hc
  have HC' := hid hc'
  clear hc hc' hb'
  go_enter Tryz.func83, Tryz.ntmps83
  go_wp2
  go_loopw [17] (fun i wr => ∃ j : Nat, j ≤ n ∧ i = .int .i64 (j : Nat) ∧ Fl.sameU x y j = true ∧ Old w wr) (fun i _ => n - (intOf i).toNat)
  case atStart => exact ⟨0, Nat.zero_le _, rfl, rfl, Old.refl _⟩
  case round =>
   obtain ⟨j, hj, rfl, hs, hu⟩ := hrel
   have HSU := hid hs
   have HU := hid hu
   clear hs hu
   by_cases hlt : j < n
   ·obtain ⟨b, off, ha, hW, c0⟩ := HC.out j hlt
    obtain ⟨b', off', ha', hW', d0⟩ := HC'.out j hlt
    subst ha ha'
    have x0 := HU.out.keep c0
    have y0 := HU.out.keep d0
    have HA := hid (fun W => alike_any (x j) (y j) hW hW' W)
    have l1 : (0 : Int) ≤ (j : Int) := by omega
    have l2 : (j : Int) < (n : Int) := by omega
    clear c0 d0 hW hW'
    have HSt := hid (show Fl.sameU x y (j + 1) = (Fl.sameU x y j && decide (x j = y j)) from rfl)
    have HFl := hid (fun (e : ¬ x j = y j) => Fl.sameU_false x y n j hlt e)
    generalize hs1 : x j = s1 at *
    generalize hs2 : y j = s2 at *
    clear hs1 hs2
    by_cases hq : s1 = s2
    ·have HF := hid (show Fl.sameU x y (j + 1) = true by rw [HSt.out, HSU.out, decide_eq_true hq, Bool.and_true])
     rw [decide_eq_true hq] at HA
     clear hq HFl HSt
     go_wp2_with (first | (go_at_call 84; refine (HA.out _).mono ?_; rintro e w5 ⟨rfl, hq⟩; have hq2 := hq.symm; subst hq2))
     go_roundw
     case rel => exact ⟨j + 1, hlt, by go_num, HF.out, HU.out⟩
     case measure => simp [intOf]; omega
    ·have HF := hid (HFl.out hq)
     rw [decide_eq_false hq] at HA
     clear hq HFl HSt
     go_wp2_with (first | (go_at_call 84; refine (HA.out _).mono ?_; rintro e w5 ⟨rfl, hq⟩; have hq2 := hq.symm; subst hq2))
     go_ret
     exact ⟨ret_b HF.out.symm, HU.out⟩
   ·obtain rfl : j = n := by omega
    go_wp2
    go_ret
    exact ⟨ret_b HSU.out.symm, HU.out⟩
 ·rw [decide_eq_false e, Bool.false_and]
  have t : ((n : Int) != (m : Int)) = true := by rw [bne_iff_ne]; omega
  clear e hc hc'
  go_enter Tryz.func83, Tryz.ntmps83
  go_wp2
  go_ret
  exact ⟨rfl, Old.refl _⟩
set_option maxHeartbeats 1000000 in
theorem equalS_any (v1 v2 : Value) (n m : Nat) (f g : Nat → Sp) (w : World) (h1 : SRow w v1 n f) (h2 : SRow w v2 m g) (hn : ∀ i, i < n → Fl.nan (f i).a = false ∧ Fl.nan (f i).b = false) :
    Calls Tryz.prog 85 #[v1, v2, .func (.func 86) #[] #[]] w fun e w' => e = .returned (.bool (decide (n = m) && Fl.spU f g n)) ∧ Old w w' := by
 obtain ⟨hb, a, c, rfl, hc⟩ := h1
 obtain ⟨hb', a', c', rfl, hc'⟩ := h2
 by_cases e : n = m
 ·subst e
  rw [decide_eq_true rfl, Bool.true_and]
  have HC := hid hc
  have HC' := hid hc'
  have HNn := hid hn
  clear hc hc' hb' hn
  go_enter Tryz.func85, Tryz.ntmps85
  go_wp2
  go_loopw [17] (fun i wr => ∃ j : Nat, j ≤ n ∧ i = .int .i64 (j : Nat) ∧ Fl.spU f g j = true ∧ Old w wr) (fun i _ => n - (intOf i).toNat)
  case atStart => exact ⟨0, Nat.zero_le _, rfl, rfl, Old.refl _⟩
  case round =>
   obtain ⟨j, hj, rfl, hs, hu⟩ := hrel
   have HSU := hid hs
   have HU := hid hu
   clear hs hu
   by_cases hlt : j < n
   ·obtain ⟨b, off, ha, hW, hWb, c0, c1, c2, c3⟩ := HC.out j hlt
    obtain ⟨b', off', ha', hW', hWb', d0, d1, d2, d3⟩ := HC'.out j hlt
    subst ha ha'
    have x0 := HU.out.keep c0
    have x1 := HU.out.keep c1
    have x2 := HU.out.keep c2
    have x3 := HU.out.keep c3
    have y0 := HU.out.keep d0
    have y1 := HU.out.keep d1
    have y2 := HU.out.keep d2
    have y3 := HU.out.keep d3
    have hnn := HNn.out j hlt
    have HA := hid (fun W => spansAlike_any (f j) (g j) hW hWb hW' hWb' hnn.1 hnn.2 W)
    have l1 : (0 : Int) ≤ (j : Int) := by omega
    have l2 : (j : Int) < (n : Int) := by omega
    clear c0 c1 c2 c3 d0 d1 d2 d3 hW hW' hWb hWb' hnn
    have HSt := hid (show Fl.spU f g (j + 1) = (Fl.spU f g j && spEq (f j) (g j)) from rfl)
    have HFl := hid (fun (e : spEq (f j) (g j) = false) => Fl.spU_false f g n j hlt e)
    generalize hs1 : f j = s1 at *
    generalize hs2 : g j = s2 at *
    clear hs1 hs2
    go_upto_region 6 with fail
    generalize hwa : wr.alloc (.cells #[.float .f64 s1.a, .float .f64 s1.b, .bool s1.p, .bool s1.q] 69) = wa at *
    generalize hba : wr.heap.size = ba at *
    obtain ⟨hA, uA⟩ := sp_new wr _ _ _ _ wa hwa ba hba
    have z0 := uA.keep y0
    have z1 := uA.keep y1
    have z2 := uA.keep y2
    have z3 := uA.keep y3
    clear hwa hba x0 x1 x2 x3 y0 y1 y2 y3
    go_upto_region 7 with fail
    generalize hwb : wa.alloc (.cells #[.float .f64 s2.a, .float .f64 s2.b, .bool s2.p, .bool s2.q] 69) = wb at *
    generalize hbb : wa.heap.size = bb at *
    obtain ⟨⟨e0, e1, e2, e3⟩, uB⟩ := sp_new wa _ _ _ _ wb hwb bb hbb
    obtain ⟨d0, d1, d2, d3⟩ := SpAt.oldq uB hA
    have HV := hid ((HU.out.trans uA).trans uB)
    clear hwb hbb uA uB hA z0 z1 z2 z3
    cases hq : spEq s1 s2
    ·have HF := hid (HFl.out hq)
     rw [hq] at HA
     clear hq HFl HSt
     go_wp2_with (first | (go_at_call 86; refine (HA.out _).mono ?_; rintro e w5 ⟨rfl, u5⟩; have U5 := hid u5; clear u5))
     go_ret
     exact ⟨ret_b HF.out.symm, HV.out.trans U5.out⟩
    ·have HF := hid (show Fl.spU f g (j + 1) = true by rw [HSt.out, HSU.out, hq, Bool.and_true])
     rw [hq] at HA
     clear hq HFl HSt
     go_wp2_with (first | (go_at_call 86; refine (HA.out _).mono ?_; rintro e w5 ⟨rfl, u5⟩; have U5 := hid u5; clear u5))
     go_roundw
     case rel => exact ⟨j + 1, hlt, by go_num, HF.out, HV.out.trans U5.out⟩
     case measure => simp [intOf]; omega
   ·obtain rfl : j = n := by omega
    go_wp2
    go_ret
    exact ⟨ret_b HSU.out.symm, HU.out⟩
 ·rw [decide_eq_false e, Bool.false_and]
  have t : ((n : Int) != (m : Int)) = true := by rw [bne_iff_ne]; omega
  clear e hc hc'
  go_enter Tryz.func85, Tryz.ntmps85
  go_wp2
  go_ret
  exact ⟨rfl, Old.refl _⟩
end Go.Proofs.YtfpadkgienjjpaaGreat
namespace Go.Proofs.YtfpadkgienjjpaaGreat
open Go.RowKit Go.Lib
set_option linter.unusedVariables false
set_option linter.unusedSimpArgs false
set_option maxRecDepth 20000
def ordF (x : Nat → Nat) (n : Nat) : Bool := decide (n = (Fl.sortL x n).length) && Fl.sameU x (atN (Fl.sortL x n)) n
def ordS (f : Nat → Sp) (n : Nat) : Bool := decide (n = (Fl.dfold (Fl.cdl f n)).length) && Fl.spU f (atS ((Fl.dfold (Fl.cdl f n)).map Fl.spo)) n
def chkO (m c k z o : Bool) : Int := if m = true then 43 else if c = true then 3 else if k = true then 40 else if z = true then 41 else if o = true then 0 else 42
def chkV (s1 s2 s3 : Int) (n1 n2 n3 : Nat) (x1 x3 : Nat → Nat) (f2 : Nat → Sp) : Int := chkO (misB s1 s2 s3) (crowdB n1 n2 n3) (Fl.anyG (fun i => Fl.nan (x1 i)) n1 || Fl.anyG (fun i => Fl.nan (x3 i)) n3) (Fl.anyG (fun i => Fl.csE (f2 i).a (f2 i).b (f2 i).p (f2 i).q) n2) (ordF x1 n1 && ordS f2 n2 && ordF x3 n3)
theorem csE_nan {a b : Nat} {p q : Bool} (h : Fl.csE a b p q = false) : Fl.nan a = false ∧ Fl.nan b = false := by
 have q := Fl.csE_false a b p q h
 exact ⟨q.2.2.1, q.2.2.2.1⟩
theorem anyG_each {g : Nat → Bool} : ∀ {n : Nat}, Fl.anyG g n = false → ∀ i, i < n → g i = false
 | n + 1, h, i, hi => by
  have h' : (Fl.anyG g n || g n) = false := h
  rw [Bool.or_eq_false_iff] at h'
  by_cases e : i = n
  ·subst e; exact h'.2
  ·exact anyG_each h'.1 i (by omega)
theorem sub_new (w : World) (s1 s2 s3 : Int) (v1 v2 v3 : Value) (w1 : World) (e : w.alloc (.cells #[.int .i64 s1, .int .i64 s2, .int .i64 s3, v1, v2, v3] 25) = w1) (m : Nat) (hm : w.heap.size = m) : SubAt m s1 s2 s3 v1 v2 v3 w1 ∧ Old w w1 := by
 subst e hm
 exact ⟨by simp [SubAt], (Old.refl w).alloc _⟩
theorem SRow.ws {w : World} {v : Value} {n : Nat} {f : Nat → Sp} (h : SRow w v n f) : ∀ i, i < n → Fl.W (f i).a ∧ Fl.W (f i).b := fun i hi => by
 obtain ⟨_, a, c, e, hc⟩ := h
 obtain ⟨b, off, _, q1, q2, _⟩ := hc i hi
 exact ⟨q1, q2⟩
theorem FRow.ws {w : World} {v : Value} {n : Nat} {x : Nat → Nat} (h : FRow w v n x) : ∀ i, i < n → Fl.W (x i) := fun i hi => by
 obtain ⟨_, a, c, e, hc⟩ := h
 obtain ⟨b, off, _, q1, _⟩ := hc i hi
 exact q1
attribute [local go_sem] run_bits run_frombits run_store_float eqF
set_option maxHeartbeats 4000000 in
theorem ordered_any (s1 s2 s3 : Int) (a1 a2 a3 : Option Addr) (n1 n2 n3 c1 c2 c3 : Nat) (x1 x3 : Nat → Nat) (f2 : Nat → Sp) (b1 : n1 ≤ 17592186044000) (b2 : n2 ≤ 5864062014805) (b3 : n3 ≤ 17592186044000) (w : World) (h1 : FRow w (.slice a1 n1 c1) n1 x1) (h2 : SRow w (.slice a2 n2 c2) n2 f2) (h3 : FRow w (.slice a3 n3 c3) n3 x3) (hn : ∀ i, i < n2 → Fl.nan (f2 i).a = false ∧ Fl.nan (f2 i).b = false) :
    Calls Tryz.prog 62 #[.agg #[.int .i64 s1, .int .i64 s2, .int .i64 s3, .slice a1 n1 c1, .slice a2 n2 c2, .slice a3 n3 c3]] w fun e w' => e = .returned (.bool (ordF x1 n1 && ordS f2 n2 && ordF x3 n3)) ∧ Old w w' := by
 have hk2 := Fl.dfold_ok _ (Fl.cdl f2 n2) rfl (Fl.cdl_RV f2 n2 h2.ws)
 have hl2 : (Fl.dfold (Fl.cdl f2 n2)).length ≤ n2 := by have := hk2.2.2; have := Fl.cdl_len f2 n2; omega
 have hl1 := Fl.sortL_len x1 n1
 have hl3 := Fl.sortL_len x3 n3
 have HT1 := hid (fun (W : World) v (h : FOwn w.heap.size W v (Fl.sortL x1 n1)) => h.row (sortL_W x1 n1 h1.ws) (by omega))
 have HT3 := hid (fun (W : World) v (h : FOwn w.heap.size W v (Fl.sortL x3 n3)) => h.row (sortL_W x3 n3 h3.ws) (by omega))
 have HT2 := hid (show ∀ (W : World) v, OwnS w.heap.size W v ((Fl.dfold (Fl.cdl f2 n2)).map Fl.spo) → SRow W v (Fl.dfold (Fl.cdl f2 n2)).length (atS ((Fl.dfold (Fl.cdl f2 n2)).map Fl.spo)) from fun W v h => by
  have q := h.row (fun s hs => by obtain ⟨r, hr, rfl⟩ := List.mem_map.1 hs; exact Fl.spo_W (hk2.1.2 r hr)) (by rw [List.length_map]; omega)
  rw [List.length_map] at q
  exact q)
 have HF := hid (fun (W : World) (u : Old w W) => form_any s1 s2 s3 a1 a2 a3 n1 n2 n3 c1 c2 c3 x1 x3 f2 b1 b2 b3 W (h1.old u) (h2.old u) (h3.old u))
 have R1 := hid h1
 have R2 := hid h2
 have R3 := hid h3
 have HNn := hid hn
 have HO1 := hid (show ordF x1 n1 = (decide (n1 = (Fl.sortL x1 n1).length) && Fl.sameU x1 (atN (Fl.sortL x1 n1)) n1) from rfl)
 have HO3 := hid (show ordF x3 n3 = (decide (n3 = (Fl.sortL x3 n3).length) && Fl.sameU x3 (atN (Fl.sortL x3 n3)) n3) from rfl)
 have HO2 := hid (show ordS f2 n2 = (decide (n2 = (Fl.dfold (Fl.cdl f2 n2)).length) && Fl.spU f2 (atS ((Fl.dfold (Fl.cdl f2 n2)).map Fl.spo)) n2) from rfl)
 clear h1 h2 h3 hn hk2 hl1 hl2 hl3
 generalize ordF x1 n1 = o1 at *
 generalize ordF x3 n3 = o3 at *
 generalize ordS f2 n2 = o2 at *
 generalize Fl.sortL x1 n1 = L1 at *
 generalize Fl.sortL x3 n3 = L3 at *
 generalize Fl.dfold (Fl.cdl f2 n2) = D at *
 go_enter Tryz.func62, Tryz.ntmps62
 go_upto_region 1 with fail
 generalize hw1 : w.alloc (.cells #[.int .i64 s1, .int .i64 s2, .int .i64 s3, .slice a1 n1 c1, .slice a2 n2 c2, .slice a3 n3 c3] 25) = w1 at *
 generalize hsb : w.heap.size = sb at *
 obtain ⟨hS, hV⟩ := sub_new w s1 s2 s3 _ _ _ w1 hw1 sb hsb
 have HV := hid hV
 have HS := hid hS
 have HSZ := hid (show sb ≤ w1.heap.size by have := hV.size; omega)
 obtain ⟨t0, t1, t2, t3, t4, t5⟩ := hS
 clear hw1 hV hsb
 go_upto_region 2 with (first | (go_at_call 82; refine (HF.out _ HV.out).mono ?_; rintro e w5 ⟨p1, p2, p3, q1, q2, q3, rfl, g1, g2, g3, u5⟩; have U5 := hid u5; have G1 := hid (g1.mono' HSZ.out); have G2 := hid (g2.mono' HSZ.out); have G3 := hid (g3.mono' HSZ.out); clear g1 g2 g3 u5))
 generalize hw2 : w5.alloc (.cells #[.int .i64 s1, .int .i64 s2, .int .i64 s3, .slice p1 L1.length q1, .slice p2 D.length q2, .slice p3 L3.length q3] 25) = w2 at *
 generalize hfb : w5.heap.size = fb at *
 obtain ⟨hS2, hV2⟩ := sub_new w5 s1 s2 s3 _ _ _ w2 hw2 fb hfb
 have HV2 := hid ((HV.out.trans U5.out).trans hV2)
 have F1 := hid (HT1.out _ _ (G1.out.old hV2))
 have F2 := hid (HT2.out _ _ (G2.out.old hV2))
 have F3 := hid (HT3.out _ _ (G3.out.old hV2))
 obtain ⟨y0, y1, y2, y3, y4, y5⟩ := SubAt.old (U5.out.trans hV2) HS.out
 obtain ⟨z0, z1, z2, z3, z4, z5⟩ := hS2
 have HB := hid (show SubAt sb s1 s2 s3 (.slice a1 n1 c1) (.slice a2 n2 c2) (.slice a3 n3 c3) w2 ∧ SubAt fb s1 s2 s3 (.slice p1 L1.length q1) (.slice p2 D.length q2) (.slice p3 L3.length q3) w2 from ⟨⟨y0, y1, y2, y3, y4, y5⟩, z0, z1, z2, z3, z4, z5⟩)
 clear hw2 hfb hV2 t0 t1 t2 t3 t4 t5 G1 G2 G3 HF HT1 HT2 HT3 HS
 have E1 := hid (fun (W : World) (u : Old w2 W) => equalF_any _ _ n1 L1.length x1 (atN L1) W (R1.out.old (HV2.out.trans u)) (F1.out.old u))
 have E3 := hid (fun (W : World) (u : Old w2 W) => equalF_any _ _ n3 L3.length x3 (atN L3) W (R3.out.old (HV2.out.trans u)) (F3.out.old u))
 have E2 := hid (fun (W : World) (u : Old w2 W) => equalS_any _ _ n2 D.length f2 (atS (D.map Fl.spo)) W (R2.out.old (HV2.out.trans u)) (F2.out.old u) HNn.out)
 rw [← HO1.out] at E1
 rw [← HO2.out] at E2
 rw [← HO3.out] at E3
 clear HO1 HO2 HO3 R1 R2 R3 F1 F2 F3 HNn
 cases o1
 ·go_wp2_with (first | (go_at_call_of 83 (Value.slice a1 n1 c1); refine (E1.out _ (Old.refl _)).mono ?_; rintro e x5 ⟨rfl, u6⟩; have U6 := hid u6; clear u6))
  go_ret
  exact ⟨rfl, HV2.out.trans U6.out⟩
 ·cases o2
  ·go_wp2_with (first | (go_at_call_of 83 (Value.slice a1 n1 c1); refine (E1.out _ (Old.refl _)).mono ?_; rintro e x5 ⟨rfl, u6⟩; have U6 := hid u6; clear u6; obtain ⟨⟨_, _, _, _, y4', y5'⟩, _, _, _, _, z4', z5'⟩ := And.intro (SubAt.old U6.out HB.out.1) (SubAt.old U6.out HB.out.2)) | (go_at_call 85; refine (E2.out _ U6.out).mono ?_; rintro e x6 ⟨rfl, u7⟩; have U7 := hid (U6.out.trans u7); clear u7))
   go_ret
   exact ⟨rfl, HV2.out.trans U7.out⟩
  ·go_wp2_with (first | (go_at_call_of 83 (Value.slice a1 n1 c1); refine (E1.out _ (Old.refl _)).mono ?_; rintro e x5 ⟨rfl, u6⟩; have U6 := hid u6; clear u6; obtain ⟨⟨_, _, _, _, y4', y5'⟩, _, _, _, _, z4', z5'⟩ := And.intro (SubAt.old U6.out HB.out.1) (SubAt.old U6.out HB.out.2)) | (go_at_call 85; refine (E2.out _ U6.out).mono ?_; rintro e x6 ⟨rfl, u7⟩; have U7 := hid (U6.out.trans u7); clear u7; obtain ⟨⟨_, _, _, _, _, y5''⟩, _, _, _, _, _, z5''⟩ := And.intro (SubAt.old U7.out HB.out.1) (SubAt.old U7.out HB.out.2)) | (go_at_call_of 83 (Value.slice a3 n3 c3); refine (E3.out _ U7.out).mono ?_; rintro e x7 ⟨rfl, u8⟩; have U8 := hid (U7.out.trans u8); clear u8))
   go_ret
   exact ⟨ret_b (by simp), HV2.out.trans U8.out⟩
set_option maxHeartbeats 4000000 in
theorem check_any (s1 s2 s3 : Int) (a1 a2 a3 : Option Addr) (n1 n2 n3 c1 c2 c3 : Nat) (x1 x3 : Nat → Nat) (f2 : Nat → Sp) (b1 : n1 ≤ 17592186044000) (b2 : n2 ≤ 5864062014805) (b3 : n3 ≤ 17592186044000) (w : World) (h1 : FRow w (.slice a1 n1 c1) n1 x1) (h2 : SRow w (.slice a2 n2 c2) n2 f2) (h3 : FRow w (.slice a3 n3 c3) n3 x3) :
    Calls Tryz.prog 38 #[.agg #[.int .i64 s1, .int .i64 s2, .int .i64 s3, .slice a1 n1 c1, .slice a2 n2 c2, .slice a3 n3 c3]] w fun e w' => e = .returned (.int .i64 (chkV s1 s2 s3 n1 n2 n3 x1 x3 f2)) ∧ Old w w' := by
 have HO := hid (fun (hz : Fl.anyG (fun i => Fl.csE (f2 i).a (f2 i).b (f2 i).p (f2 i).q) n2 = false) (W : World) (u : Old w W) => ordered_any s1 s2 s3 a1 a2 a3 n1 n2 n3 c1 c2 c3 x1 x3 f2 b1 b2 b3 W (h1.old u) (h2.old u) (h3.old u) (fun i hi => csE_nan (anyG_each hz i hi)))
 have HM := hid (fun (W : World) (u : Old w W) => misnamed_any s1 s2 s3 (.slice a1 n1 c1) (.slice a2 n2 c2) (.slice a3 n3 c3) W)
 have HC := hid (fun (W : World) (u : Old w W) => crowded_any s1 s2 s3 a1 a2 a3 n1 n2 n3 c1 c2 c3 W)
 have HK := hid (fun (W : World) (u : Old w W) => keyless_any s1 s2 s3 (.slice a1 n1 c1) (.slice a2 n2 c2) (.slice a3 n3 c3) n1 n3 x1 x3 W (h1.old u) (h3.old u))
 have HZ := hid (fun (W : World) (u : Old w W) => empties_any (.slice a2 n2 c2) n2 f2 W (h2.old u))
 unfold chkV
 generalize misB s1 s2 s3 = m at *
 generalize crowdB n1 n2 n3 = c at *
 generalize (Fl.anyG (fun i => Fl.nan (x1 i)) n1 || Fl.anyG (fun i => Fl.nan (x3 i)) n3) = k at *
 generalize Fl.anyG (fun i => Fl.csE (f2 i).a (f2 i).b (f2 i).p (f2 i).q) n2 = z at *
 generalize (ordF x1 n1 && ordS f2 n2 && ordF x3 n3) = o at *
 clear h1 h2 h3
 go_enter Tryz.func38, Tryz.ntmps38
 go_upto_region 1 with fail
 generalize hw1 : w.alloc (.cells #[.int .i64 s1, .int .i64 s2, .int .i64 s3, .slice a1 n1 c1, .slice a2 n2 c2, .slice a3 n3 c3] 25) = w1 at *
 generalize hsb : w.heap.size = sb at *
 obtain ⟨hS, hV⟩ := sub_new w s1 s2 s3 _ _ _ w1 hw1 sb hsb
 have HV := hid hV
 have HS := hid hS
 obtain ⟨t0, t1, t2, t3, t4, t5⟩ := hS
 clear hw1 hV hsb
 cases m
 ·go_upto_region 3 with (first | (go_at_call 57; refine (HM.out _ HV.out).mono ?_; rintro e w2 ⟨rfl, u2⟩; have U2 := hid (HV.out.trans u2); have B2 := hid (SubAt.old u2 HS.out); clear u2))
  clear t0 t1 t2 t3 t4 t5 HS HM
  obtain ⟨t0, t1, t2, t3, t4, t5⟩ := B2.out
  cases c
  ·go_upto_region 5 with (first | (go_at_call 58; refine (HC.out _ U2.out).mono ?_; rintro e w3 ⟨rfl, u3⟩; have U3 := hid (U2.out.trans u3); have B3 := hid (SubAt.old u3 B2.out); clear u3))
   clear t0 t1 t2 t3 t4 t5 B2 HC
   obtain ⟨t0, t1, t2, t3, t4, t5⟩ := B3.out
   cases k
   ·go_upto_region 7 with (first | (go_at_call 59; refine (HK.out _ U3.out).mono ?_; rintro e w4 ⟨rfl, u4⟩; have U4 := hid (U3.out.trans u4); have B4 := hid (SubAt.old u4 B3.out); clear u4))
    clear t0 t1 t2 t3 t4 t5 B3 HK
    obtain ⟨t0, t1, t2, t3, t4, t5⟩ := B4.out
    cases z
    ·have HO2 := hid (HO.out rfl)
     clear HO
     go_upto_region 9 with (first | (go_at_call 60; refine (HZ.out _ U4.out).mono ?_; rintro e w5 ⟨rfl, u5⟩; have U5 := hid (U4.out.trans u5); have B5 := hid (SubAt.old u5 B4.out); clear u5))
     clear t0 t1 t2 t3 t4 t5 B4 HZ
     obtain ⟨t0, t1, t2, t3, t4, t5⟩ := B5.out
     cases o
     ·go_wp2_with (first | (go_at_call 62; refine (HO2.out _ U5.out).mono ?_; rintro e w6 ⟨rfl, u6⟩; have U6 := hid (U5.out.trans u6); clear u6))
      go_ret
      exact ⟨rfl, U6.out⟩
     ·go_wp2_with (first | (go_at_call 62; refine (HO2.out _ U5.out).mono ?_; rintro e w6 ⟨rfl, u6⟩; have U6 := hid (U5.out.trans u6); clear u6))
      go_ret
      exact ⟨rfl, U6.out⟩
    ·clear HO
     go_wp2_with (first | (go_at_call 60; refine (HZ.out _ U4.out).mono ?_; rintro e w5 ⟨rfl, u5⟩; have U5 := hid (U4.out.trans u5); clear u5))
     go_ret
     exact ⟨rfl, U5.out⟩
   ·clear HO
    go_wp2_with (first | (go_at_call 59; refine (HK.out _ U3.out).mono ?_; rintro e w4 ⟨rfl, u4⟩; have U4 := hid (U3.out.trans u4); clear u4))
    go_ret
    exact ⟨rfl, U4.out⟩
  ·clear HO
   go_wp2_with (first | (go_at_call 58; refine (HC.out _ U2.out).mono ?_; rintro e w3 ⟨rfl, u3⟩; have U3 := hid (U2.out.trans u3); clear u3))
   go_ret
   exact ⟨rfl, U3.out⟩
 ·clear HO
  go_wp2_with (first | (go_at_call 57; refine (HM.out _ HV.out).mono ?_; rintro e w2 ⟨rfl, u2⟩; have U2 := hid (HV.out.trans u2); clear u2))
  go_ret
  exact ⟨rfl, U2.out⟩
end Go.Proofs.YtfpadkgienjjpaaGreat
namespace Go.Proofs.YtfpadkgienjjpaaGreat
open Go.RowKit Go.Lib
set_option linter.unusedVariables false
set_option linter.unusedSimpArgs false
set_option maxRecDepth 20000
structure Sb where
 s1 : Int
 s2 : Int
 s3 : Int
 a1 : Option Addr
 a2 : Option Addr
 a3 : Option Addr
 n1 : Nat
 n2 : Nat
 n3 : Nat
 c1 : Nat
 c2 : Nat
 c3 : Nat
 x1 : Nat → Nat
 x3 : Nat → Nat
 f2 : Nat → Sp
structure Sb.Ok (s : Sb) (w : World) : Prop where
 h1 : FRow w (.slice s.a1 s.n1 s.c1) s.n1 s.x1
 h2 : SRow w (.slice s.a2 s.n2 s.c2) s.n2 s.f2
 h3 : FRow w (.slice s.a3 s.n3 s.c3) s.n3 s.x3
 b1 : s.n1 ≤ 17592186044000
 b2 : s.n2 ≤ 5864062014805
 b3 : s.n3 ≤ 17592186044000
theorem Sb.Ok.old {s : Sb} {w w' : World} (h : s.Ok w) (u : Old w w') : s.Ok w' := ⟨h.h1.old u, h.h2.old u, h.h3.old u, h.b1, h.b2, h.b3⟩
def Sb.chk (s : Sb) : Int := chkV s.s1 s.s2 s.s3 s.n1 s.n2 s.n3 s.x1 s.x3 s.f2
theorem two_new (w : World) (a b : Sb) (w1 : World) (e : (w.alloc (.cells #[.int .i64 a.s1, .int .i64 a.s2, .int .i64 a.s3, .slice a.a1 a.n1 a.c1, .slice a.a2 a.n2 a.c2, .slice a.a3 a.n3 a.c3] 25)).alloc (.cells #[.int .i64 b.s1, .int .i64 b.s2, .int .i64 b.s3, .slice b.a1 b.n1 b.c1, .slice b.a2 b.n2 b.c2, .slice b.a3 b.n3 b.c3] 25) = w1) (m : Nat) (hm : w.heap.size = m) : SubAt m a.s1 a.s2 a.s3 (.slice a.a1 a.n1 a.c1) (.slice a.a2 a.n2 a.c2) (.slice a.a3 a.n3 a.c3) w1 ∧ SubAt (m + 1) b.s1 b.s2 b.s3 (.slice b.a1 b.n1 b.c1) (.slice b.a2 b.n2 b.c2) (.slice b.a3 b.n3 b.c3) w1 ∧ Old w w1 := by
 have h1 := sub_new w a.s1 a.s2 a.s3 (.slice a.a1 a.n1 a.c1) (.slice a.a2 a.n2 a.c2) (.slice a.a3 a.n3 a.c3) _ rfl m hm
 have h2 := sub_new (w.alloc (.cells #[.int .i64 a.s1, .int .i64 a.s2, .int .i64 a.s3, .slice a.a1 a.n1 a.c1, .slice a.a2 a.n2 a.c2, .slice a.a3 a.n3 a.c3] 25)) b.s1 b.s2 b.s3 _ _ _ w1 e (m + 1) (by simp [hm])
 exact ⟨SubAt.old h2.2 h1.1, h2.1, h1.2.trans h2.2⟩
def keyEq (x k : Nat) : Bool := !Fl.nan x && !Fl.nan k && decide (Fl.code k = Fl.code x)
theorem anyG_no {g : Nat → Bool} : ∀ {n : Nat}, (∀ i, i < n → g i = false) → Fl.anyG g n = false
 | 0, _ => rfl
 | n + 1, h => by
  show (Fl.anyG g n || g n) = false
  rw [anyG_no (fun i hi => h i (by omega)), h n (by omega)]; rfl
theorem anyG_iff {g : Nat → Bool} {n : Nat} : Fl.anyG g n = true ↔ ∃ i, i < n ∧ g i = true := by
 constructor
 ·intro h
  by_cases q : ∃ i, i < n ∧ g i = true
  ·exact q
  ·have : Fl.anyG g n = false := anyG_no fun i hi => by
     cases e : g i
     ·rfl
     ·exact absurd ⟨i, hi, e⟩ q
   rw [this] at h; cases h
 ·rintro ⟨i, hi, h⟩
  exact Fl.anyG_true g n i hi h
attribute [local go_sem] run_bits run_frombits run_store_float eqF
set_option maxHeartbeats 1000000 in
theorem index_am (v : Value) (n : Nat) (f : Nat → Nat) (g : Nat → Bool) (kb : Nat) (w : World) (hv : FRow w v n f) (hf : ∀ i, i < n → ∀ W, Old w W → Calls Tryz.prog 129 #[.float .f64 (f i), .pointer (some ⟨kb, 0, none⟩)] W fun e w' => e = .returned (.bool (g i)) ∧ Old W w') :
    Calls Tryz.prog 99 #[v, .func (.func 129) #[] #[.pointer (some ⟨kb, 0, none⟩)]] w fun e w' => ∃ r : Int, e = .returned (.int .i64 r) ∧ decide (0 ≤ r) = Fl.anyG g n ∧ Old w w' := by
 obtain ⟨hm, a, c, rfl, hc⟩ := hv
 have HC := hid hc
 have HF := hid hf
 have hmm := hm
 clear hc hf hm
 go_enter Tryz.func99, Tryz.ntmps99
 go_wp2
 go_loopw [8] (fun i wr => ∃ k : Nat, k ≤ n ∧ i = .int .i64 (k : Nat) ∧ Fl.anyG g k = false ∧ Old w wr) (fun i _ => n - (intOf i).toNat)
 case atStart => exact ⟨0, Nat.zero_le _, rfl, rfl, Old.refl _⟩
 case round =>
  obtain ⟨k, hk, rfl, h0, hu⟩ := hrel
  by_cases hlt : k < n
  ·obtain ⟨b, off, ha, hW, c0⟩ := HC.out k hlt
   subst ha
   have x0 := hu.keep c0
   have HK := hid (HF.out k hlt)
   have l1 : (0 : Int) ≤ (k : Int) := by omega
   have l2 : (k : Int) < (n : Int) := by omega
   have H0 := hid h0
   clear c0 h0 HF HC
   generalize f k = X at *
   cases hg : g k
   ·rw [hg] at HK
    have HS := hid (Fl.anyG_step g k H0.out hg)
    clear hg
    go_wp2_with (go_at_call 129; refine (HK.out _ hu).mono ?_; rintro o w5 ⟨rfl, u5⟩)
    go_roundw
    case rel => exact ⟨k + 1, hlt, by go_num, HS.out, Old.trans hu u5⟩
    case measure => simp [intOf]; omega
   ·have HT := hid (Fl.anyG_true g n k hlt hg)
    rw [hg] at HK
    clear hg
    go_wp2_with (go_at_call 129; refine (HK.out _ hu).mono ?_; rintro o w5 ⟨rfl, u5⟩)
    go_ret
    exact ⟨_, rfl, by rw [HT.out]; simp, Old.trans hu u5⟩
  ·obtain rfl : k = n := by omega
   have H0 := hid h0
   clear h0
   go_wp2
   go_ret
   exact ⟨_, rfl, by rw [H0.out]; rfl, hu⟩
set_option maxHeartbeats 400000 in
theorem contains_am (v : Value) (n : Nat) (f : Nat → Nat) (g : Nat → Bool) (kb : Nat) (w : World) (hv : FRow w v n f) (hf : ∀ i, i < n → ∀ W, Old w W → Calls Tryz.prog 129 #[.float .f64 (f i), .pointer (some ⟨kb, 0, none⟩)] W fun e w' => e = .returned (.bool (g i)) ∧ Old W w') :
    Calls Tryz.prog 77 #[v, .func (.func 129) #[] #[.pointer (some ⟨kb, 0, none⟩)]] w fun e w' => e = .returned (.bool (Fl.anyG g n)) ∧ Old w w' := by
 have HI := hid (index_am v n f g kb w hv hf)
 clear hv hf
 go_enter Tryz.func77, Tryz.ntmps77
 go_wp2_with (go_at_call 99; refine HI.out.mono ?_; rintro o w5 ⟨r, rfl, hr, u5⟩; have HR := hid hr; clear hr)
 go_ret
 exact ⟨ret_b (by rw [← HR.out]), u5⟩
set_option maxHeartbeats 400000 in
theorem am1_any (x k kb : Nat) (hx : Fl.W x) (hk : Fl.W k) (w : World) (h : w.cell? ⟨kb, 0, none⟩ = some (.float .f64 k)) : Calls Tryz.prog 129 #[.float .f64 x, .pointer (some ⟨kb, 0, none⟩)] w fun e w' => e = .returned (.bool (keyEq x k)) ∧ Old w w' := by
 have HE := hid (ordE x k hx hk)
 go_enter Tryz.func129, Tryz.ntmps129
 go_wp2
 go_ret
 exact ⟨ret_b (by rw [HE.out]; rfl), Old.refl _⟩
set_option maxHeartbeats 1000000 in
theorem among_any (v : Value) (n : Nat) (x : Nat → Nat) (k : Nat) (hk : Fl.W k) (w : World) (hv : FRow w v n x) : Calls Tryz.prog 110 #[v, .float .f64 k] w fun e w' => e = .returned (.bool (Fl.anyG (fun i => keyEq (x i) k) n)) ∧ Old w w' := by
 have hmf : ∀ (fn : Fn) (first cap : Array Value) (w : World), (Instr.makeFunc fn first cap).run Tryz.prog w = .ok (.func fn first cap) w := fun _ _ _ _ => rfl
 have hV := (Old.refl w).alloc (.cells #[.float .f64 k] 37)
 have hc : (w.alloc (.cells #[.float .f64 k] 37)).cell? ⟨w.heap.size, 0, none⟩ = some (.float .f64 k) := by simp
 have HC := hid (contains_am v n x (fun i => keyEq (x i) k) w.heap.size _ (hv.old hV) (fun i hi W u => am1_any (x i) k w.heap.size ((hv.old hV).ws i hi) hk W (u.keep hc)))
 have HV := hid hV
 clear hv hc hV
 go_enter Tryz.func110, Tryz.ntmps110
 go_wp2_with (first | (go_at_call 77; refine HC.out.mono ?_; rintro e w2 ⟨rfl, u2⟩; have U2 := hid (HV.out.trans u2); clear u2))
 go_ret
 exact ⟨rfl, U2.out⟩
def readB (s : Sb) (k : Nat) : Bool := Fl.anyG (fun i => keyEq (s.x1 i) k) s.n1 || Fl.anyG (fun i => Fl.hasS (s.f2 i) k) s.n2
def writeB (s : Sb) (k : Nat) : Bool := Fl.anyG (fun i => keyEq (s.x3 i) k) s.n3
set_option maxHeartbeats 1000000 in
theorem reads_any (s : Sb) (k : Nat) (hk : Fl.W k) (w : World) (hs : s.Ok w) : Calls Tryz.prog 94 #[.agg #[.int .i64 s.s1, .int .i64 s.s2, .int .i64 s.s3, .slice s.a1 s.n1 s.c1, .slice s.a2 s.n2 s.c2, .slice s.a3 s.n3 s.c3], .float .f64 k] w fun e w' => e = .returned (.bool (readB s k)) ∧ Old w w' := by
 have HA := hid (fun (W : World) (u : Old w W) => among_any _ _ _ k hk W (hs.h1.old u))
 have HC := hid (fun (W : World) (u : Old w W) => covers_any _ _ _ k hk W (hs.h2.old u))
 unfold readB
 generalize Fl.anyG (fun i => keyEq (s.x1 i) k) s.n1 = o1 at *
 generalize Fl.anyG (fun i => Fl.hasS (s.f2 i) k) s.n2 = o2 at *
 clear hs
 go_enter Tryz.func94, Tryz.ntmps94
 go_upto_region 1 with fail
 generalize hw1 : w.alloc (.cells #[.int .i64 s.s1, .int .i64 s.s2, .int .i64 s.s3, .slice s.a1 s.n1 s.c1, .slice s.a2 s.n2 s.c2, .slice s.a3 s.n3 s.c3] 25) = w1 at *
 generalize hsb : w.heap.size = sb at *
 have HW := hid (sub_new w s.s1 s.s2 s.s3 _ _ _ w1 hw1 sb hsb)
 clear hw1 hsb
 obtain ⟨⟨t0, t1, t2, t3, t4, t5⟩, _⟩ := HW.out
 cases o1
 ·go_wp2_with (first | (go_at_call 110; refine (HA.out _ HW.out.2).mono ?_; rintro e w2 ⟨rfl, u2⟩; have U2 := hid (HW.out.2.trans u2); obtain ⟨_, _, _, _, t4', _⟩ := SubAt.old u2 HW.out.1; clear u2) | (go_at_call 111; refine (HC.out _ U2.out).mono ?_; rintro e w3 ⟨rfl, u3⟩; have U3 := hid (U2.out.trans u3); clear u3))
  go_ret
  exact ⟨ret_b (by simp), U3.out⟩
 ·go_wp2_with (first | (go_at_call 110; refine (HA.out _ HW.out.2).mono ?_; rintro e w2 ⟨rfl, u2⟩; have U2 := hid (HW.out.2.trans u2); clear u2))
  go_ret
  exact ⟨ret_b (by simp), U2.out⟩
set_option maxHeartbeats 1000000 in
theorem writes_any (s : Sb) (k : Nat) (hk : Fl.W k) (w : World) (hs : s.Ok w) : Calls Tryz.prog 92 #[.agg #[.int .i64 s.s1, .int .i64 s.s2, .int .i64 s.s3, .slice s.a1 s.n1 s.c1, .slice s.a2 s.n2 s.c2, .slice s.a3 s.n3 s.c3], .float .f64 k] w fun e w' => e = .returned (.bool (writeB s k)) ∧ Old w w' := by
 have HA := hid (fun (W : World) (u : Old w W) => among_any _ _ _ k hk W (hs.h3.old u))
 unfold writeB
 generalize Fl.anyG (fun i => keyEq (s.x3 i) k) s.n3 = o1 at *
 clear hs
 go_enter Tryz.func92, Tryz.ntmps92
 go_upto_region 1 with fail
 generalize hw1 : w.alloc (.cells #[.int .i64 s.s1, .int .i64 s.s2, .int .i64 s.s3, .slice s.a1 s.n1 s.c1, .slice s.a2 s.n2 s.c2, .slice s.a3 s.n3 s.c3] 25) = w1 at *
 generalize hsb : w.heap.size = sb at *
 have HW := hid (sub_new w s.s1 s.s2 s.s3 _ _ _ w1 hw1 sb hsb)
 clear hw1 hsb
 obtain ⟨⟨t0, t1, t2, t3, t4, t5⟩, _⟩ := HW.out
 go_wp2_with (first | (go_at_call 110; refine (HA.out _ HW.out.2).mono ?_; rintro e w2 ⟨rfl, u2⟩; have U2 := hid (HW.out.2.trans u2); clear u2))
 go_ret
 exact ⟨rfl, U2.out⟩
set_option maxHeartbeats 1000000 in
theorem index_me (v : Value) (n : Nat) (f : Nat → Nat) (g : Nat → Bool) (kb : Nat) (w : World) (hv : FRow w v n f) (hf : ∀ i, i < n → ∀ W, Old w W → Calls Tryz.prog 93 #[.float .f64 (f i), .pointer (some ⟨kb, 0, none⟩)] W fun e w' => e = .returned (.bool (g i)) ∧ Old W w') :
    Calls Tryz.prog 99 #[v, .func (.func 93) #[] #[.pointer (some ⟨kb, 0, none⟩)]] w fun e w' => ∃ r : Int, e = .returned (.int .i64 r) ∧ decide (0 ≤ r) = Fl.anyG g n ∧ Old w w' := by
 obtain ⟨hm, a, c, rfl, hc⟩ := hv
 have HC := hid hc
 have HF := hid hf
 have hmm := hm
 clear hc hf hm
 go_enter Tryz.func99, Tryz.ntmps99
 go_wp2
 go_loopw [8] (fun i wr => ∃ k : Nat, k ≤ n ∧ i = .int .i64 (k : Nat) ∧ Fl.anyG g k = false ∧ Old w wr) (fun i _ => n - (intOf i).toNat)
 case atStart => exact ⟨0, Nat.zero_le _, rfl, rfl, Old.refl _⟩
 case round =>
  obtain ⟨k, hk, rfl, h0, hu⟩ := hrel
  by_cases hlt : k < n
  ·obtain ⟨b, off, ha, hW, c0⟩ := HC.out k hlt
   subst ha
   have x0 := hu.keep c0
   have HK := hid (HF.out k hlt)
   have l1 : (0 : Int) ≤ (k : Int) := by omega
   have l2 : (k : Int) < (n : Int) := by omega
   have H0 := hid h0
   clear c0 h0 HF HC
   generalize f k = X at *
   cases hg : g k
   ·rw [hg] at HK
    have HS := hid (Fl.anyG_step g k H0.out hg)
    clear hg
    go_wp2_with (go_at_call 93; refine (HK.out _ hu).mono ?_; rintro o w5 ⟨rfl, u5⟩)
    go_roundw
    case rel => exact ⟨k + 1, hlt, by go_num, HS.out, Old.trans hu u5⟩
    case measure => simp [intOf]; omega
   ·have HT := hid (Fl.anyG_true g n k hlt hg)
    rw [hg] at HK
    clear hg
    go_wp2_with (go_at_call 93; refine (HK.out _ hu).mono ?_; rintro o w5 ⟨rfl, u5⟩)
    go_ret
    exact ⟨_, rfl, by rw [HT.out]; simp, Old.trans hu u5⟩
  ·obtain rfl : k = n := by omega
   have H0 := hid h0
   clear h0
   go_wp2
   go_ret
   exact ⟨_, rfl, by rw [H0.out]; rfl, hu⟩
set_option maxHeartbeats 400000 in
theorem contains_me (v : Value) (n : Nat) (f : Nat → Nat) (g : Nat → Bool) (kb : Nat) (w : World) (hv : FRow w v n f) (hf : ∀ i, i < n → ∀ W, Old w W → Calls Tryz.prog 93 #[.float .f64 (f i), .pointer (some ⟨kb, 0, none⟩)] W fun e w' => e = .returned (.bool (g i)) ∧ Old W w') :
    Calls Tryz.prog 77 #[v, .func (.func 93) #[] #[.pointer (some ⟨kb, 0, none⟩)]] w fun e w' => e = .returned (.bool (Fl.anyG g n)) ∧ Old w w' := by
 have HI := hid (index_me v n f g kb w hv hf)
 clear hv hf
 go_enter Tryz.func77, Tryz.ntmps77
 go_wp2_with (go_at_call 99; refine HI.out.mono ?_; rintro o w5 ⟨r, rfl, hr, u5⟩; have HR := hid hr; clear hr)
 go_ret
 exact ⟨ret_b (by rw [← HR.out]), u5⟩
def Sb.val (s : Sb) : Value := .agg #[.int .i64 s.s1, .int .i64 s.s2, .int .i64 s.s3, .slice s.a1 s.n1 s.c1, .slice s.a2 s.n2 s.c2, .slice s.a3 s.n3 s.c3]
def meetB (a b : Sb) : Bool := Fl.anyG (fun i => readB a (b.x3 i)) b.n3
set_option maxHeartbeats 1000000 in
theorem me1_any (a : Sb) (k ab : Nat) (hk : Fl.W k) (w : World) (ha : a.Ok w) (h : SubAt ab a.s1 a.s2 a.s3 (.slice a.a1 a.n1 a.c1) (.slice a.a2 a.n2 a.c2) (.slice a.a3 a.n3 a.c3) w) :
    Calls Tryz.prog 93 #[.float .f64 k, .pointer (some ⟨ab, 0, none⟩)] w fun e w' => e = .returned (.bool (readB a k)) ∧ Old w w' := by
 have HR := hid (reads_any a k hk w ha)
 generalize readB a k = r at *
 obtain ⟨t0, t1, t2, t3, t4, t5⟩ := h
 clear ha
 go_enter Tryz.func93, Tryz.ntmps93
 go_wp2_with (go_at_call 94; refine HR.out.mono ?_; rintro e w2 ⟨rfl, u2⟩; have U2 := hid u2; clear u2)
 go_ret
 exact ⟨rfl, U2.out⟩
set_option maxHeartbeats 1000000 in
theorem meets_any (a b : Sb) (w : World) (ha : a.Ok w) (hb : b.Ok w) :
    Calls Tryz.prog 68 #[.agg #[.int .i64 a.s1, .int .i64 a.s2, .int .i64 a.s3, .slice a.a1 a.n1 a.c1, .slice a.a2 a.n2 a.c2, .slice a.a3 a.n3 a.c3], .agg #[.int .i64 b.s1, .int .i64 b.s2, .int .i64 b.s3, .slice b.a1 b.n1 b.c1, .slice b.a2 b.n2 b.c2, .slice b.a3 b.n3 b.c3]] w fun e w' => e = .returned (.bool (meetB a b)) ∧ Old w w' := by
 have hmf : ∀ (fn : Fn) (first cap : Array Value) (w : World), (Instr.makeFunc fn first cap).run Tryz.prog w = .ok (.func fn first cap) w := fun _ _ _ _ => rfl
 have HC := hid (fun (W : World) (ab : Nat) (u : Old w W) (h : SubAt ab a.s1 a.s2 a.s3 (.slice a.a1 a.n1 a.c1) (.slice a.a2 a.n2 a.c2) (.slice a.a3 a.n3 a.c3) W) => contains_me _ b.n3 b.x3 (fun i => readB a (b.x3 i)) ab W (hb.h3.old u) (fun i hi V k => me1_any a (b.x3 i) ab (hb.h3.ws i hi) V ((ha.old u).old k) (SubAt.old k h)))
 unfold meetB
 generalize Fl.anyG (fun i => readB a (b.x3 i)) b.n3 = r at *
 clear ha hb
 go_enter Tryz.func68, Tryz.ntmps68
 go_upto_region 1 with fail
 generalize hw1 : (w.alloc (.cells #[.int .i64 a.s1, .int .i64 a.s2, .int .i64 a.s3, .slice a.a1 a.n1 a.c1, .slice a.a2 a.n2 a.c2, .slice a.a3 a.n3 a.c3] 25)).alloc (.cells #[.int .i64 b.s1, .int .i64 b.s2, .int .i64 b.s3, .slice b.a1 b.n1 b.c1, .slice b.a2 b.n2 b.c2, .slice b.a3 b.n3 b.c3] 25) = w1 at *
 have HW := hid (two_new w a b w1 hw1 _ rfl)
 generalize w.heap.size = m at *
 clear hw1
 have HC1 := hid (HC.out w1 m HW.out.2.2 HW.out.1)
 obtain ⟨u0, u1, u2, u3, u4, u5⟩ := HW.out.2.1
 clear HC
 go_wp2_with (go_at_call 77; refine HC1.out.mono ?_; rintro e w2 ⟨rfl, v2⟩; have V2 := hid (HW.out.2.2.trans v2); clear v2)
 go_ret
 exact ⟨rfl, V2.out⟩
end Go.Proofs.YtfpadkgienjjpaaGreat
namespace Go.Proofs.YtfpadkgienjjpaaGreat
abbrev oWt0 : Oper := { dst := some 70, op := .fieldAddr 25 (.tmp 1) 3, type := 0, pos := "ref.go:48", after := #[], guard := none }
abbrev oWt1 : Oper := { dst := some 71, op := .load 22 (.tmp 70), type := 22, pos := "ref.go:48", after := #[⟨0, .data⟩], guard := none }
abbrev oWt2 : Oper := { dst := some 72, op := .fieldAddr 25 (.tmp 1) 3, type := 0, pos := "ref.go:48", after := #[], guard := none }
abbrev oWt3 : Oper := { dst := some 73, op := .load 22 (.tmp 72), type := 22, pos := "ref.go:48", after := #[⟨2, .data⟩], guard := none }
abbrev oWt4 : Oper := { dst := some 74, op := .call { callee := Callee.value (.func 29), args := #[.tmp 73], argTypes := #[22] }, type := 22, pos := "ref.go:48", after := #[⟨3, .data⟩], guard := none }
abbrev oWt5 : Oper := { dst := some 75, op := .call { callee := Callee.value (.func 28), args := #[.tmp 71, .tmp 74], argTypes := #[22, 22] }, type := 4, pos := "ref.go:48", after := #[⟨1, .data⟩, ⟨4, .data⟩, ⟨4, .chain⟩], guard := none }
abbrev oWt6 : Oper := { dst := some 76, op := .unOp UnOp.not 4 (.tmp 75), type := 4, pos := "ref.go:48", after := #[⟨5, .data⟩], guard := none }
abbrev oWt7 : Oper := { dst := some 77, op := .move (.tmp 76), type := 4, pos := "ref.go:48", after := #[⟨6, .data⟩, ⟨5, .chain⟩], guard := none }
abbrev oWt8 : Oper := { dst := some 78, op := .fieldAddr 25 (.tmp 1) 5, type := 0, pos := "ref.go:48", after := #[⟨7, .guard⟩], guard := some (7, false) }
abbrev oWt9 : Oper := { dst := some 79, op := .load 22 (.tmp 78), type := 22, pos := "ref.go:48", after := #[⟨8, .data⟩, ⟨7, .guard⟩], guard := some (7, false) }
abbrev oWt10 : Oper := { dst := some 80, op := .fieldAddr 25 (.tmp 1) 5, type := 0, pos := "ref.go:48", after := #[⟨7, .guard⟩], guard := some (7, false) }
abbrev oWt11 : Oper := { dst := some 81, op := .load 22 (.tmp 80), type := 22, pos := "ref.go:48", after := #[⟨10, .data⟩, ⟨7, .guard⟩], guard := some (7, false) }
abbrev oWt12 : Oper := { dst := some 82, op := .call { callee := Callee.value (.func 29), args := #[.tmp 81], argTypes := #[22] }, type := 22, pos := "ref.go:48", after := #[⟨11, .data⟩, ⟨7, .chain⟩, ⟨7, .guard⟩], guard := some (7, false) }
abbrev oWt13 : Oper := { dst := some 83, op := .call { callee := Callee.value (.func 28), args := #[.tmp 79, .tmp 82], argTypes := #[22, 22] }, type := 4, pos := "ref.go:48", after := #[⟨9, .data⟩, ⟨12, .data⟩, ⟨12, .chain⟩, ⟨7, .guard⟩], guard := some (7, false) }
abbrev oWt14 : Oper := { dst := some 84, op := .unOp UnOp.not 4 (.tmp 83), type := 4, pos := "ref.go:48", after := #[⟨13, .data⟩, ⟨7, .guard⟩], guard := some (7, false) }
abbrev oWt15 : Oper := { dst := some 85, op := .pick (.tmp 77) (.const (.bool true)) (.tmp 84), type := 4, pos := "ref.go:48", after := #[⟨7, .data⟩, ⟨14, .data⟩], guard := none }
abbrev oWt16 : Oper := { dst := some 86, op := .move (.tmp 85), type := 4, pos := "ref.go:48", after := #[⟨15, .data⟩, ⟨13, .chain⟩], guard := none }
abbrev oWt17 : Oper := { dst := some 87, op := .fieldAddr 25 (.tmp 1) 4, type := 0, pos := "ref.go:48", after := #[⟨16, .guard⟩], guard := some (16, false) }
abbrev oWt18 : Oper := { dst := some 88, op := .load 23 (.tmp 87), type := 23, pos := "ref.go:48", after := #[⟨17, .data⟩, ⟨16, .guard⟩], guard := some (16, false) }
abbrev oWt19 : Oper := { dst := some 89, op := .fieldAddr 25 (.tmp 1) 4, type := 0, pos := "ref.go:48", after := #[⟨16, .guard⟩], guard := some (16, false) }
abbrev oWt20 : Oper := { dst := some 90, op := .load 23 (.tmp 89), type := 23, pos := "ref.go:48", after := #[⟨19, .data⟩, ⟨16, .guard⟩], guard := some (16, false) }
abbrev oWt21 : Oper := { dst := some 91, op := .call { callee := Callee.value (.func 32), args := #[.tmp 90], argTypes := #[23] }, type := 74, pos := "ref.go:48", after := #[⟨20, .data⟩, ⟨16, .chain⟩, ⟨16, .guard⟩], guard := some (16, false) }
abbrev oWt22 : Oper := { dst := some 92, op := .call { callee := Callee.value (.func 31), args := #[.tmp 91], argTypes := #[74] }, type := 23, pos := "ref.go:48", after := #[⟨21, .data⟩, ⟨21, .chain⟩, ⟨16, .guard⟩], guard := some (16, false) }
abbrev oWt23 : Oper := { dst := some 93, op := .call { callee := Callee.value (.func 30), args := #[.tmp 88, .tmp 92], argTypes := #[23, 23] }, type := 4, pos := "ref.go:48", after := #[⟨18, .data⟩, ⟨22, .data⟩, ⟨22, .chain⟩, ⟨16, .guard⟩], guard := some (16, false) }
abbrev oWt24 : Oper := { dst := some 94, op := .unOp UnOp.not 4 (.tmp 93), type := 4, pos := "ref.go:48", after := #[⟨23, .data⟩, ⟨16, .guard⟩], guard := some (16, false) }
abbrev oWt25 : Oper := { dst := some 95, op := .pick (.tmp 86) (.const (.bool true)) (.tmp 94), type := 4, pos := "ref.go:48", after := #[⟨16, .data⟩, ⟨24, .data⟩], guard := none }
open Go.RowKit Go.Lib
set_option linter.unusedVariables false
set_option linter.unusedSimpArgs false
set_option maxRecDepth 20000
theorem ent_rsort (args : Array Value) (w : World) : (callFunc 29 args).run Tryz.prog w = .ok (.enter 29 args) w := by kernel_rfl
theorem ent_rsk (args : Array Value) (w : World) : (callFunc 28 args).run Tryz.prog w = .ok (.enter 28 args) w := by kernel_rfl
theorem ent_rnorm (args : Array Value) (w : World) : (callFunc 32 args).run Tryz.prog w = .ok (.enter 32 args) w := by kernel_rfl
theorem ent_rspans (args : Array Value) (w : World) : (callFunc 31 args).run Tryz.prog w = .ok (.enter 31 args) w := by kernel_rfl
theorem ent_rsame (args : Array Value) (w : World) : (callFunc 30 args).run Tryz.prog w = .ok (.enter 30 args) w := by kernel_rfl
theorem empty_cs (a b : Nat) (ha : Fl.W a) (hb : Fl.W b) (p q : Bool) : decide (Fl.rH a b p q < Fl.rL a b p q) = Fl.csE a b p q := by
 have hf := Fl.cs_isForm a b p q ha hb
 unfold Fl.rH Fl.rL
 cases he : Fl.csE a b p q
 ·rw [he] at hf
  have := (hf.2.2.2 rfl).2.2.2.2
  simp; omega
 ·simp
attribute [local go_sem] run_bits run_frombits run_store_float eqF
set_option maxHeartbeats 8000000 in
theorem refCheck_rest (s1 s2 s3 : Int) (a1 a2 a3 : Option Addr) (n1 n2 n3 c1 c2 c3 : Nat) (x1 x3 : Nat → Nat) (f2 : Nat → Sp) (w : World) (hm : misB s1 s2 s3 = false) (hc : crowdB n1 n2 n3 = false)
    (h1 : FRow w (.slice a1 n1 c1) n1 x1) (h2 : SRow w (.slice a2 n2 c2) n2 f2) (h3 : FRow w (.slice a3 n3 c3) n3 x3) :
    Calls Tryz.prog 10 #[.agg #[.int .i64 s1, .int .i64 s2, .int .i64 s3, .slice a1 n1 c1, .slice a2 n2 c2, .slice a3 n3 c3]] w fun e w' => e = .returned (.int .i64 (chkO false false (Fl.anyG (fun i => Fl.nan (x1 i)) n1 || Fl.anyG (fun i => Fl.nan (x3 i)) n3) (Fl.anyG (fun i => Fl.csE (f2 i).a (f2 i).b (f2 i).p (f2 i).q) n2) (ordF x1 n1 && ordS f2 n2 && ordF x3 n3))) ∧ Old w w' := by
 have h4 : ¬ s1 < 1 ∧ ¬ 1099511627776 < s1 ∧ ¬ s2 < 1 ∧ ¬ 1099511627776 < s2 ∧ ¬ s3 < 0 ∧ ¬ 1099511627776 < s3 := by
  unfold misB outB at hm; simp at hm; omega
 obtain ⟨t1, t2, t3, t4, t5, t6⟩ := h4
 have h5 : ¬ 16 < n1 ∧ ¬ 8 < n2 ∧ ¬ 16 < n3 := by unfold crowdB at hc; simp at hc; omega
 have b1 : n1 ≤ 16 := by omega
 have b2 : n2 ≤ 8 := by omega
 have b3 : n3 ≤ 16 := by omega
 have v1 : ¬ (16 : Int) < (n1 : Int) := by omega
 have v2 : ¬ (8 : Int) < (n2 : Int) := by omega
 have v3 : ¬ (16 : Int) < (n3 : Int) := by omega
 have hk2 := Fl.dfold_ok _ (Fl.cdl f2 n2) rfl (Fl.cdl_RV f2 n2 h2.ws)
 have hl2 : (Fl.dfold (Fl.cdl f2 n2)).length ≤ n2 := by have := hk2.2.2; have := Fl.cdl_len f2 n2; omega
 have hl1 := Fl.sortL_len x1 n1
 have hl3 := Fl.sortL_len x3 n3
 have HT1 := hid (fun (B : Nat) (W : World) v (h : FOwn B W v (Fl.sortL x1 n1)) => h.row (sortL_W x1 n1 h1.ws) (by omega))
 have HT3 := hid (fun (B : Nat) (W : World) v (h : FOwn B W v (Fl.sortL x3 n3)) => h.row (sortL_W x3 n3 h3.ws) (by omega))
 have HT2 := hid (show ∀ (B : Nat) (W : World) v, OwnS B W v ((Fl.dfold (Fl.cdl f2 n2)).map Fl.spo) → SRow W v (Fl.dfold (Fl.cdl f2 n2)).length (atS ((Fl.dfold (Fl.cdl f2 n2)).map Fl.spo)) from fun B W v h => by
  have q := h.row (fun s hs => by obtain ⟨r, hr, rfl⟩ := List.mem_map.1 hs; exact Fl.spo_W (hk2.1.2 r hr)) (by rw [List.length_map]; omega)
  rw [List.length_map] at q
  exact q)
 have HX2 := hid (fun v B W (h : OwnG B W v (Fl.dfold (Fl.cdl f2 n2))) => spans_any v B _ W h hk2.1.2 (by omega))
 have K1 := hid (fun W (hW : Old w W) => refNans_any _ _ _ W (h1.old hW))
 have K3 := hid (fun W (hW : Old w W) => refNans_any _ _ _ W (h3.old hW))
 have HSo1 := hid (fun (W : World) (u : Old w W) => sortR_any (.slice a1 n1 c1) n1 x1 (by omega) W (h1.old u))
 have HSo3 := hid (fun (W : World) (u : Old w W) => sortR_any (.slice a3 n3 c3) n3 x3 (by omega) W (h3.old u))
 have HNm := hid (fun (W : World) (u : Old w W) => refNorm_any (.slice a2 n2 c2) n2 f2 (by omega) W (h2.old u))
 have R1 := hid h1
 have R2 := hid h2
 have R3 := hid h3
 have HO1 := hid (show ordF x1 n1 = (decide (n1 = (Fl.sortL x1 n1).length) && Fl.sameU x1 (atN (Fl.sortL x1 n1)) n1) from rfl)
 have HO3 := hid (show ordF x3 n3 = (decide (n3 = (Fl.sortL x3 n3).length) && Fl.sameU x3 (atN (Fl.sortL x3 n3)) n3) from rfl)
 have HO2 := hid (show ordS f2 n2 = (decide (n2 = (Fl.dfold (Fl.cdl f2 n2)).length) && Fl.spU f2 (atS ((Fl.dfold (Fl.cdl f2 n2)).map Fl.spo)) n2) from rfl)
 have HZt := hid (fun i (hi : i < n2) (e : Fl.csE (f2 i).a (f2 i).b (f2 i).p (f2 i).q = true) => Fl.anyG_true (fun i => Fl.csE (f2 i).a (f2 i).b (f2 i).p (f2 i).q) n2 i hi e)
 have HZs := hid (Fl.anyG_step (fun i => Fl.csE (f2 i).a (f2 i).b (f2 i).p (f2 i).q))
 have HZd := hid (show Fl.anyG (fun i => Fl.csE (f2 i).a (f2 i).b (f2 i).p (f2 i).q) 0 = false from rfl)
 generalize hzg : Fl.anyG (fun i => Fl.csE (f2 i).a (f2 i).b (f2 i).p (f2 i).q) = zg at *
 clear hzg
 generalize hk1 : Fl.anyG (fun i => Fl.nan (x1 i)) n1 = k1 at *
 generalize hk3 : Fl.anyG (fun i => Fl.nan (x3 i)) n3 = k3 at *
 clear hk1 hk3 hm hc h5 h1 h2 h3 hk2 hl1 hl2 hl3 b1 b2 b3
 generalize ordF x1 n1 = o1 at *
 generalize ordF x3 n3 = o3 at *
 generalize ordS f2 n2 = o2 at *
 generalize Fl.sortL x1 n1 = L1 at *
 generalize Fl.sortL x3 n3 = L3 at *
 generalize Fl.dfold (Fl.cdl f2 n2) = D at *
 go_enter Tryz.func10, Tryz.ntmps10
 go_upto_region 1 with fail
 generalize hw1 : w.alloc (.cells #[.int .i64 s1, .int .i64 s2, .int .i64 s3, .slice a1 n1 c1, .slice a2 n2 c2, .slice a3 n3 c3] 25) = w1 at *
 generalize hsb : w.heap.size = sb at *
 obtain ⟨hS, hV⟩ := sub_new w s1 s2 s3 _ _ _ w1 hw1 sb hsb
 have HV := hid hV
 have HS := hid hS
 obtain ⟨f0, f1, f2', f3, f4, f5⟩ := hS
 clear hw1 hV hsb
 cases k1
 ·cases k3
  ·go_upto_region 7 with (first | (go_at_call_of 25 (Value.slice a1 n1 c1); refine (K1.out _ HV.out).mono ?_; rintro o w5 ⟨rfl, u5⟩; have U5 := hid (HV.out.trans u5); have B5 := hid (SubAt.old u5 HS.out); obtain ⟨_, _, _, g3, g4, g5⟩ := B5.out; clear u5) | (go_at_call_of 25 (Value.slice a3 n3 c3); refine (K3.out _ U5.out).mono ?_; rintro o w6 ⟨rfl, u6⟩; have U6 := hid (U5.out.trans u6); have B6 := hid (SubAt.old u6 B5.out); clear u6))
   clear f0 f1 f2' f3 f4 f5 g3 g4 g5 B5 U5 HS HV K1 K3 t1 t2 t3 t4 t5 t6 v1 v2 v3
   go_wp2
   go_loopw [3] (fun i wr => ∃ j : Nat, j ≤ n2 ∧ i = .int .i64 (j : Nat) ∧ zg j = false ∧ Old w6 wr) (fun i _ => n2 - (intOf i).toNat)
   case atStart => exact ⟨0, Nat.zero_le _, rfl, HZd.out, Old.refl _⟩
   case round =>
    obtain ⟨j, hj, rfl, hz, hu⟩ := hrel
    have HU := hid (U6.out.trans hu)
    have HU6 := hid hu
    have HZ := hid hz
    have BR := hid (SubAt.old hu B6.out)
    clear hz hu
    obtain ⟨g0, g1, g2, g3, g4, g5⟩ := BR.out
    by_cases hlt : j < n2
    ·obtain ⟨_, a, c, hv, hcx⟩ := R2.out.old HU.out
     simp only [Value.slice.injEq] at hv
     obtain ⟨rfl, _, rfl⟩ := hv
     obtain ⟨b, off, ha, hWa, hWb, x0, x1', x2, x3'⟩ := hcx j hlt
     subst ha
     have HO := hid (fun W => rOf_any (f2 j).a (f2 j).b hWa hWb (f2 j).p (f2 j).q W)
     have HE0 := fun W => rEmpty_any (Fl.rL (f2 j).a (f2 j).b (f2 j).p (f2 j).q) (Fl.rH (f2 j).a (f2 j).b (f2 j).p (f2 j).q) W
     rw [empty_cs _ _ hWa hWb] at HE0
     have HE := hid HE0
     have l1 : (0 : Int) ≤ (j : Int) := by omega
     have l2 : (j : Int) < (n2 : Int) := by omega
     have HZt2 := hid (HZt.out j hlt)
     have HZs2 := hid (HZs.out j HZ.out)
     clear HE0 hcx hWa hWb
     generalize Fl.csE (f2 j).a (f2 j).b (f2 j).p (f2 j).q = ce at *
     generalize Fl.rL (f2 j).a (f2 j).b (f2 j).p (f2 j).q = RL at *
     generalize Fl.rH (f2 j).a (f2 j).b (f2 j).p (f2 j).q = RH at *
     generalize (f2 j).a = sa at *
     generalize (f2 j).b = sb' at *
     generalize (f2 j).p = sp at *
     generalize (f2 j).q = sq at *
     cases ce
     ·have HZ2 := hid (HZs2.out rfl)
      clear HZs2 HZt2
      go_wp2_with (first | (go_at_call 27; refine (HO.out _).mono ?_; rintro o w7 ⟨rfl, u7⟩; have U7 := hid u7.old; clear u7) | (go_at_call 26; refine (HE.out _).mono ?_; rintro o w8 ⟨rfl, u8⟩; have U8 := hid (U7.out.trans u8.old); clear u8))
      go_roundw
      case rel => exact ⟨j + 1, hlt, by go_num, HZ2.out, HU6.out.trans U8.out⟩
      case measure => simp [intOf]; omega
     ·have HZ2 := hid (HZt2.out rfl)
      clear HZs2 HZt2
      go_wp2_with (first | (go_at_call 27; refine (HO.out _).mono ?_; rintro o w7 ⟨rfl, u7⟩; have U7 := hid u7.old; clear u7) | (go_at_call 26; refine (HE.out _).mono ?_; rintro o w8 ⟨rfl, u8⟩; have U8 := hid (U7.out.trans u8.old); clear u8))
      go_ret
      exact ⟨by rw [HZ2.out]; rfl, HU.out.trans U8.out⟩
    ·obtain rfl : j = n2 := by omega
     go_upto_region 12 with fail
     clear g0 g1 g2 g3 g4 g5 HZt HZs HZd
     cases o1
     ·refine wp_region_noPanic ?_
      refine wp_region_held_drew (S := SubAt sb s1 s2 s3 (.slice a1 n1 c1) (.slice a2 j c2) (.slice a3 n3 c3)) (by kernel_rfl) ?_ (fun hHeld => ?_)
      ·exact SubAt.old ((Old.refl wr).drew) BR.out
      try simp only [Act.put, puA, puB, puC]
      clear hHeld
      refine tkA (i := 0) (oi := oWt0) (SubAt.old ((Old.refl wr).drew) BR.out) ?_
      try simp only [Act.put, puA, puB, puC]
      refine tkA (i := 1) (oi := oWt1) (SubAt.old ((Old.refl wr).drew) BR.out) ?_
      try simp only [Act.put, puA, puB, puC]
      refine tkA (i := 2) (oi := oWt2) (SubAt.old ((Old.refl wr).drew) BR.out) ?_
      try simp only [Act.put, puA, puB, puC]
      refine tkA (i := 3) (oi := oWt3) (SubAt.old ((Old.refl wr).drew) BR.out) ?_
      try simp only [Act.put, puA, puB, puC]
      refine rdB 4 oWt4 fun K hK => ?_
      refine wantCall1 ?_ 29 (.tmp 73) #[22] ?_ (.slice a1 n1 c1) ?_ ?_ (ent_rsort _ _) ?_
      iterate 4 rfl
      refine (HSo1.out _ (HU.out.trans ((Old.refl wr).drew))).mono ?_
      rintro o x5 ⟨va, rfl, ra, ua⟩
      have U5 := ((Old.refl wr).drew).trans ua
      have HKa := hid (fun (W : World) (u : Old x5 W) => sameKeysG _ _ n1 L1.length x1 (atN L1) W (R1.out.old ((HU.out.trans U5).trans u)) ((HT1.out _ _ _ ra).old u))
      rw [← HO1.out] at HKa
      refine ⟨_, rfl, ?_⟩
      refine hK.out _ _ (SubAt.old U5 BR.out) (fun _ => ?_)
      clear hK K
      try simp only [Act.put, puA, puB, puC]
      refine rdB 5 oWt5 fun K hK => ?_
      refine wantCall2 ?_ 28 (.tmp 71) (.tmp 74) #[22, 22] ?_ (.slice a1 n1 c1) (va) ?_ ?_ ?_ (ent_rsk _ _) ?_
      iterate 5 rfl
      refine (HKa.out _ (Old.refl _)).mono ?_
      rintro o x6 ⟨rfl, b6⟩
      have U6 := U5.trans b6
      refine ⟨_, rfl, ?_⟩
      refine hK.out _ _ (SubAt.old U6 BR.out) (fun _ => ?_)
      clear hK K
      try simp only [Act.put, puA, puB, puC]
      refine tkA (i := 6) (oi := oWt6) (SubAt.old U6 BR.out) ?_
      try simp only [Act.put, puA, puB, puC]
      refine tkA (i := 7) (oi := oWt7) (SubAt.old U6 BR.out) ?_
      try simp only [Act.put, puA, puB, puC]
      refine wpAnyH_take (i := 8) (oi := oWt8) (v := undef) rfl (by kernel_rfl) (by kernel_rfl) (by kernel_rfl) (fun _ _ _ h => h) (Or.inr ⟨by rfl, rfl⟩) (SubAt.old U6 BR.out) ?_
      try simp only [Act.put, puA, puB, puC]
      refine wpAnyH_take (i := 9) (oi := oWt9) (v := undef) rfl (by kernel_rfl) (by kernel_rfl) (by kernel_rfl) (fun _ _ _ h => h) (Or.inr ⟨by rfl, rfl⟩) (SubAt.old U6 BR.out) ?_
      try simp only [Act.put, puA, puB, puC]
      refine wpAnyH_take (i := 10) (oi := oWt10) (v := undef) rfl (by kernel_rfl) (by kernel_rfl) (by kernel_rfl) (fun _ _ _ h => h) (Or.inr ⟨by rfl, rfl⟩) (SubAt.old U6 BR.out) ?_
      try simp only [Act.put, puA, puB, puC]
      refine wpAnyH_take (i := 11) (oi := oWt11) (v := undef) rfl (by kernel_rfl) (by kernel_rfl) (by kernel_rfl) (fun _ _ _ h => h) (Or.inr ⟨by rfl, rfl⟩) (SubAt.old U6 BR.out) ?_
      try simp only [Act.put, puA, puB, puC]
      refine wpAnyH_take (i := 12) (oi := oWt12) (v := undef) rfl (by kernel_rfl) (by kernel_rfl) (by kernel_rfl) (fun _ _ _ h => h) (Or.inr ⟨by rfl, rfl⟩) (SubAt.old U6 BR.out) ?_
      try simp only [Act.put, puA, puB, puC]
      refine wpAnyH_take (i := 13) (oi := oWt13) (v := undef) rfl (by kernel_rfl) (by kernel_rfl) (by kernel_rfl) (fun _ _ _ h => h) (Or.inr ⟨by rfl, rfl⟩) (SubAt.old U6 BR.out) ?_
      try simp only [Act.put, puA, puB, puC]
      refine wpAnyH_take (i := 14) (oi := oWt14) (v := undef) rfl (by kernel_rfl) (by kernel_rfl) (by kernel_rfl) (fun _ _ _ h => h) (Or.inr ⟨by rfl, rfl⟩) (SubAt.old U6 BR.out) ?_
      try simp only [Act.put, puA, puB, puC]
      refine tkA (i := 15) (oi := oWt15) (SubAt.old U6 BR.out) ?_
      try simp only [Act.put, puA, puB, puC]
      refine tkA (i := 16) (oi := oWt16) (SubAt.old U6 BR.out) ?_
      try simp only [Act.put, puA, puB, puC]
      refine wpAnyH_take (i := 17) (oi := oWt17) (v := undef) rfl (by kernel_rfl) (by kernel_rfl) (by kernel_rfl) (fun _ _ _ h => h) (Or.inr ⟨by rfl, rfl⟩) (SubAt.old U6 BR.out) ?_
      try simp only [Act.put, puA, puB, puC]
      refine wpAnyH_take (i := 18) (oi := oWt18) (v := undef) rfl (by kernel_rfl) (by kernel_rfl) (by kernel_rfl) (fun _ _ _ h => h) (Or.inr ⟨by rfl, rfl⟩) (SubAt.old U6 BR.out) ?_
      try simp only [Act.put, puA, puB, puC]
      refine wpAnyH_take (i := 19) (oi := oWt19) (v := undef) rfl (by kernel_rfl) (by kernel_rfl) (by kernel_rfl) (fun _ _ _ h => h) (Or.inr ⟨by rfl, rfl⟩) (SubAt.old U6 BR.out) ?_
      try simp only [Act.put, puA, puB, puC]
      refine wpAnyH_take (i := 20) (oi := oWt20) (v := undef) rfl (by kernel_rfl) (by kernel_rfl) (by kernel_rfl) (fun _ _ _ h => h) (Or.inr ⟨by rfl, rfl⟩) (SubAt.old U6 BR.out) ?_
      try simp only [Act.put, puA, puB, puC]
      refine wpAnyH_take (i := 21) (oi := oWt21) (v := undef) rfl (by kernel_rfl) (by kernel_rfl) (by kernel_rfl) (fun _ _ _ h => h) (Or.inr ⟨by rfl, rfl⟩) (SubAt.old U6 BR.out) ?_
      try simp only [Act.put, puA, puB, puC]
      refine wpAnyH_take (i := 22) (oi := oWt22) (v := undef) rfl (by kernel_rfl) (by kernel_rfl) (by kernel_rfl) (fun _ _ _ h => h) (Or.inr ⟨by rfl, rfl⟩) (SubAt.old U6 BR.out) ?_
      try simp only [Act.put, puA, puB, puC]
      refine wpAnyH_take (i := 23) (oi := oWt23) (v := undef) rfl (by kernel_rfl) (by kernel_rfl) (by kernel_rfl) (fun _ _ _ h => h) (Or.inr ⟨by rfl, rfl⟩) (SubAt.old U6 BR.out) ?_
      try simp only [Act.put, puA, puB, puC]
      refine wpAnyH_take (i := 24) (oi := oWt24) (v := undef) rfl (by kernel_rfl) (by kernel_rfl) (by kernel_rfl) (fun _ _ _ h => h) (Or.inr ⟨by rfl, rfl⟩) (SubAt.old U6 BR.out) ?_
      try simp only [Act.put, puA, puB, puC]
      refine tkA (i := 25) (oi := oWt25) (SubAt.old U6 BR.out) ?_
      try simp only [Act.put, puA, puB, puC]
      refine wpAnyH_done (by kernel_rfl) ?_ _
      refine NoPanic.normal ?_
      have U9 := hid U6
      go_wp2
      go_ret
      exact ⟨by rw [HZ.out]; first | rfl | (rw [Bool.and_false]; rfl), HU.out.trans U9.out⟩
     ·cases o3
      ·refine wp_region_noPanic ?_
       refine wp_region_held_drew (S := SubAt sb s1 s2 s3 (.slice a1 n1 c1) (.slice a2 j c2) (.slice a3 n3 c3)) (by kernel_rfl) ?_ (fun hHeld => ?_)
       ·exact SubAt.old ((Old.refl wr).drew) BR.out
       try simp only [Act.put, puA, puB, puC]
       clear hHeld
       refine tkA (i := 0) (oi := oWt0) (SubAt.old ((Old.refl wr).drew) BR.out) ?_
       try simp only [Act.put, puA, puB, puC]
       refine tkA (i := 1) (oi := oWt1) (SubAt.old ((Old.refl wr).drew) BR.out) ?_
       try simp only [Act.put, puA, puB, puC]
       refine tkA (i := 2) (oi := oWt2) (SubAt.old ((Old.refl wr).drew) BR.out) ?_
       try simp only [Act.put, puA, puB, puC]
       refine tkA (i := 3) (oi := oWt3) (SubAt.old ((Old.refl wr).drew) BR.out) ?_
       try simp only [Act.put, puA, puB, puC]
       refine rdB 4 oWt4 fun K hK => ?_
       refine wantCall1 ?_ 29 (.tmp 73) #[22] ?_ (.slice a1 n1 c1) ?_ ?_ (ent_rsort _ _) ?_
       iterate 4 rfl
       refine (HSo1.out _ (HU.out.trans ((Old.refl wr).drew))).mono ?_
       rintro o x16 ⟨va, rfl, ra, ua⟩
       have U16 := ((Old.refl wr).drew).trans ua
       have HKa := hid (fun (W : World) (u : Old x16 W) => sameKeysG _ _ n1 L1.length x1 (atN L1) W (R1.out.old ((HU.out.trans U16).trans u)) ((HT1.out _ _ _ ra).old u))
       rw [← HO1.out] at HKa
       refine ⟨_, rfl, ?_⟩
       refine hK.out _ _ (SubAt.old U16 BR.out) (fun _ => ?_)
       clear hK K
       try simp only [Act.put, puA, puB, puC]
       refine rdB 5 oWt5 fun K hK => ?_
       refine wantCall2 ?_ 28 (.tmp 71) (.tmp 74) #[22, 22] ?_ (.slice a1 n1 c1) (va) ?_ ?_ ?_ (ent_rsk _ _) ?_
       iterate 5 rfl
       refine (HKa.out _ (Old.refl _)).mono ?_
       rintro o x17 ⟨rfl, b17⟩
       have U17 := U16.trans b17
       refine ⟨_, rfl, ?_⟩
       refine hK.out _ _ (SubAt.old U17 BR.out) (fun _ => ?_)
       clear hK K
       try simp only [Act.put, puA, puB, puC]
       refine tkA (i := 6) (oi := oWt6) (SubAt.old U17 BR.out) ?_
       try simp only [Act.put, puA, puB, puC]
       refine tkA (i := 7) (oi := oWt7) (SubAt.old U17 BR.out) ?_
       try simp only [Act.put, puA, puB, puC]
       refine tkA (i := 8) (oi := oWt8) (SubAt.old U17 BR.out) ?_
       try simp only [Act.put, puA, puB, puC]
       refine tkA (i := 9) (oi := oWt9) (SubAt.old U17 BR.out) ?_
       try simp only [Act.put, puA, puB, puC]
       refine tkA (i := 10) (oi := oWt10) (SubAt.old U17 BR.out) ?_
       try simp only [Act.put, puA, puB, puC]
       refine tkA (i := 11) (oi := oWt11) (SubAt.old U17 BR.out) ?_
       try simp only [Act.put, puA, puB, puC]
       refine rdB 12 oWt12 fun K hK => ?_
       refine wantCall1 ?_ 29 (.tmp 81) #[22] ?_ (.slice a3 n3 c3) ?_ ?_ (ent_rsort _ _) ?_
       iterate 4 rfl
       refine (HSo3.out _ (HU.out.trans U17)).mono ?_
       rintro o x24 ⟨vd, rfl, rd, ud⟩
       have U24 := U17.trans ud
       have HKd := hid (fun (W : World) (u : Old x24 W) => sameKeysG _ _ n3 L3.length x3 (atN L3) W (R3.out.old ((HU.out.trans U24).trans u)) ((HT3.out _ _ _ rd).old u))
       rw [← HO3.out] at HKd
       refine ⟨_, rfl, ?_⟩
       refine hK.out _ _ (SubAt.old U24 BR.out) (fun _ => ?_)
       clear hK K
       try simp only [Act.put, puA, puB, puC]
       refine rdB 13 oWt13 fun K hK => ?_
       refine wantCall2 ?_ 28 (.tmp 79) (.tmp 82) #[22, 22] ?_ (.slice a3 n3 c3) (vd) ?_ ?_ ?_ (ent_rsk _ _) ?_
       iterate 5 rfl
       refine (HKd.out _ (Old.refl _)).mono ?_
       rintro o x25 ⟨rfl, b25⟩
       have U25 := U24.trans b25
       refine ⟨_, rfl, ?_⟩
       refine hK.out _ _ (SubAt.old U25 BR.out) (fun _ => ?_)
       clear hK K
       try simp only [Act.put, puA, puB, puC]
       refine tkA (i := 14) (oi := oWt14) (SubAt.old U25 BR.out) ?_
       try simp only [Act.put, puA, puB, puC]
       refine tkA (i := 15) (oi := oWt15) (SubAt.old U25 BR.out) ?_
       try simp only [Act.put, puA, puB, puC]
       refine tkA (i := 16) (oi := oWt16) (SubAt.old U25 BR.out) ?_
       try simp only [Act.put, puA, puB, puC]
       refine wpAnyH_take (i := 17) (oi := oWt17) (v := undef) rfl (by kernel_rfl) (by kernel_rfl) (by kernel_rfl) (fun _ _ _ h => h) (Or.inr ⟨by rfl, rfl⟩) (SubAt.old U25 BR.out) ?_
       try simp only [Act.put, puA, puB, puC]
       refine wpAnyH_take (i := 18) (oi := oWt18) (v := undef) rfl (by kernel_rfl) (by kernel_rfl) (by kernel_rfl) (fun _ _ _ h => h) (Or.inr ⟨by rfl, rfl⟩) (SubAt.old U25 BR.out) ?_
       try simp only [Act.put, puA, puB, puC]
       refine wpAnyH_take (i := 19) (oi := oWt19) (v := undef) rfl (by kernel_rfl) (by kernel_rfl) (by kernel_rfl) (fun _ _ _ h => h) (Or.inr ⟨by rfl, rfl⟩) (SubAt.old U25 BR.out) ?_
       try simp only [Act.put, puA, puB, puC]
       refine wpAnyH_take (i := 20) (oi := oWt20) (v := undef) rfl (by kernel_rfl) (by kernel_rfl) (by kernel_rfl) (fun _ _ _ h => h) (Or.inr ⟨by rfl, rfl⟩) (SubAt.old U25 BR.out) ?_
       try simp only [Act.put, puA, puB, puC]
       refine wpAnyH_take (i := 21) (oi := oWt21) (v := undef) rfl (by kernel_rfl) (by kernel_rfl) (by kernel_rfl) (fun _ _ _ h => h) (Or.inr ⟨by rfl, rfl⟩) (SubAt.old U25 BR.out) ?_
       try simp only [Act.put, puA, puB, puC]
       refine wpAnyH_take (i := 22) (oi := oWt22) (v := undef) rfl (by kernel_rfl) (by kernel_rfl) (by kernel_rfl) (fun _ _ _ h => h) (Or.inr ⟨by rfl, rfl⟩) (SubAt.old U25 BR.out) ?_
       try simp only [Act.put, puA, puB, puC]
       refine wpAnyH_take (i := 23) (oi := oWt23) (v := undef) rfl (by kernel_rfl) (by kernel_rfl) (by kernel_rfl) (fun _ _ _ h => h) (Or.inr ⟨by rfl, rfl⟩) (SubAt.old U25 BR.out) ?_
       try simp only [Act.put, puA, puB, puC]
       refine wpAnyH_take (i := 24) (oi := oWt24) (v := undef) rfl (by kernel_rfl) (by kernel_rfl) (by kernel_rfl) (fun _ _ _ h => h) (Or.inr ⟨by rfl, rfl⟩) (SubAt.old U25 BR.out) ?_
       try simp only [Act.put, puA, puB, puC]
       refine tkA (i := 25) (oi := oWt25) (SubAt.old U25 BR.out) ?_
       try simp only [Act.put, puA, puB, puC]
       refine wpAnyH_done (by kernel_rfl) ?_ _
       refine NoPanic.normal ?_
       have U9 := hid U25
       go_wp2
       go_ret
       exact ⟨by rw [HZ.out]; first | rfl | (rw [Bool.and_false]; rfl), HU.out.trans U9.out⟩
      ·cases o2
       ·refine wp_region_noPanic ?_
        refine wp_region_held_drew (S := SubAt sb s1 s2 s3 (.slice a1 n1 c1) (.slice a2 j c2) (.slice a3 n3 c3)) (by kernel_rfl) ?_ (fun hHeld => ?_)
        ·exact SubAt.old ((Old.refl wr).drew) BR.out
        try simp only [Act.put, puA, puB, puC]
        clear hHeld
        refine tkA (i := 0) (oi := oWt0) (SubAt.old ((Old.refl wr).drew) BR.out) ?_
        try simp only [Act.put, puA, puB, puC]
        refine tkA (i := 1) (oi := oWt1) (SubAt.old ((Old.refl wr).drew) BR.out) ?_
        try simp only [Act.put, puA, puB, puC]
        refine tkA (i := 2) (oi := oWt2) (SubAt.old ((Old.refl wr).drew) BR.out) ?_
        try simp only [Act.put, puA, puB, puC]
        refine tkA (i := 3) (oi := oWt3) (SubAt.old ((Old.refl wr).drew) BR.out) ?_
        try simp only [Act.put, puA, puB, puC]
        refine rdB 4 oWt4 fun K hK => ?_
        refine wantCall1 ?_ 29 (.tmp 73) #[22] ?_ (.slice a1 n1 c1) ?_ ?_ (ent_rsort _ _) ?_
        iterate 4 rfl
        refine (HSo1.out _ (HU.out.trans ((Old.refl wr).drew))).mono ?_
        rintro o x34 ⟨va, rfl, ra, ua⟩
        have U34 := ((Old.refl wr).drew).trans ua
        have HKa := hid (fun (W : World) (u : Old x34 W) => sameKeysG _ _ n1 L1.length x1 (atN L1) W (R1.out.old ((HU.out.trans U34).trans u)) ((HT1.out _ _ _ ra).old u))
        rw [← HO1.out] at HKa
        refine ⟨_, rfl, ?_⟩
        refine hK.out _ _ (SubAt.old U34 BR.out) (fun _ => ?_)
        clear hK K
        try simp only [Act.put, puA, puB, puC]
        refine rdB 5 oWt5 fun K hK => ?_
        refine wantCall2 ?_ 28 (.tmp 71) (.tmp 74) #[22, 22] ?_ (.slice a1 n1 c1) (va) ?_ ?_ ?_ (ent_rsk _ _) ?_
        iterate 5 rfl
        refine (HKa.out _ (Old.refl _)).mono ?_
        rintro o x35 ⟨rfl, b35⟩
        have U35 := U34.trans b35
        refine ⟨_, rfl, ?_⟩
        refine hK.out _ _ (SubAt.old U35 BR.out) (fun _ => ?_)
        clear hK K
        try simp only [Act.put, puA, puB, puC]
        refine tkA (i := 6) (oi := oWt6) (SubAt.old U35 BR.out) ?_
        try simp only [Act.put, puA, puB, puC]
        refine tkA (i := 7) (oi := oWt7) (SubAt.old U35 BR.out) ?_
        try simp only [Act.put, puA, puB, puC]
        refine tkA (i := 8) (oi := oWt8) (SubAt.old U35 BR.out) ?_
        try simp only [Act.put, puA, puB, puC]
        refine tkA (i := 9) (oi := oWt9) (SubAt.old U35 BR.out) ?_
        try simp only [Act.put, puA, puB, puC]
        refine tkA (i := 10) (oi := oWt10) (SubAt.old U35 BR.out) ?_
        try simp only [Act.put, puA, puB, puC]
        refine tkA (i := 11) (oi := oWt11) (SubAt.old U35 BR.out) ?_
        try simp only [Act.put, puA, puB, puC]
        refine rdB 12 oWt12 fun K hK => ?_
        refine wantCall1 ?_ 29 (.tmp 81) #[22] ?_ (.slice a3 n3 c3) ?_ ?_ (ent_rsort _ _) ?_
        iterate 4 rfl
        refine (HSo3.out _ (HU.out.trans U35)).mono ?_
        rintro o x42 ⟨vd, rfl, rd, ud⟩
        have U42 := U35.trans ud
        have HKd := hid (fun (W : World) (u : Old x42 W) => sameKeysG _ _ n3 L3.length x3 (atN L3) W (R3.out.old ((HU.out.trans U42).trans u)) ((HT3.out _ _ _ rd).old u))
        rw [← HO3.out] at HKd
        refine ⟨_, rfl, ?_⟩
        refine hK.out _ _ (SubAt.old U42 BR.out) (fun _ => ?_)
        clear hK K
        try simp only [Act.put, puA, puB, puC]
        refine rdB 13 oWt13 fun K hK => ?_
        refine wantCall2 ?_ 28 (.tmp 79) (.tmp 82) #[22, 22] ?_ (.slice a3 n3 c3) (vd) ?_ ?_ ?_ (ent_rsk _ _) ?_
        iterate 5 rfl
        refine (HKd.out _ (Old.refl _)).mono ?_
        rintro o x43 ⟨rfl, b43⟩
        have U43 := U42.trans b43
        refine ⟨_, rfl, ?_⟩
        refine hK.out _ _ (SubAt.old U43 BR.out) (fun _ => ?_)
        clear hK K
        try simp only [Act.put, puA, puB, puC]
        refine tkA (i := 14) (oi := oWt14) (SubAt.old U43 BR.out) ?_
        try simp only [Act.put, puA, puB, puC]
        refine tkA (i := 15) (oi := oWt15) (SubAt.old U43 BR.out) ?_
        try simp only [Act.put, puA, puB, puC]
        refine tkA (i := 16) (oi := oWt16) (SubAt.old U43 BR.out) ?_
        try simp only [Act.put, puA, puB, puC]
        refine tkA (i := 17) (oi := oWt17) (SubAt.old U43 BR.out) ?_
        try simp only [Act.put, puA, puB, puC]
        refine tkA (i := 18) (oi := oWt18) (SubAt.old U43 BR.out) ?_
        try simp only [Act.put, puA, puB, puC]
        refine tkA (i := 19) (oi := oWt19) (SubAt.old U43 BR.out) ?_
        try simp only [Act.put, puA, puB, puC]
        refine tkA (i := 20) (oi := oWt20) (SubAt.old U43 BR.out) ?_
        try simp only [Act.put, puA, puB, puC]
        refine rdB 21 oWt21 fun K hK => ?_
        refine wantCall1 ?_ 32 (.tmp 90) #[23] ?_ (.slice a2 j c2) ?_ ?_ (ent_rnorm _ _) ?_
        iterate 4 rfl
        refine (HNm.out _ (HU.out.trans U43)).mono ?_
        rintro o x51 ⟨vf, rfl, rf, uf⟩
        have U51 := U43.trans uf
        have HSf := hid (fun (W : World) (u : Old x51 W) => HX2.out vf _ W (rf.old u))
        refine ⟨_, rfl, ?_⟩
        refine hK.out _ _ (SubAt.old U51 BR.out) (fun _ => ?_)
        clear hK K
        try simp only [Act.put, puA, puB, puC]
        refine rdB 22 oWt22 fun K hK => ?_
        refine wantCall1 ?_ 31 (.tmp 91) #[74] ?_ (vf) ?_ ?_ (ent_rspans _ _) ?_
        iterate 4 rfl
        refine (HSf.out _ (Old.refl _)).mono ?_
        rintro o x52 ⟨vg, rfl, rg, ug⟩
        have U52 := U51.trans ug
        have HSg := hid (fun (W : World) (u : Old x52 W) => sameSpansG _ _ j D.length f2 (atS (D.map Fl.spo)) W (R2.out.old ((HU.out.trans U52).trans u)) ((HT2.out _ _ _ rg).old u))
        rw [← HO2.out] at HSg
        refine ⟨_, rfl, ?_⟩
        refine hK.out _ _ (SubAt.old U52 BR.out) (fun _ => ?_)
        clear hK K
        try simp only [Act.put, puA, puB, puC]
        refine rdB 23 oWt23 fun K hK => ?_
        refine wantCall2 ?_ 30 (.tmp 88) (.tmp 92) #[23, 23] ?_ (.slice a2 j c2) (vg) ?_ ?_ ?_ (ent_rsame _ _) ?_
        iterate 5 rfl
        refine (HSg.out _ (Old.refl _)).mono ?_
        rintro o x53 ⟨rfl, b53⟩
        have U53 := U52.trans b53
        refine ⟨_, rfl, ?_⟩
        refine hK.out _ _ (SubAt.old U53 BR.out) (fun _ => ?_)
        clear hK K
        try simp only [Act.put, puA, puB, puC]
        refine tkA (i := 24) (oi := oWt24) (SubAt.old U53 BR.out) ?_
        try simp only [Act.put, puA, puB, puC]
        refine tkA (i := 25) (oi := oWt25) (SubAt.old U53 BR.out) ?_
        try simp only [Act.put, puA, puB, puC]
        refine wpAnyH_done (by kernel_rfl) ?_ _
        refine NoPanic.normal ?_
        have U9 := hid U53
        go_wp2
        go_ret
        exact ⟨by rw [HZ.out]; first | rfl | (rw [Bool.and_false]; rfl), HU.out.trans U9.out⟩
       ·refine wp_region_noPanic ?_
        refine wp_region_held_drew (S := SubAt sb s1 s2 s3 (.slice a1 n1 c1) (.slice a2 j c2) (.slice a3 n3 c3)) (by kernel_rfl) ?_ (fun hHeld => ?_)
        ·exact SubAt.old ((Old.refl wr).drew) BR.out
        try simp only [Act.put, puA, puB, puC]
        clear hHeld
        refine tkA (i := 0) (oi := oWt0) (SubAt.old ((Old.refl wr).drew) BR.out) ?_
        try simp only [Act.put, puA, puB, puC]
        refine tkA (i := 1) (oi := oWt1) (SubAt.old ((Old.refl wr).drew) BR.out) ?_
        try simp only [Act.put, puA, puB, puC]
        refine tkA (i := 2) (oi := oWt2) (SubAt.old ((Old.refl wr).drew) BR.out) ?_
        try simp only [Act.put, puA, puB, puC]
        refine tkA (i := 3) (oi := oWt3) (SubAt.old ((Old.refl wr).drew) BR.out) ?_
        try simp only [Act.put, puA, puB, puC]
        refine rdB 4 oWt4 fun K hK => ?_
        refine wantCall1 ?_ 29 (.tmp 73) #[22] ?_ (.slice a1 n1 c1) ?_ ?_ (ent_rsort _ _) ?_
        iterate 4 rfl
        refine (HSo1.out _ (HU.out.trans ((Old.refl wr).drew))).mono ?_
        rintro o x60 ⟨va, rfl, ra, ua⟩
        have U60 := ((Old.refl wr).drew).trans ua
        have HKa := hid (fun (W : World) (u : Old x60 W) => sameKeysG _ _ n1 L1.length x1 (atN L1) W (R1.out.old ((HU.out.trans U60).trans u)) ((HT1.out _ _ _ ra).old u))
        rw [← HO1.out] at HKa
        refine ⟨_, rfl, ?_⟩
        refine hK.out _ _ (SubAt.old U60 BR.out) (fun _ => ?_)
        clear hK K
        try simp only [Act.put, puA, puB, puC]
        refine rdB 5 oWt5 fun K hK => ?_
        refine wantCall2 ?_ 28 (.tmp 71) (.tmp 74) #[22, 22] ?_ (.slice a1 n1 c1) (va) ?_ ?_ ?_ (ent_rsk _ _) ?_
        iterate 5 rfl
        refine (HKa.out _ (Old.refl _)).mono ?_
        rintro o x61 ⟨rfl, b61⟩
        have U61 := U60.trans b61
        refine ⟨_, rfl, ?_⟩
        refine hK.out _ _ (SubAt.old U61 BR.out) (fun _ => ?_)
        clear hK K
        try simp only [Act.put, puA, puB, puC]
        refine tkA (i := 6) (oi := oWt6) (SubAt.old U61 BR.out) ?_
        try simp only [Act.put, puA, puB, puC]
        refine tkA (i := 7) (oi := oWt7) (SubAt.old U61 BR.out) ?_
        try simp only [Act.put, puA, puB, puC]
        refine tkA (i := 8) (oi := oWt8) (SubAt.old U61 BR.out) ?_
        try simp only [Act.put, puA, puB, puC]
        refine tkA (i := 9) (oi := oWt9) (SubAt.old U61 BR.out) ?_
        try simp only [Act.put, puA, puB, puC]
        refine tkA (i := 10) (oi := oWt10) (SubAt.old U61 BR.out) ?_
        try simp only [Act.put, puA, puB, puC]
        refine tkA (i := 11) (oi := oWt11) (SubAt.old U61 BR.out) ?_
        try simp only [Act.put, puA, puB, puC]
        refine rdB 12 oWt12 fun K hK => ?_
        refine wantCall1 ?_ 29 (.tmp 81) #[22] ?_ (.slice a3 n3 c3) ?_ ?_ (ent_rsort _ _) ?_
        iterate 4 rfl
        refine (HSo3.out _ (HU.out.trans U61)).mono ?_
        rintro o x68 ⟨vd, rfl, rd, ud⟩
        have U68 := U61.trans ud
        have HKd := hid (fun (W : World) (u : Old x68 W) => sameKeysG _ _ n3 L3.length x3 (atN L3) W (R3.out.old ((HU.out.trans U68).trans u)) ((HT3.out _ _ _ rd).old u))
        rw [← HO3.out] at HKd
        refine ⟨_, rfl, ?_⟩
        refine hK.out _ _ (SubAt.old U68 BR.out) (fun _ => ?_)
        clear hK K
        try simp only [Act.put, puA, puB, puC]
        refine rdB 13 oWt13 fun K hK => ?_
        refine wantCall2 ?_ 28 (.tmp 79) (.tmp 82) #[22, 22] ?_ (.slice a3 n3 c3) (vd) ?_ ?_ ?_ (ent_rsk _ _) ?_
        iterate 5 rfl
        refine (HKd.out _ (Old.refl _)).mono ?_
        rintro o x69 ⟨rfl, b69⟩
        have U69 := U68.trans b69
        refine ⟨_, rfl, ?_⟩
        refine hK.out _ _ (SubAt.old U69 BR.out) (fun _ => ?_)
        clear hK K
        try simp only [Act.put, puA, puB, puC]
        refine tkA (i := 14) (oi := oWt14) (SubAt.old U69 BR.out) ?_
        try simp only [Act.put, puA, puB, puC]
        refine tkA (i := 15) (oi := oWt15) (SubAt.old U69 BR.out) ?_
        try simp only [Act.put, puA, puB, puC]
        refine tkA (i := 16) (oi := oWt16) (SubAt.old U69 BR.out) ?_
        try simp only [Act.put, puA, puB, puC]
        refine tkA (i := 17) (oi := oWt17) (SubAt.old U69 BR.out) ?_
        try simp only [Act.put, puA, puB, puC]
        refine tkA (i := 18) (oi := oWt18) (SubAt.old U69 BR.out) ?_
        try simp only [Act.put, puA, puB, puC]
        refine tkA (i := 19) (oi := oWt19) (SubAt.old U69 BR.out) ?_
        try simp only [Act.put, puA, puB, puC]
        refine tkA (i := 20) (oi := oWt20) (SubAt.old U69 BR.out) ?_
        try simp only [Act.put, puA, puB, puC]
        refine rdB 21 oWt21 fun K hK => ?_
        refine wantCall1 ?_ 32 (.tmp 90) #[23] ?_ (.slice a2 j c2) ?_ ?_ (ent_rnorm _ _) ?_
        iterate 4 rfl
        refine (HNm.out _ (HU.out.trans U69)).mono ?_
        rintro o x77 ⟨vf, rfl, rf, uf⟩
        have U77 := U69.trans uf
        have HSf := hid (fun (W : World) (u : Old x77 W) => HX2.out vf _ W (rf.old u))
        refine ⟨_, rfl, ?_⟩
        refine hK.out _ _ (SubAt.old U77 BR.out) (fun _ => ?_)
        clear hK K
        try simp only [Act.put, puA, puB, puC]
        refine rdB 22 oWt22 fun K hK => ?_
        refine wantCall1 ?_ 31 (.tmp 91) #[74] ?_ (vf) ?_ ?_ (ent_rspans _ _) ?_
        iterate 4 rfl
        refine (HSf.out _ (Old.refl _)).mono ?_
        rintro o x78 ⟨vg, rfl, rg, ug⟩
        have U78 := U77.trans ug
        have HSg := hid (fun (W : World) (u : Old x78 W) => sameSpansG _ _ j D.length f2 (atS (D.map Fl.spo)) W (R2.out.old ((HU.out.trans U78).trans u)) ((HT2.out _ _ _ rg).old u))
        rw [← HO2.out] at HSg
        refine ⟨_, rfl, ?_⟩
        refine hK.out _ _ (SubAt.old U78 BR.out) (fun _ => ?_)
        clear hK K
        try simp only [Act.put, puA, puB, puC]
        refine rdB 23 oWt23 fun K hK => ?_
        refine wantCall2 ?_ 30 (.tmp 88) (.tmp 92) #[23, 23] ?_ (.slice a2 j c2) (vg) ?_ ?_ ?_ (ent_rsame _ _) ?_
        iterate 5 rfl
        refine (HSg.out _ (Old.refl _)).mono ?_
        rintro o x79 ⟨rfl, b79⟩
        have U79 := U78.trans b79
        refine ⟨_, rfl, ?_⟩
        refine hK.out _ _ (SubAt.old U79 BR.out) (fun _ => ?_)
        clear hK K
        try simp only [Act.put, puA, puB, puC]
        refine tkA (i := 24) (oi := oWt24) (SubAt.old U79 BR.out) ?_
        try simp only [Act.put, puA, puB, puC]
        refine tkA (i := 25) (oi := oWt25) (SubAt.old U79 BR.out) ?_
        try simp only [Act.put, puA, puB, puC]
        refine wpAnyH_done (by kernel_rfl) ?_ _
        refine NoPanic.normal ?_
        have U9 := hid U79
        go_wp2
        go_ret
        exact ⟨by rw [HZ.out]; first | rfl | (rw [Bool.and_false]; rfl), HU.out.trans U9.out⟩
  ·go_wp2_with (first | (go_at_call_of 25 (Value.slice a1 n1 c1); refine (K1.out _ HV.out).mono ?_; rintro o w5 ⟨rfl, u5⟩; have U5 := hid (HV.out.trans u5); have B5 := hid (SubAt.old u5 HS.out); obtain ⟨_, _, _, g3, g4, g5⟩ := B5.out; clear u5) | (go_at_call_of 25 (Value.slice a3 n3 c3); refine (K3.out _ U5.out).mono ?_; rintro o w6 ⟨rfl, u6⟩; have U6 := hid (U5.out.trans u6); have B6 := hid (SubAt.old u6 B5.out); clear u6))
   go_ret
   exact ⟨rfl, U6.out⟩
 ·go_wp2_with (first | (go_at_call_of 25 (Value.slice a1 n1 c1); refine (K1.out _ HV.out).mono ?_; rintro o w5 ⟨rfl, u5⟩; have U5 := hid (HV.out.trans u5); have B5 := hid (SubAt.old u5 HS.out); obtain ⟨_, _, _, g3, g4, g5⟩ := B5.out; clear u5))
  go_ret
  exact ⟨rfl, U5.out⟩
theorem refChk_any (s1 s2 s3 : Int) (a1 a2 a3 : Option Addr) (n1 n2 n3 c1 c2 c3 : Nat) (x1 x3 : Nat → Nat) (f2 : Nat → Sp) (w : World)
    (h1 : FRow w (.slice a1 n1 c1) n1 x1) (h2 : SRow w (.slice a2 n2 c2) n2 f2) (h3 : FRow w (.slice a3 n3 c3) n3 x3) :
    Calls Tryz.prog 10 #[.agg #[.int .i64 s1, .int .i64 s2, .int .i64 s3, .slice a1 n1 c1, .slice a2 n2 c2, .slice a3 n3 c3]] w fun e w' => e = .returned (.int .i64 (chkV s1 s2 s3 n1 n2 n3 x1 x3 f2)) ∧ Old w w' := by
 cases hm : misB s1 s2 s3
 ·cases hc : crowdB n1 n2 n3
  ·have q := refCheck_rest s1 s2 s3 a1 a2 a3 n1 n2 n3 c1 c2 c3 x1 x3 f2 w hm hc h1 h2 h3
   unfold chkV
   rw [hm, hc]
   exact q
  ·have q := refCheck_early s1 s2 s3 a1 a2 a3 n1 n2 n3 c1 c2 c3 w (.inr ⟨hm, hc⟩)
   unfold chkV
   rw [hm, hc]
   rw [hm] at q
   exact q
 ·have q := refCheck_early s1 s2 s3 a1 a2 a3 n1 n2 n3 c1 c2 c3 w (.inl hm)
  unfold chkV
  rw [hm]
  rw [hm] at q
  exact q
end Go.Proofs.YtfpadkgienjjpaaGreat
namespace Go.Proofs.YtfpadkgienjjpaaGreat
open Go.RowKit Go.Lib
set_option linter.unusedVariables false
set_option linter.unusedSimpArgs false
set_option maxRecDepth 20000
attribute [local go_sem] run_bits run_frombits run_store_float eqF
set_option maxHeartbeats 400000 in
theorem rhas_any (v : Value) (n : Nat) (x : Nat → Nat) (k : Nat) (hk : Fl.W k) (w : World) (hv : FRow w v n x) :
    Calls Tryz.prog 33 #[v, .float .f64 k] w fun e w' => e = .returned (.bool (Fl.anyG (fun i => keyEq (x i) k) n)) ∧ Old w w' := by
 obtain ⟨hm, a, c, rfl, hc⟩ := hv
 have HC := hid hc
 generalize hg : (fun i => keyEq (x i) k) = g
 have HG := hid (fun i => congrFun hg i)
 have hmm := hm
 clear hc hm hg
 go_enter Tryz.func33, Tryz.ntmps33
 go_wp2
 go_loopw [5] (fun i wr => ∃ j : Nat, j ≤ n ∧ i = .int .i64 (j : Nat) ∧ Fl.anyG g j = false ∧ Old w wr) (fun i _ => n - (intOf i).toNat)
 case atStart => exact ⟨0, Nat.zero_le _, rfl, rfl, Old.refl _⟩
 case round =>
  obtain ⟨j, hj, rfl, h0, hu⟩ := hrel
  by_cases hlt : j < n
  ·obtain ⟨b, off, ha, hW, c0⟩ := HC.out j hlt
   subst ha
   have x0 := hu.keep c0
   have l1 : (0 : Int) ≤ (j : Int) := by omega
   have l2 : (j : Int) < (n : Int) := by omega
   have HE := hid (show (FloatKind.f64.format.order (x j) k == some .eq) = g j from by rw [← HG.out j]; exact ordE (x j) k hW hk)
   have H0 := hid h0
   clear c0 h0 HC HG hW
   generalize x j = X at *
   cases hg : g j
   ·have HS := hid (Fl.anyG_step g j H0.out hg)
    have e0 : (FloatKind.f64.format.order X k == some .eq) = false := by rw [HE.out, hg]
    clear hg HE
    go_wp2
    go_roundw
    case rel => exact ⟨j + 1, hlt, by go_num, HS.out, hu⟩
    case measure => simp [intOf]; omega
   ·have HT := hid (Fl.anyG_true g n j hlt hg)
    have e0 : (FloatKind.f64.format.order X k == some .eq) = true := by rw [HE.out, hg]
    clear hg HE
    go_wp2
    go_ret
    exact ⟨ret_b (by rw [HT.out]), hu⟩
  ·obtain rfl : j = n := by omega
   have H0 := hid h0
   clear h0
   go_wp2
   go_ret
   exact ⟨ret_b (by rw [H0.out]), hu⟩
set_option maxHeartbeats 1000000 in
theorem rwrites_any (s : Sb) (k : Nat) (hk : Fl.W k) (w : World) (hs : s.Ok w) : Calls Tryz.prog 12 #[.agg #[.int .i64 s.s1, .int .i64 s.s2, .int .i64 s.s3, .slice s.a1 s.n1 s.c1, .slice s.a2 s.n2 s.c2, .slice s.a3 s.n3 s.c3], .float .f64 k] w fun e w' => e = .returned (.bool (writeB s k)) ∧ Old w w' := by
 have HA := hid (fun (W : World) (u : Old w W) => rhas_any _ _ _ k hk W (hs.h3.old u))
 unfold writeB
 generalize Fl.anyG (fun i => keyEq (s.x3 i) k) s.n3 = o1 at *
 clear hs
 go_enter Tryz.func12, Tryz.ntmps12
 go_upto_region 1 with fail
 generalize hw1 : w.alloc (.cells #[.int .i64 s.s1, .int .i64 s.s2, .int .i64 s.s3, .slice s.a1 s.n1 s.c1, .slice s.a2 s.n2 s.c2, .slice s.a3 s.n3 s.c3] 25) = w1 at *
 generalize hsb : w.heap.size = sb at *
 have HW := hid (sub_new w s.s1 s.s2 s.s3 _ _ _ w1 hw1 sb hsb)
 clear hw1 hsb
 obtain ⟨⟨t0, t1, t2, t3, t4, t5⟩, _⟩ := HW.out
 go_wp2_with (first | (go_at_call 33; refine (HA.out _ HW.out.2).mono ?_; rintro e w2 ⟨rfl, u2⟩; have U2 := hid (HW.out.2.trans u2); clear u2))
 go_ret
 exact ⟨rfl, U2.out⟩
set_option maxHeartbeats 2000000 in
theorem rreads_any (s : Sb) (k : Nat) (hk : Fl.W k) (w : World) (hs : s.Ok w) : Calls Tryz.prog 34 #[.agg #[.int .i64 s.s1, .int .i64 s.s2, .int .i64 s.s3, .slice s.a1 s.n1 s.c1, .slice s.a2 s.n2 s.c2, .slice s.a3 s.n3 s.c3], .float .f64 k] w fun e w' => e = .returned (.bool (readB s k)) ∧ Old w w' := by
 have HA := hid (fun (W : World) (u : Old w W) => rhas_any _ _ _ k hk W (hs.h1.old u))
 have hc := hs.h2
 obtain ⟨hm, a, c, hv, hc⟩ := hc
 have HC := hid hc
 have hb2 := hs.b2
 have hn2 : (s.n2 : Int) ≤ 5864062014805 := by omega
 have HRd : Hid (readB s k = (Fl.anyG (fun i => keyEq (s.x1 i) k) s.n1 || Fl.anyG (fun i => Fl.hasS (s.f2 i) k) s.n2)) := rfl
 cases hv
 generalize readB s k = rr at *
 generalize Fl.anyG (fun i => keyEq (s.x1 i) k) s.n1 = r1 at *
 generalize hg : (fun i => Fl.hasS (s.f2 i) k) = g at *
 have HG := hid hg
 clear hc hs hg hb2
 go_enter Tryz.func34, Tryz.ntmps34
 go_upto_region 1 with fail
 generalize hw1 : w.alloc (.cells #[.int .i64 s.s1, .int .i64 s.s2, .int .i64 s.s3, .slice s.a1 s.n1 s.c1, .slice s.a2 s.n2 s.c2, .slice s.a3 s.n3 s.c3] 25) = w1 at *
 generalize hsb : w.heap.size = sb at *
 have HW := hid (sub_new w s.s1 s.s2 s.s3 _ _ _ w1 hw1 sb hsb)
 clear hw1 hsb
 go_wp2
 go_loopw [5] (fun i wr => ∃ j : Nat, j ≤ s.n2 ∧ i = .int .i64 (j : Nat) ∧ Fl.anyG g j = false ∧ SubAt sb s.s1 s.s2 s.s3 (.slice s.a1 s.n1 s.c1) (.slice s.a2 s.n2 s.c2) (.slice s.a3 s.n3 s.c3) wr ∧ Old w wr) (fun i _ => s.n2 - (intOf i).toNat)
 case atStart => exact ⟨0, Nat.zero_le _, rfl, rfl, HW.out.1, HW.out.2⟩
 case round =>
  obtain ⟨j, hj, rfl, h0, hsa, hu⟩ := hrel
  have HSA := hid hsa
  have H0 := hid h0
  obtain ⟨t0, t1, t2, t3, t4, t5⟩ := hsa
  clear h0 HW
  by_cases hlt : j < s.n2
  ·obtain ⟨b, off, ha, hW1, hW2, d0, d1, d2, d3⟩ := HC.out j hlt
   rw [ha] at t4
   clear ha
   have y0 := hu.keep d0
   have y1 := hu.keep d1
   have y2 := hu.keep d2
   have y3 := hu.keep d3
   have HO := hid (fun W => rOf_any (s.f2 j).a (s.f2 j).b hW1 hW2 (s.f2 j).p (s.f2 j).q W)
   have HH0 := fun W => rHas_any (Fl.rL (s.f2 j).a (s.f2 j).b (s.f2 j).p (s.f2 j).q) (Fl.rH (s.f2 j).a (s.f2 j).b (s.f2 j).p (s.f2 j).q) k hk W
   rw [Fl.rHas_eq (s.f2 j).a (s.f2 j).b k (s.f2 j).p (s.f2 j).q hW1 hW2] at HH0
   have hgj : Fl.hasF (Fl.csU (s.f2 j).a (s.f2 j).b (s.f2 j).p (s.f2 j).q) (Fl.csV (s.f2 j).a (s.f2 j).b (s.f2 j).p (s.f2 j).q) (Fl.csE (s.f2 j).a (s.f2 j).b (s.f2 j).p (s.f2 j).q) k = g j := by rw [← HG.out]; rfl
   rw [hgj] at HH0
   have HH := hid HH0
   have l1 : (0 : Int) ≤ (j : Int) := by omega
   have l2 : (j : Int) < (s.n2 : Int) := by omega
   clear d0 d1 d2 d3 hgj hW1 hW2 HH0
   generalize Fl.rL (s.f2 j).a (s.f2 j).b (s.f2 j).p (s.f2 j).q = RL at *
   generalize Fl.rH (s.f2 j).a (s.f2 j).b (s.f2 j).p (s.f2 j).q = RH at *
   generalize (s.f2 j).a = a1' at *
   generalize (s.f2 j).b = b1 at *
   generalize (s.f2 j).p = p1 at *
   generalize (s.f2 j).q = q1 at *
   cases hg : g j
   ·rw [hg] at HH
    have HS := hid (Fl.anyG_step g j H0.out hg)
    clear hg
    go_wp2_with (first | (go_at_call 27; refine (HO.out _).mono ?_; rintro o w5 ⟨rfl, u5⟩; have U5 := hid (show Old wr w5 from u5.old); clear u5) | (go_at_call 54; refine (HH.out _).mono ?_; rintro o w6 ⟨rfl, u6⟩; have U6 := hid (U5.out.trans u6.old); clear u6))
    go_roundw
    case rel => exact ⟨j + 1, hlt, by go_num, HS.out, SubAt.old U6.out HSA.out, hu.trans U6.out⟩
    case measure => simp [intOf]; omega
   ·have HT := hid (Fl.anyG_true g s.n2 j hlt hg)
    rw [hg] at HH
    clear hg
    go_wp2_with (first | (go_at_call 27; refine (HO.out _).mono ?_; rintro o w5 ⟨rfl, u5⟩; have U5 := hid (show Old wr w5 from u5.old); clear u5) | (go_at_call 54; refine (HH.out _).mono ?_; rintro o w6 ⟨rfl, u6⟩; have U6 := hid (U5.out.trans u6.old); clear u6))
    go_ret
    exact ⟨ret_b (by rw [HRd.out, HT.out]; simp), hu.trans U6.out⟩
  ·obtain rfl : j = s.n2 := by omega
   go_wp2_with (go_at_call 33; refine (HA.out _ hu).mono ?_; rintro o w5 ⟨rfl, u5⟩)
   go_ret
   exact ⟨ret_b (by rw [HRd.out, H0.out]; simp), hu.trans u5⟩
abbrev M3 (m : Nat) (a b : Sb) (g off j y : Nat) (w : World) : Prop := SubAt m a.s1 a.s2 a.s3 (.slice a.a1 a.n1 a.c1) (.slice a.a2 a.n2 a.c2) (.slice a.a3 a.n3 a.c3) w ∧ SubAt (m + 1) b.s1 b.s2 b.s3 (.slice b.a1 b.n1 b.c1) (.slice b.a2 b.n2 b.c2) (.slice (some ⟨g, off, none⟩) b.n3 b.c3) w ∧ w.cell? ⟨g, off + j, none⟩ = some (.float .f64 y)
theorem M3.old {m : Nat} {a b : Sb} {g off j y : Nat} {w w' : World} (u : Old w w') (h : M3 m a b g off j y w) : M3 m a b g off j y w' := ⟨SubAt.old u h.1, SubAt.old u h.2.1, u.keep h.2.2⟩
set_option maxHeartbeats 2000000 in
theorem rmeets_any (a b : Sb) (w : World) (ha : a.Ok w) (hb : b.Ok w) : Calls Tryz.prog 13 #[.agg #[.int .i64 a.s1, .int .i64 a.s2, .int .i64 a.s3, .slice a.a1 a.n1 a.c1, .slice a.a2 a.n2 a.c2, .slice a.a3 a.n3 a.c3], .agg #[.int .i64 b.s1, .int .i64 b.s2, .int .i64 b.s3, .slice b.a1 b.n1 b.c1, .slice b.a2 b.n2 b.c2, .slice b.a3 b.n3 b.c3]] w fun e w' => e = .returned (.bool (meetB a b)) ∧ Old w w' := by
 have HR := hid (fun (W : World) (u : Old w W) (k : Nat) (hk : Fl.W k) => rreads_any a k hk W (ha.old u))
 have hc := hb.h3
 obtain ⟨hm, a3, c3, hv, hc⟩ := hc
 have HC := hid hc
 have hb3 := hb.b3
 have hn3 : (b.n3 : Int) ≤ 17592186044000 := by omega
 cases hv
 have HM : Hid (meetB a b = Fl.anyG (fun i => readB a (b.x3 i)) b.n3) := rfl
 generalize meetB a b = rr at *
 generalize hg : (fun i => readB a (b.x3 i)) = g at *
 have HG := hid (fun i => congrFun hg i)
 clear hc ha hb hg hb3
 go_enter Tryz.func13, Tryz.ntmps13
 go_upto_region 1 with fail
 generalize hw1 : (w.alloc (.cells #[.int .i64 a.s1, .int .i64 a.s2, .int .i64 a.s3, .slice a.a1 a.n1 a.c1, .slice a.a2 a.n2 a.c2, .slice a.a3 a.n3 a.c3] 25)).alloc (.cells #[.int .i64 b.s1, .int .i64 b.s2, .int .i64 b.s3, .slice b.a1 b.n1 b.c1, .slice b.a2 b.n2 b.c2, .slice b.a3 b.n3 b.c3] 25) = w1 at *
 have HW := hid (two_new w a b w1 hw1 _ rfl)
 generalize w.heap.size = m at *
 clear hw1
 go_wp2
 go_loopw [5] (fun i wr => ∃ j : Nat, j ≤ b.n3 ∧ i = .int .i64 (j : Nat) ∧ Fl.anyG g j = false ∧ (SubAt m a.s1 a.s2 a.s3 (.slice a.a1 a.n1 a.c1) (.slice a.a2 a.n2 a.c2) (.slice a.a3 a.n3 a.c3) wr ∧ SubAt (m + 1) b.s1 b.s2 b.s3 (.slice b.a1 b.n1 b.c1) (.slice b.a2 b.n2 b.c2) (.slice b.a3 b.n3 b.c3) wr) ∧ Old w wr) (fun i _ => b.n3 - (intOf i).toNat)
 case atStart => exact ⟨0, Nat.zero_le _, rfl, rfl, ⟨HW.out.1, HW.out.2.1⟩, HW.out.2.2⟩
 case round =>
  obtain ⟨j, hj, rfl, h0, hsa, hu⟩ := hrel
  have HSA := hid hsa
  have H0 := hid h0
  obtain ⟨⟨t0, t1, t2, t3, t4, t5⟩, ⟨u0, u1, u2, u3, u4, u5⟩⟩ := hsa
  clear h0 HW
  by_cases hlt : j < b.n3
  ·obtain ⟨bb, off, hba, hW, d0⟩ := HC.out j hlt
   have y0 := hu.keep d0
   have HRj := hid (show ∀ W, Old w W → Calls Tryz.prog 34 #[.agg #[.int .i64 a.s1, .int .i64 a.s2, .int .i64 a.s3, .slice a.a1 a.n1 a.c1, .slice a.a2 a.n2 a.c2, .slice a.a3 a.n3 a.c3], .float .f64 (b.x3 j)] W fun e w' => e = .returned (.bool (g j)) ∧ Old W w' from fun W u => by rw [← HG.out j]; exact HR.out W u _ hW)
   have l1 : (0 : Int) ≤ (j : Int) := by omega
   have l2 : (j : Int) < (b.n3 : Int) := by omega
   clear d0 hW HR HC HG
   have hq := HSA.out.2
   rw [hba] at hq
   have HM3 := hid (show M3 m a b bb off j (b.x3 j) wr from ⟨HSA.out.1, hq, y0⟩)
   clear hq
   rw [hba] at u5
   clear hba
   cases hg : g j
   ·rw [hg] at HRj
    have HS := hid (Fl.anyG_step g j H0.out hg)
    clear hg
    go_upto_region 4 with fail
    go_region_held3 (M3 m a b bb off j (b.x3 j)) (first | assumption | exact HM3.out | (refine M3.old ?_ HM3.out; assumption)) (first | (go_at_call 34; refine (HRj.out _ (hu.trans ((Old.refl _).drew))).mono ?_; rintro e w5 ⟨rfl, v5⟩; have U5 : Old wr w5 := ((Old.refl _).drew).trans v5))
    go_wp2
    go_roundw
    case rel => exact ⟨j + 1, hlt, by go_num, HS.out, ⟨SubAt.old U5 HSA.out.1, SubAt.old U5 HSA.out.2⟩, hu.trans U5⟩
    case measure => simp [intOf]; omega
   ·rw [hg] at HRj
    have HT := hid (Fl.anyG_true g b.n3 j hlt hg)
    clear hg
    go_upto_region 4 with fail
    go_region_held3 (M3 m a b bb off j (b.x3 j)) (first | assumption | exact HM3.out | (refine M3.old ?_ HM3.out; assumption)) (first | (go_at_call 34; refine (HRj.out _ (hu.trans ((Old.refl _).drew))).mono ?_; rintro e w5 ⟨rfl, v5⟩; have U5 : Old wr w5 := ((Old.refl _).drew).trans v5))
    go_wp2
    go_ret
    exact ⟨ret_b (by rw [HM.out, HT.out]), hu.trans U5⟩
  ·obtain rfl : j = b.n3 := by omega
   go_wp2
   go_ret
   exact ⟨ret_b (by rw [HM.out, H0.out]), hu⟩
end Go.Proofs.YtfpadkgienjjpaaGreat
