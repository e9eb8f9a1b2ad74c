/- sub.Check at every submission; conditions: the lengths fit. -/
import Derived.Test.YtajoodkapiifcaaGreatScG
import Derived.Sort.AtCall
import Derived.Test.YtajoodkapiifcaaGreatSqa
namespace Go.Proofs.YtajoodkapiifcaaGreat
open Go.RowKit Go.Lib
set_option linter.unusedVariables false
set_option linter.unusedSimpArgs false
set_option maxRecDepth 20000
theorem sp_ext {s t : Sp} (h : spEq s t = true) : s = t := by
 obtain ⟨a, b, p, q⟩ := s
 obtain ⟨a', b', p', q'⟩ := t
 simp [spEq] at h
 simp [h]
theorem spEq_false {s t : Sp} (h : spEq s t = false) : s ≠ t := fun e => by subst e; simp [spEq] at h
theorem ordE (a b : Nat) (ha : Fl.W a) (hb : Fl.W b) : (FloatKind.f64.format.order a b == some .eq) = (!Fl.nan a && !Fl.nan b && decide (Fl.code b = Fl.code a)) := (Fl.ord_gt_code a b ha hb).2.1
abbrev P82 (m : Nat) (s t : Sp) (w : World) : Prop := SpAt m s.a s.b s.p s.q w ∧ SpAt (m + 1) t.a t.b t.p t.q w
theorem sp_new (w : World) (a b : Nat) (p q : Bool) (w1 : World) (e : w.alloc (.cells #[.float .f64 a, .float .f64 b, .bool p, .bool q] 31) = w1) (m : Nat) (hm : w.heap.size = m) : SpAt m a b p q w1 ∧ Old w w1 := by
 subst e hm
 exact ⟨by simp [SpAt], (Old.refl w).alloc _⟩
theorem SpAt.oldq {m a b : Nat} {p q : Bool} {w w' : World} (u : Old w w') (h : SpAt m a b p q w) : SpAt m a b p q w' := ⟨u.keep h.1, u.keep h.2.1, u.keep h.2.2.1, u.keep h.2.2.2⟩
attribute [local go_sem] run_bits run_frombits run_store_float eqF
set_option maxHeartbeats 400000 in
theorem alike_any (a b : Nat) (ha : Fl.W a) (hb : Fl.W b) (w : World) : Calls Tryz.prog 69 #[.float .f64 a, .float .f64 b] w fun e w' => e = .returned (.bool (decide (a = b))) ∧ w' = w := by
 go_enter Tryz.func69, Tryz.ntmps69
 go_wp2
 go_ret
 refine ⟨ret_b ?_, rfl⟩
 by_cases e : a = b
 ·subst e; simp
 ·have : ((a : Int) == (b : Int)) = false := by rw [beq_eq_false_iff_ne]; omega
  simp [this, e]
set_option maxHeartbeats 1000000 in
theorem spansAlike_any (s t : Sp) (h1 : Fl.W s.a) (h2 : Fl.W s.b) (h3 : Fl.W t.a) (h4 : Fl.W t.b) (na : Fl.nan s.a = false) (nb : Fl.nan s.b = false) (w : World) :
    Calls Tryz.prog 71 #[.agg #[.float .f64 s.a, .float .f64 s.b, .bool s.p, .bool s.q], .agg #[.float .f64 t.a, .float .f64 t.b, .bool t.p, .bool t.q]] w fun e w' => e = .returned (.bool (spEq s t)) ∧ Old w w' := by
 have HO1 := ordE s.a t.a h1 h3
 have HO2 := ordE s.b t.b h2 h4
 rw [na] at HO1
 rw [nb] at HO2
 have A1 := hid (fun W => alike_any s.a t.a h1 h3 W)
 have A2 := hid (fun W => alike_any s.b t.b h2 h4 W)
 have HE := hid (show spEq s t = ((s.p == t.p) && (s.q == t.q) && (decide (s.a = t.a) && decide (s.b = t.b))) from rfl)
 have HV := hid (((Old.refl w).alloc (.cells #[.float .f64 s.a, .float .f64 s.b, .bool s.p, .bool s.q] 31)).alloc (.cells #[.float .f64 t.a, .float .f64 t.b, .bool t.p, .bool t.q] 31))
 by_cases e1 : s.a = t.a
 ·by_cases e2 : s.b = t.b
  ·have o1 : (FloatKind.f64.format.order s.a t.a == some .eq) = true := by rw [HO1, ← e1, na]; simp
   have o2 : (FloatKind.f64.format.order s.b t.b == some .eq) = true := by rw [HO2, ← e2, nb]; simp
   rw [decide_eq_true e1] at A1 HE
   rw [decide_eq_true e2] at A2 HE
   clear HO1 HO2 e1 e2
   generalize spEq s t = r at *
   generalize s.p = sp at *
   generalize t.p = tp at *
   generalize s.q = sq at *
   generalize t.q = tq at *
   cases hp : (sp == tp)
   ·rw [hp] at HE
    go_enter Tryz.func71, Tryz.ntmps71
    go_wp2_with (first | (go_at_call_of 69 (Value.float .f64 t.a); refine (A1.out _).mono ?_; rintro e w5 ⟨rfl, hq⟩; have hq2 := hq.symm; subst hq2) | (go_at_call_of 69 (Value.float .f64 t.b); refine (A2.out _).mono ?_; rintro e w6 ⟨rfl, hq⟩; have hq2 := hq.symm; subst hq2))
    all_goals go_ret
    all_goals exact ⟨by rw [HE.out]; simp, ((Old.refl w).alloc _).alloc _⟩
   ·rw [hp] at HE
    cases hq0 : (sq == tq)
    ·rw [hq0] at HE
     go_enter Tryz.func71, Tryz.ntmps71
     go_wp2_with (first | (go_at_call_of 69 (Value.float .f64 t.a); refine (A1.out _).mono ?_; rintro e w5 ⟨rfl, hq⟩; have hq2 := hq.symm; subst hq2) | (go_at_call_of 69 (Value.float .f64 t.b); refine (A2.out _).mono ?_; rintro e w6 ⟨rfl, hq⟩; have hq2 := hq.symm; subst hq2))
     all_goals go_ret
     all_goals exact ⟨by rw [HE.out]; simp, ((Old.refl w).alloc _).alloc _⟩
    ·rw [hq0] at HE
     go_enter Tryz.func71, Tryz.ntmps71
     go_wp2_with (first | (go_at_call_of 69 (Value.float .f64 t.a); refine (A1.out _).mono ?_; rintro e w5 ⟨rfl, hq⟩; have hq2 := hq.symm; subst hq2) | (go_at_call_of 69 (Value.float .f64 t.b); refine (A2.out _).mono ?_; rintro e w6 ⟨rfl, hq⟩; have hq2 := hq.symm; subst hq2))
     all_goals go_ret
     all_goals exact ⟨by rw [HE.out]; simp, ((Old.refl w).alloc _).alloc _⟩
  ·have HE2 := hid (show spEq s t = false by rw [HE.out, decide_eq_false e2]; simp)
   rw [decide_eq_true e1] at A1
   rw [decide_eq_false e2] at A2
   rw [HE2.out]
   clear HO1 HO2 e1 e2 HE HE2
   go_enter Tryz.func71, Tryz.ntmps71
   go_wp2_with (first | (go_at_call_of 69 (Value.float .f64 t.a); refine (A1.out _).mono ?_; rintro e w5 ⟨rfl, hq⟩; have hq2 := hq.symm; subst hq2) | (go_at_call_of 69 (Value.float .f64 t.b); refine (A2.out _).mono ?_; rintro e w6 ⟨rfl, hq⟩; have hq2 := hq.symm; subst hq2))
   all_goals go_ret
   all_goals exact ⟨rfl, ((Old.refl w).alloc _).alloc _⟩
 ·have HE2 := hid (show spEq s t = false by rw [HE.out, decide_eq_false e1]; simp)
  rw [decide_eq_false e1] at A1
  rw [HE2.out]
  clear HO1 HO2 e1 HE HE2 A2
  go_enter Tryz.func71, Tryz.ntmps71
  go_wp2_with (first | (go_at_call_of 69 (Value.float .f64 t.a); refine (A1.out _).mono ?_; rintro e w5 ⟨rfl, hq⟩; have hq2 := hq.symm; subst hq2))
  all_goals go_ret
  all_goals exact ⟨rfl, ((Old.refl w).alloc _).alloc _⟩
set_option maxHeartbeats 1000000 in
theorem equalF_any (v1 v2 : Value) (n m : Nat) (x y : Nat → Nat) (w : World) (h1 : FRow w v1 n x) (h2 : FRow w v2 m y) :
    Calls Tryz.prog 68 #[v1, v2, .func (.func 69) #[] #[]] w fun e w' => e = .returned (.bool (decide (n = m) && Fl.sameU x y n)) ∧ Old w w' := by
 obtain ⟨hb, a, c, rfl, hc⟩ := h1
 obtain ⟨hb', a', c', rfl, hc'⟩ := h2
 by_cases e : n = m
 ·subst e
  rw [decide_eq_true rfl, Bool.true_and]
  have HC := hid hc
  have HC' := hid hc'
  clear hc hc' hb'
  go_enter Tryz.func68, Tryz.ntmps68
  go_wp2
  go_loopw [17] (fun i wr => ∃ j : Nat, j ≤ n ∧ i = .int .i64 (j : Nat) ∧ Fl.sameU x y j = true ∧ Old w wr) (fun i _ => n - (intOf i).toNat)
  case atStart => exact ⟨0, Nat.zero_le _, rfl, rfl, Old.refl _⟩
  case round =>
   obtain ⟨j, hj, rfl, hs, hu⟩ := hrel
   have HSU := hid hs
   have HU := hid hu
   clear hs hu
   by_cases hlt : j < n
   ·obtain ⟨b, off, ha, hW, c0⟩ := HC.out j hlt
    obtain ⟨b', off', ha', hW', d0⟩ := HC'.out j hlt
    subst ha ha'
    have x0 := HU.out.keep c0
    have y0 := HU.out.keep d0
    have HA := hid (fun W => alike_any (x j) (y j) hW hW' W)
    have l1 : (0 : Int) ≤ (j : Int) := by omega
    have l2 : (j : Int) < (n : Int) := by omega
    clear c0 d0 hW hW'
    have HSt := hid (show Fl.sameU x y (j + 1) = (Fl.sameU x y j && decide (x j = y j)) from rfl)
    have HFl := hid (fun (e : ¬ x j = y j) => Fl.sameU_false x y n j hlt e)
    generalize hs1 : x j = s1 at *
    generalize hs2 : y j = s2 at *
    clear hs1 hs2
    by_cases hq : s1 = s2
    ·have HF := hid (show Fl.sameU x y (j + 1) = true by rw [HSt.out, HSU.out, decide_eq_true hq, Bool.and_true])
     rw [decide_eq_true hq] at HA
     clear hq HFl HSt
     go_wp2_with (first | (go_at_call 69; refine (HA.out _).mono ?_; rintro e w5 ⟨rfl, hq⟩; have hq2 := hq.symm; subst hq2))
     go_roundw
     case rel => exact ⟨j + 1, hlt, by go_num, HF.out, HU.out⟩
     case measure => simp [intOf]; omega
    ·have HF := hid (HFl.out hq)
     rw [decide_eq_false hq] at HA
     clear hq HFl HSt
     go_wp2_with (first | (go_at_call 69; refine (HA.out _).mono ?_; rintro e w5 ⟨rfl, hq⟩; have hq2 := hq.symm; subst hq2))
     go_ret
     exact ⟨ret_b HF.out.symm, HU.out⟩
   ·obtain rfl : j = n := by omega
    go_wp2
    go_ret
    exact ⟨ret_b HSU.out.symm, HU.out⟩
 ·rw [decide_eq_false e, Bool.false_and]
  have t : ((n : Int) != (m : Int)) = true := by rw [bne_iff_ne]; omega
  clear e hc hc'
  go_enter Tryz.func68, Tryz.ntmps68
  go_wp2
  go_ret
  exact ⟨rfl, Old.refl _⟩
set_option maxHeartbeats 1000000 in
theorem equalS_any (v1 v2 : Value) (n m : Nat) (f g : Nat → Sp) (w : World) (h1 : SRow w v1 n f) (h2 : SRow w v2 m g) (hn : ∀ i, i < n → Fl.nan (f i).a = false ∧ Fl.nan (f i).b = false) :
    Calls Tryz.prog 70 #[v1, v2, .func (.func 71) #[] #[]] w fun e w' => e = .returned (.bool (decide (n = m) && Fl.spU f g n)) ∧ Old w w' := by
 obtain ⟨hb, a, c, rfl, hc⟩ := h1
 obtain ⟨hb', a', c', rfl, hc'⟩ := h2
 by_cases e : n = m
 ·subst e
  rw [decide_eq_true rfl, Bool.true_and]
  have HC := hid hc
  have HC' := hid hc'
  have HNn := hid hn
  clear hc hc' hb' hn
  go_enter Tryz.func70, Tryz.ntmps70
  go_wp2
  go_loopw [17] (fun i wr => ∃ j : Nat, j ≤ n ∧ i = .int .i64 (j : Nat) ∧ Fl.spU f g j = true ∧ Old w wr) (fun i _ => n - (intOf i).toNat)
  case atStart => exact ⟨0, Nat.zero_le _, rfl, rfl, Old.refl _⟩
  case round =>
   obtain ⟨j, hj, rfl, hs, hu⟩ := hrel
   have HSU := hid hs
   have HU := hid hu
   clear hs hu
   by_cases hlt : j < n
   ·obtain ⟨b, off, ha, hW, hWb, c0, c1, c2, c3⟩ := HC.out j hlt
    obtain ⟨b', off', ha', hW', hWb', d0, d1, d2, d3⟩ := HC'.out j hlt
    subst ha ha'
    have x0 := HU.out.keep c0
    have x1 := HU.out.keep c1
    have x2 := HU.out.keep c2
    have x3 := HU.out.keep c3
    have y0 := HU.out.keep d0
    have y1 := HU.out.keep d1
    have y2 := HU.out.keep d2
    have y3 := HU.out.keep d3
    have hnn := HNn.out j hlt
    have HA := hid (fun W => spansAlike_any (f j) (g j) hW hWb hW' hWb' hnn.1 hnn.2 W)
    have l1 : (0 : Int) ≤ (j : Int) := by omega
    have l2 : (j : Int) < (n : Int) := by omega
    clear c0 c1 c2 c3 d0 d1 d2 d3 hW hW' hWb hWb' hnn
    have HSt := hid (show Fl.spU f g (j + 1) = (Fl.spU f g j && spEq (f j) (g j)) from rfl)
    have HFl := hid (fun (e : spEq (f j) (g j) = false) => Fl.spU_false f g n j hlt e)
    generalize hs1 : f j = s1 at *
    generalize hs2 : g j = s2 at *
    clear hs1 hs2
    go_upto_region 6 with fail
    generalize hwa : wr.alloc (.cells #[.float .f64 s1.a, .float .f64 s1.b, .bool s1.p, .bool s1.q] 31) = wa at *
    generalize hba : wr.heap.size = ba at *
    obtain ⟨hA, uA⟩ := sp_new wr _ _ _ _ wa hwa ba hba
    have z0 := uA.keep y0
    have z1 := uA.keep y1
    have z2 := uA.keep y2
    have z3 := uA.keep y3
    clear hwa hba x0 x1 x2 x3 y0 y1 y2 y3
    go_upto_region 7 with fail
    generalize hwb : wa.alloc (.cells #[.float .f64 s2.a, .float .f64 s2.b, .bool s2.p, .bool s2.q] 31) = wb at *
    generalize hbb : wa.heap.size = bb at *
    obtain ⟨⟨e0, e1, e2, e3⟩, uB⟩ := sp_new wa _ _ _ _ wb hwb bb hbb
    obtain ⟨d0, d1, d2, d3⟩ := SpAt.oldq uB hA
    have HV := hid ((HU.out.trans uA).trans uB)
    clear hwb hbb uA uB hA z0 z1 z2 z3
    cases hq : spEq s1 s2
    ·have HF := hid (HFl.out hq)
     rw [hq] at HA
     clear hq HFl HSt
     go_wp2_with (first | (go_at_call 71; refine (HA.out _).mono ?_; rintro e w5 ⟨rfl, u5⟩; have U5 := hid u5; clear u5))
     go_ret
     exact ⟨ret_b HF.out.symm, HV.out.trans U5.out⟩
    ·have HF := hid (show Fl.spU f g (j + 1) = true by rw [HSt.out, HSU.out, hq, Bool.and_true])
     rw [hq] at HA
     clear hq HFl HSt
     go_wp2_with (first | (go_at_call 71; refine (HA.out _).mono ?_; rintro e w5 ⟨rfl, u5⟩; have U5 := hid u5; clear u5))
     go_roundw
     case rel => exact ⟨j + 1, hlt, by go_num, HF.out, HV.out.trans U5.out⟩
     case measure => simp [intOf]; omega
   ·obtain rfl : j = n := by omega
    go_wp2
    go_ret
    exact ⟨ret_b HSU.out.symm, HU.out⟩
 ·rw [decide_eq_false e, Bool.false_and]
  have t : ((n : Int) != (m : Int)) = true := by rw [bne_iff_ne]; omega
  clear e hc hc'
  go_enter Tryz.func70, Tryz.ntmps70
  go_wp2
  go_ret
  exact ⟨rfl, Old.refl _⟩
end Go.Proofs.YtajoodkapiifcaaGreat
namespace Go.Proofs.YtajoodkapiifcaaGreat
open Go.RowKit Go.Lib
set_option linter.unusedVariables false
set_option linter.unusedSimpArgs false
set_option maxRecDepth 20000
def ordF (x : Nat → Nat) (n : Nat) : Bool := decide (n = (Fl.sortL x n).length) && Fl.sameU x (atN (Fl.sortL x n)) n
def ordS (f : Nat → Sp) (n : Nat) : Bool := decide (n = (Fl.dfold (Fl.cdl f n)).length) && Fl.spU f (atS ((Fl.dfold (Fl.cdl f n)).map Fl.spo)) n
def chkO (m c k z o : Bool) : Int := if m = true then 43 else if c = true then 3 else if k = true then 40 else if z = true then 41 else if o = true then 0 else 42
def chkV (s1 s2 s3 : Int) (n1 n2 n3 : Nat) (x1 x3 : Nat → Nat) (f2 : Nat → Sp) : Int := chkO (misB s1 s2 s3) (crowdB n1 n2 n3) (Fl.anyG (fun i => Fl.nan (x1 i)) n1 || Fl.anyG (fun i => Fl.nan (x3 i)) n3) (Fl.anyG (fun i => Fl.csE (f2 i).a (f2 i).b (f2 i).p (f2 i).q) n2) (ordF x1 n1 && ordS f2 n2 && ordF x3 n3)
theorem csE_nan {a b : Nat} {p q : Bool} (h : Fl.csE a b p q = false) : Fl.nan a = false ∧ Fl.nan b = false := by
 have q := Fl.csE_false a b p q h
 exact ⟨q.2.2.1, q.2.2.2.1⟩
theorem anyG_each {g : Nat → Bool} : ∀ {n : Nat}, Fl.anyG g n = false → ∀ i, i < n → g i = false
 | n + 1, h, i, hi => by
  have h' : (Fl.anyG g n || g n) = false := h
  rw [Bool.or_eq_false_iff] at h'
  by_cases e : i = n
  ·subst e; exact h'.2
  ·exact anyG_each h'.1 i (by omega)
theorem sub_new (w : World) (s1 s2 s3 : Int) (v1 v2 v3 : Value) (w1 : World) (e : w.alloc (.cells #[.int .i64 s1, .int .i64 s2, .int .i64 s3, v1, v2, v3] 28) = w1) (m : Nat) (hm : w.heap.size = m) : SubAt m s1 s2 s3 v1 v2 v3 w1 ∧ Old w w1 := by
 subst e hm
 exact ⟨by simp [SubAt], (Old.refl w).alloc _⟩
theorem SRow.ws {w : World} {v : Value} {n : Nat} {f : Nat → Sp} (h : SRow w v n f) : ∀ i, i < n → Fl.W (f i).a ∧ Fl.W (f i).b := fun i hi => by
 obtain ⟨_, a, c, e, hc⟩ := h
 obtain ⟨b, off, _, q1, q2, _⟩ := hc i hi
 exact ⟨q1, q2⟩
theorem FRow.ws {w : World} {v : Value} {n : Nat} {x : Nat → Nat} (h : FRow w v n x) : ∀ i, i < n → Fl.W (x i) := fun i hi => by
 obtain ⟨_, a, c, e, hc⟩ := h
 obtain ⟨b, off, _, q1, _⟩ := hc i hi
 exact q1
attribute [local go_sem] run_bits run_frombits run_store_float eqF
set_option maxHeartbeats 4000000 in
theorem ordered_any (s1 s2 s3 : Int) (a1 a2 a3 : Option Addr) (n1 n2 n3 c1 c2 c3 : Nat) (x1 x3 : Nat → Nat) (f2 : Nat → Sp) (b1 : n1 ≤ 17592186044000) (b2 : n2 ≤ 5864062014805) (b3 : n3 ≤ 17592186044000) (w : World) (h1 : FRow w (.slice a1 n1 c1) n1 x1) (h2 : SRow w (.slice a2 n2 c2) n2 f2) (h3 : FRow w (.slice a3 n3 c3) n3 x3) (hn : ∀ i, i < n2 → Fl.nan (f2 i).a = false ∧ Fl.nan (f2 i).b = false) :
    Calls Tryz.prog 40 #[.agg #[.int .i64 s1, .int .i64 s2, .int .i64 s3, .slice a1 n1 c1, .slice a2 n2 c2, .slice a3 n3 c3]] w fun e w' => e = .returned (.bool (ordF x1 n1 && ordS f2 n2 && ordF x3 n3)) ∧ Old w w' := by
 have hk2 := Fl.dfold_ok _ (Fl.cdl f2 n2) rfl (Fl.cdl_RV f2 n2 h2.ws)
 have hl2 : (Fl.dfold (Fl.cdl f2 n2)).length ≤ n2 := by have := hk2.2.2; have := Fl.cdl_len f2 n2; omega
 have hl1 := Fl.sortL_len x1 n1
 have hl3 := Fl.sortL_len x3 n3
 have HT1 := hid (fun (W : World) v (h : FOwn w.heap.size W v (Fl.sortL x1 n1)) => h.row (sortL_W x1 n1 h1.ws) (by omega))
 have HT3 := hid (fun (W : World) v (h : FOwn w.heap.size W v (Fl.sortL x3 n3)) => h.row (sortL_W x3 n3 h3.ws) (by omega))
 have HT2 := hid (show ∀ (W : World) v, OwnS w.heap.size W v ((Fl.dfold (Fl.cdl f2 n2)).map Fl.spo) → SRow W v (Fl.dfold (Fl.cdl f2 n2)).length (atS ((Fl.dfold (Fl.cdl f2 n2)).map Fl.spo)) from fun W v h => by
  have q := h.row (fun s hs => by obtain ⟨r, hr, rfl⟩ := List.mem_map.1 hs; exact Fl.spo_W (hk2.1.2 r hr)) (by rw [List.length_map]; omega)
  rw [List.length_map] at q
  exact q)
 have HF := hid (fun (W : World) (u : Old w W) => form_any s1 s2 s3 a1 a2 a3 n1 n2 n3 c1 c2 c3 x1 x3 f2 b1 b2 b3 W (h1.old u) (h2.old u) (h3.old u))
 have R1 := hid h1
 have R2 := hid h2
 have R3 := hid h3
 have HNn := hid hn
 have HO1 := hid (show ordF x1 n1 = (decide (n1 = (Fl.sortL x1 n1).length) && Fl.sameU x1 (atN (Fl.sortL x1 n1)) n1) from rfl)
 have HO3 := hid (show ordF x3 n3 = (decide (n3 = (Fl.sortL x3 n3).length) && Fl.sameU x3 (atN (Fl.sortL x3 n3)) n3) from rfl)
 have HO2 := hid (show ordS f2 n2 = (decide (n2 = (Fl.dfold (Fl.cdl f2 n2)).length) && Fl.spU f2 (atS ((Fl.dfold (Fl.cdl f2 n2)).map Fl.spo)) n2) from rfl)
 clear h1 h2 h3 hn hk2 hl1 hl2 hl3
 generalize ordF x1 n1 = o1 at *
 generalize ordF x3 n3 = o3 at *
 generalize ordS f2 n2 = o2 at *
 generalize Fl.sortL x1 n1 = L1 at *
 generalize Fl.sortL x3 n3 = L3 at *
 generalize Fl.dfold (Fl.cdl f2 n2) = D at *
 go_enter Tryz.func40, Tryz.ntmps40
 go_upto_region 1 with fail
 generalize hw1 : w.alloc (.cells #[.int .i64 s1, .int .i64 s2, .int .i64 s3, .slice a1 n1 c1, .slice a2 n2 c2, .slice a3 n3 c3] 28) = w1 at *
 generalize hsb : w.heap.size = sb at *
 obtain ⟨hS, hV⟩ := sub_new w s1 s2 s3 _ _ _ w1 hw1 sb hsb
 have HV := hid hV
 have HS := hid hS
 have HSZ := hid (show sb ≤ w1.heap.size by have := hV.size; omega)
 obtain ⟨t0, t1, t2, t3, t4, t5⟩ := hS
 clear hw1 hV hsb
 go_upto_region 2 with (first | (go_at_call 67; refine (HF.out _ HV.out).mono ?_; rintro e w5 ⟨p1, p2, p3, q1, q2, q3, rfl, g1, g2, g3, u5⟩; have U5 := hid u5; have G1 := hid (g1.mono' HSZ.out); have G2 := hid (g2.mono' HSZ.out); have G3 := hid (g3.mono' HSZ.out); clear g1 g2 g3 u5))
 generalize hw2 : w5.alloc (.cells #[.int .i64 s1, .int .i64 s2, .int .i64 s3, .slice p1 L1.length q1, .slice p2 D.length q2, .slice p3 L3.length q3] 28) = w2 at *
 generalize hfb : w5.heap.size = fb at *
 obtain ⟨hS2, hV2⟩ := sub_new w5 s1 s2 s3 _ _ _ w2 hw2 fb hfb
 have HV2 := hid ((HV.out.trans U5.out).trans hV2)
 have F1 := hid (HT1.out _ _ (G1.out.old hV2))
 have F2 := hid (HT2.out _ _ (G2.out.old hV2))
 have F3 := hid (HT3.out _ _ (G3.out.old hV2))
 obtain ⟨y0, y1, y2, y3, y4, y5⟩ := SubAt.old (U5.out.trans hV2) HS.out
 obtain ⟨z0, z1, z2, z3, z4, z5⟩ := hS2
 have HB := hid (show SubAt sb s1 s2 s3 (.slice a1 n1 c1) (.slice a2 n2 c2) (.slice a3 n3 c3) w2 ∧ SubAt fb s1 s2 s3 (.slice p1 L1.length q1) (.slice p2 D.length q2) (.slice p3 L3.length q3) w2 from ⟨⟨y0, y1, y2, y3, y4, y5⟩, z0, z1, z2, z3, z4, z5⟩)
 clear hw2 hfb hV2 t0 t1 t2 t3 t4 t5 G1 G2 G3 HF HT1 HT2 HT3 HS
 have E1 := hid (fun (W : World) (u : Old w2 W) => equalF_any _ _ n1 L1.length x1 (atN L1) W (R1.out.old (HV2.out.trans u)) (F1.out.old u))
 have E3 := hid (fun (W : World) (u : Old w2 W) => equalF_any _ _ n3 L3.length x3 (atN L3) W (R3.out.old (HV2.out.trans u)) (F3.out.old u))
 have E2 := hid (fun (W : World) (u : Old w2 W) => equalS_any _ _ n2 D.length f2 (atS (D.map Fl.spo)) W (R2.out.old (HV2.out.trans u)) (F2.out.old u) HNn.out)
 rw [← HO1.out] at E1
 rw [← HO2.out] at E2
 rw [← HO3.out] at E3
 clear HO1 HO2 HO3 R1 R2 R3 F1 F2 F3 HNn
 cases o1
 ·go_wp2_with (first | (go_at_call_of 68 (Value.slice a1 n1 c1); refine (E1.out _ (Old.refl _)).mono ?_; rintro e x5 ⟨rfl, u6⟩; have U6 := hid u6; clear u6))
  go_ret
  exact ⟨rfl, HV2.out.trans U6.out⟩
 ·cases o2
  ·go_wp2_with (first | (go_at_call_of 68 (Value.slice a1 n1 c1); refine (E1.out _ (Old.refl _)).mono ?_; rintro e x5 ⟨rfl, u6⟩; have U6 := hid u6; clear u6; obtain ⟨⟨_, _, _, _, y4', y5'⟩, _, _, _, _, z4', z5'⟩ := And.intro (SubAt.old U6.out HB.out.1) (SubAt.old U6.out HB.out.2)) | (go_at_call 70; refine (E2.out _ U6.out).mono ?_; rintro e x6 ⟨rfl, u7⟩; have U7 := hid (U6.out.trans u7); clear u7))
   go_ret
   exact ⟨rfl, HV2.out.trans U7.out⟩
  ·go_wp2_with (first | (go_at_call_of 68 (Value.slice a1 n1 c1); refine (E1.out _ (Old.refl _)).mono ?_; rintro e x5 ⟨rfl, u6⟩; have U6 := hid u6; clear u6; obtain ⟨⟨_, _, _, _, y4', y5'⟩, _, _, _, _, z4', z5'⟩ := And.intro (SubAt.old U6.out HB.out.1) (SubAt.old U6.out HB.out.2)) | (go_at_call 70; refine (E2.out _ U6.out).mono ?_; rintro e x6 ⟨rfl, u7⟩; have U7 := hid (U6.out.trans u7); clear u7; obtain ⟨⟨_, _, _, _, _, y5''⟩, _, _, _, _, _, z5''⟩ := And.intro (SubAt.old U7.out HB.out.1) (SubAt.old U7.out HB.out.2)) | (go_at_call_of 68 (Value.slice a3 n3 c3); refine (E3.out _ U7.out).mono ?_; rintro e x7 ⟨rfl, u8⟩; have U8 := hid (U7.out.trans u8); clear u8))
   go_ret
   exact ⟨ret_b (by simp), HV2.out.trans U8.out⟩
set_option maxHeartbeats 4000000 in
theorem check_any (s1 s2 s3 : Int) (a1 a2 a3 : Option Addr) (n1 n2 n3 c1 c2 c3 : Nat) (x1 x3 : Nat → Nat) (f2 : Nat → Sp) (b1 : n1 ≤ 17592186044000) (b2 : n2 ≤ 5864062014805) (b3 : n3 ≤ 17592186044000) (w : World) (h1 : FRow w (.slice a1 n1 c1) n1 x1) (h2 : SRow w (.slice a2 n2 c2) n2 f2) (h3 : FRow w (.slice a3 n3 c3) n3 x3) :
    Calls Tryz.prog 16 #[.agg #[.int .i64 s1, .int .i64 s2, .int .i64 s3, .slice a1 n1 c1, .slice a2 n2 c2, .slice a3 n3 c3]] w fun e w' => e = .returned (.int .i64 (chkV s1 s2 s3 n1 n2 n3 x1 x3 f2)) ∧ Old w w' := by
 have HO := hid (fun (hz : Fl.anyG (fun i => Fl.csE (f2 i).a (f2 i).b (f2 i).p (f2 i).q) n2 = false) (W : World) (u : Old w W) => ordered_any s1 s2 s3 a1 a2 a3 n1 n2 n3 c1 c2 c3 x1 x3 f2 b1 b2 b3 W (h1.old u) (h2.old u) (h3.old u) (fun i hi => csE_nan (anyG_each hz i hi)))
 have HM := hid (fun (W : World) (u : Old w W) => misnamed_any s1 s2 s3 (.slice a1 n1 c1) (.slice a2 n2 c2) (.slice a3 n3 c3) W)
 have HC := hid (fun (W : World) (u : Old w W) => crowded_any s1 s2 s3 a1 a2 a3 n1 n2 n3 c1 c2 c3 W)
 have HK := hid (fun (W : World) (u : Old w W) => keyless_any s1 s2 s3 (.slice a1 n1 c1) (.slice a2 n2 c2) (.slice a3 n3 c3) n1 n3 x1 x3 W (h1.old u) (h3.old u))
 have HZ := hid (fun (W : World) (u : Old w W) => empties_any (.slice a2 n2 c2) n2 f2 W (h2.old u))
 unfold chkV
 generalize misB s1 s2 s3 = m at *
 generalize crowdB n1 n2 n3 = c at *
 generalize (Fl.anyG (fun i => Fl.nan (x1 i)) n1 || Fl.anyG (fun i => Fl.nan (x3 i)) n3) = k at *
 generalize Fl.anyG (fun i => Fl.csE (f2 i).a (f2 i).b (f2 i).p (f2 i).q) n2 = z at *
 generalize (ordF x1 n1 && ordS f2 n2 && ordF x3 n3) = o at *
 clear h1 h2 h3
 go_enter Tryz.func16, Tryz.ntmps16
 go_upto_region 1 with fail
 generalize hw1 : w.alloc (.cells #[.int .i64 s1, .int .i64 s2, .int .i64 s3, .slice a1 n1 c1, .slice a2 n2 c2, .slice a3 n3 c3] 28) = w1 at *
 generalize hsb : w.heap.size = sb at *
 obtain ⟨hS, hV⟩ := sub_new w s1 s2 s3 _ _ _ w1 hw1 sb hsb
 have HV := hid hV
 have HS := hid hS
 obtain ⟨t0, t1, t2, t3, t4, t5⟩ := hS
 clear hw1 hV hsb
 cases m
 ·go_upto_region 3 with (first | (go_at_call 35; refine (HM.out _ HV.out).mono ?_; rintro e w2 ⟨rfl, u2⟩; have U2 := hid (HV.out.trans u2); have B2 := hid (SubAt.old u2 HS.out); clear u2))
  clear t0 t1 t2 t3 t4 t5 HS HM
  obtain ⟨t0, t1, t2, t3, t4, t5⟩ := B2.out
  cases c
  ·go_upto_region 5 with (first | (go_at_call 36; refine (HC.out _ U2.out).mono ?_; rintro e w3 ⟨rfl, u3⟩; have U3 := hid (U2.out.trans u3); have B3 := hid (SubAt.old u3 B2.out); clear u3))
   clear t0 t1 t2 t3 t4 t5 B2 HC
   obtain ⟨t0, t1, t2, t3, t4, t5⟩ := B3.out
   cases k
   ·go_upto_region 7 with (first | (go_at_call 37; refine (HK.out _ U3.out).mono ?_; rintro e w4 ⟨rfl, u4⟩; have U4 := hid (U3.out.trans u4); have B4 := hid (SubAt.old u4 B3.out); clear u4))
    clear t0 t1 t2 t3 t4 t5 B3 HK
    obtain ⟨t0, t1, t2, t3, t4, t5⟩ := B4.out
    cases z
    ·have HO2 := hid (HO.out rfl)
     clear HO
     go_upto_region 9 with (first | (go_at_call 38; refine (HZ.out _ U4.out).mono ?_; rintro e w5 ⟨rfl, u5⟩; have U5 := hid (U4.out.trans u5); have B5 := hid (SubAt.old u5 B4.out); clear u5))
     clear t0 t1 t2 t3 t4 t5 B4 HZ
     obtain ⟨t0, t1, t2, t3, t4, t5⟩ := B5.out
     cases o
     ·go_wp2_with (first | (go_at_call 40; refine (HO2.out _ U5.out).mono ?_; rintro e w6 ⟨rfl, u6⟩; have U6 := hid (U5.out.trans u6); clear u6))
      go_ret
      exact ⟨rfl, U6.out⟩
     ·go_wp2_with (first | (go_at_call 40; refine (HO2.out _ U5.out).mono ?_; rintro e w6 ⟨rfl, u6⟩; have U6 := hid (U5.out.trans u6); clear u6))
      go_ret
      exact ⟨rfl, U6.out⟩
    ·clear HO
     go_wp2_with (first | (go_at_call 38; refine (HZ.out _ U4.out).mono ?_; rintro e w5 ⟨rfl, u5⟩; have U5 := hid (U4.out.trans u5); clear u5))
     go_ret
     exact ⟨rfl, U5.out⟩
   ·clear HO
    go_wp2_with (first | (go_at_call 37; refine (HK.out _ U3.out).mono ?_; rintro e w4 ⟨rfl, u4⟩; have U4 := hid (U3.out.trans u4); clear u4))
    go_ret
    exact ⟨rfl, U4.out⟩
  ·clear HO
   go_wp2_with (first | (go_at_call 36; refine (HC.out _ U2.out).mono ?_; rintro e w3 ⟨rfl, u3⟩; have U3 := hid (U2.out.trans u3); clear u3))
   go_ret
   exact ⟨rfl, U3.out⟩
 ·clear HO
  go_wp2_with (first | (go_at_call 35; refine (HM.out _ HV.out).mono ?_; rintro e w2 ⟨rfl, u2⟩; have U2 := hid (HV.out.trans u2); clear u2))
  go_ret
  exact ⟨rfl, U2.out⟩
end Go.Proofs.YtajoodkapiifcaaGreat
namespace Go.Proofs.YtajoodkapiifcaaGreat
abbrev oWt0 : Oper := { dst := some 70, op := .fieldAddr 28 (.tmp 1) 3, type := 0, pos := "ref.go:48", after := #[], guard := none }
abbrev oWt1 : Oper := { dst := some 71, op := .load 25 (.tmp 70), type := 25, pos := "ref.go:48", after := #[⟨0, .data⟩], guard := none }
abbrev oWt2 : Oper := { dst := some 72, op := .fieldAddr 28 (.tmp 1) 3, type := 0, pos := "ref.go:48", after := #[], guard := none }
abbrev oWt3 : Oper := { dst := some 73, op := .load 25 (.tmp 72), type := 25, pos := "ref.go:48", after := #[⟨2, .data⟩], guard := none }
abbrev oWt4 : Oper := { dst := some 74, op := .call { callee := Callee.value (.func 54), args := #[.tmp 73], argTypes := #[25] }, type := 25, pos := "ref.go:48", after := #[⟨3, .data⟩], guard := none }
abbrev oWt5 : Oper := { dst := some 75, op := .call { callee := Callee.value (.func 29), args := #[.tmp 71, .tmp 74], argTypes := #[25, 25] }, type := 4, pos := "ref.go:48", after := #[⟨1, .data⟩, ⟨4, .data⟩, ⟨4, .chain⟩], guard := none }
abbrev oWt6 : Oper := { dst := some 76, op := .unOp UnOp.not 4 (.tmp 75), type := 4, pos := "ref.go:48", after := #[⟨5, .data⟩], guard := none }
abbrev oWt7 : Oper := { dst := some 77, op := .move (.tmp 76), type := 4, pos := "ref.go:48", after := #[⟨6, .data⟩, ⟨5, .chain⟩], guard := none }
abbrev oWt8 : Oper := { dst := some 78, op := .fieldAddr 28 (.tmp 1) 5, type := 0, pos := "ref.go:48", after := #[⟨7, .guard⟩], guard := some (7, false) }
abbrev oWt9 : Oper := { dst := some 79, op := .load 25 (.tmp 78), type := 25, pos := "ref.go:48", after := #[⟨8, .data⟩, ⟨7, .guard⟩], guard := some (7, false) }
abbrev oWt10 : Oper := { dst := some 80, op := .fieldAddr 28 (.tmp 1) 5, type := 0, pos := "ref.go:48", after := #[⟨7, .guard⟩], guard := some (7, false) }
abbrev oWt11 : Oper := { dst := some 81, op := .load 25 (.tmp 80), type := 25, pos := "ref.go:48", after := #[⟨10, .data⟩, ⟨7, .guard⟩], guard := some (7, false) }
abbrev oWt12 : Oper := { dst := some 82, op := .call { callee := Callee.value (.func 54), args := #[.tmp 81], argTypes := #[25] }, type := 25, pos := "ref.go:48", after := #[⟨11, .data⟩, ⟨7, .chain⟩, ⟨7, .guard⟩], guard := some (7, false) }
abbrev oWt13 : Oper := { dst := some 83, op := .call { callee := Callee.value (.func 29), args := #[.tmp 79, .tmp 82], argTypes := #[25, 25] }, type := 4, pos := "ref.go:48", after := #[⟨9, .data⟩, ⟨12, .data⟩, ⟨12, .chain⟩, ⟨7, .guard⟩], guard := some (7, false) }
abbrev oWt14 : Oper := { dst := some 84, op := .unOp UnOp.not 4 (.tmp 83), type := 4, pos := "ref.go:48", after := #[⟨13, .data⟩, ⟨7, .guard⟩], guard := some (7, false) }
abbrev oWt15 : Oper := { dst := some 85, op := .pick (.tmp 77) (.const (.bool true)) (.tmp 84), type := 4, pos := "ref.go:48", after := #[⟨7, .data⟩, ⟨14, .data⟩], guard := none }
abbrev oWt16 : Oper := { dst := some 86, op := .move (.tmp 85), type := 4, pos := "ref.go:48", after := #[⟨15, .data⟩, ⟨13, .chain⟩], guard := none }
abbrev oWt17 : Oper := { dst := some 87, op := .fieldAddr 28 (.tmp 1) 4, type := 0, pos := "ref.go:48", after := #[⟨16, .guard⟩], guard := some (16, false) }
abbrev oWt18 : Oper := { dst := some 88, op := .load 26 (.tmp 87), type := 26, pos := "ref.go:48", after := #[⟨17, .data⟩, ⟨16, .guard⟩], guard := some (16, false) }
abbrev oWt19 : Oper := { dst := some 89, op := .fieldAddr 28 (.tmp 1) 4, type := 0, pos := "ref.go:48", after := #[⟨16, .guard⟩], guard := some (16, false) }
abbrev oWt20 : Oper := { dst := some 90, op := .load 26 (.tmp 89), type := 26, pos := "ref.go:48", after := #[⟨19, .data⟩, ⟨16, .guard⟩], guard := some (16, false) }
abbrev oWt21 : Oper := { dst := some 91, op := .call { callee := Callee.value (.func 56), args := #[.tmp 90], argTypes := #[26] }, type := 94, pos := "ref.go:48", after := #[⟨20, .data⟩, ⟨16, .chain⟩, ⟨16, .guard⟩], guard := some (16, false) }
abbrev oWt22 : Oper := { dst := some 92, op := .call { callee := Callee.value (.func 55), args := #[.tmp 91], argTypes := #[94] }, type := 26, pos := "ref.go:48", after := #[⟨21, .data⟩, ⟨21, .chain⟩, ⟨16, .guard⟩], guard := some (16, false) }
abbrev oWt23 : Oper := { dst := some 93, op := .call { callee := Callee.value (.func 30), args := #[.tmp 88, .tmp 92], argTypes := #[26, 26] }, type := 4, pos := "ref.go:48", after := #[⟨18, .data⟩, ⟨22, .data⟩, ⟨22, .chain⟩, ⟨16, .guard⟩], guard := some (16, false) }
abbrev oWt24 : Oper := { dst := some 94, op := .unOp UnOp.not 4 (.tmp 93), type := 4, pos := "ref.go:48", after := #[⟨23, .data⟩, ⟨16, .guard⟩], guard := some (16, false) }
abbrev oWt25 : Oper := { dst := some 95, op := .pick (.tmp 86) (.const (.bool true)) (.tmp 94), type := 4, pos := "ref.go:48", after := #[⟨16, .data⟩, ⟨24, .data⟩], guard := none }
open Go.RowKit Go.Lib
set_option linter.unusedVariables false
set_option linter.unusedSimpArgs false
set_option maxRecDepth 20000
theorem ent_rsort (args : Array Value) (w : World) : (callFunc 54 args).run Tryz.prog w = .ok (.enter 54 args) w := by kernel_rfl
theorem ent_rsk (args : Array Value) (w : World) : (callFunc 29 args).run Tryz.prog w = .ok (.enter 29 args) w := by kernel_rfl
theorem ent_rnorm (args : Array Value) (w : World) : (callFunc 56 args).run Tryz.prog w = .ok (.enter 56 args) w := by kernel_rfl
theorem ent_rspans (args : Array Value) (w : World) : (callFunc 55 args).run Tryz.prog w = .ok (.enter 55 args) w := by kernel_rfl
theorem ent_rsame (args : Array Value) (w : World) : (callFunc 30 args).run Tryz.prog w = .ok (.enter 30 args) w := by kernel_rfl
theorem empty_cs (a b : Nat) (ha : Fl.W a) (hb : Fl.W b) (p q : Bool) : decide (Fl.rH a b p q < Fl.rL a b p q) = Fl.csE a b p q := by
 have hf := Fl.cs_isForm a b p q ha hb
 unfold Fl.rH Fl.rL
 cases he : Fl.csE a b p q
 ·rw [he] at hf
  have := (hf.2.2.2 rfl).2.2.2.2
  simp; omega
 ·simp
attribute [local go_sem] run_bits run_frombits run_store_float eqF
set_option maxHeartbeats 8000000 in
theorem refCheck_rest (s1 s2 s3 : Int) (a1 a2 a3 : Option Addr) (n1 n2 n3 c1 c2 c3 : Nat) (x1 x3 : Nat → Nat) (f2 : Nat → Sp) (w : World) (hm : misB s1 s2 s3 = false) (hc : crowdB n1 n2 n3 = false)
    (h1 : FRow w (.slice a1 n1 c1) n1 x1) (h2 : SRow w (.slice a2 n2 c2) n2 f2) (h3 : FRow w (.slice a3 n3 c3) n3 x3) :
    Calls Tryz.prog 28 #[.agg #[.int .i64 s1, .int .i64 s2, .int .i64 s3, .slice a1 n1 c1, .slice a2 n2 c2, .slice a3 n3 c3]] w fun e w' => e = .returned (.int .i64 (chkO false false (Fl.anyG (fun i => Fl.nan (x1 i)) n1 || Fl.anyG (fun i => Fl.nan (x3 i)) n3) (Fl.anyG (fun i => Fl.csE (f2 i).a (f2 i).b (f2 i).p (f2 i).q) n2) (ordF x1 n1 && ordS f2 n2 && ordF x3 n3))) ∧ Old w w' := by
 have h4 : ¬ s1 < 1 ∧ ¬ 1099511627776 < s1 ∧ ¬ s2 < 1 ∧ ¬ 1099511627776 < s2 ∧ ¬ s3 < 0 ∧ ¬ 1099511627776 < s3 := by
  unfold misB outB at hm; simp at hm; omega
 obtain ⟨t1, t2, t3, t4, t5, t6⟩ := h4
 have h5 : ¬ 16 < n1 ∧ ¬ 8 < n2 ∧ ¬ 16 < n3 := by unfold crowdB at hc; simp at hc; omega
 have b1 : n1 ≤ 16 := by omega
 have b2 : n2 ≤ 8 := by omega
 have b3 : n3 ≤ 16 := by omega
 have v1 : ¬ (16 : Int) < (n1 : Int) := by omega
 have v2 : ¬ (8 : Int) < (n2 : Int) := by omega
 have v3 : ¬ (16 : Int) < (n3 : Int) := by omega
 have hk2 := Fl.dfold_ok _ (Fl.cdl f2 n2) rfl (Fl.cdl_RV f2 n2 h2.ws)
 have hl2 : (Fl.dfold (Fl.cdl f2 n2)).length ≤ n2 := by have := hk2.2.2; have := Fl.cdl_len f2 n2; omega
 have hl1 := Fl.sortL_len x1 n1
 have hl3 := Fl.sortL_len x3 n3
 have HT1 := hid (fun (B : Nat) (W : World) v (h : FOwn B W v (Fl.sortL x1 n1)) => h.row (sortL_W x1 n1 h1.ws) (by omega))
 have HT3 := hid (fun (B : Nat) (W : World) v (h : FOwn B W v (Fl.sortL x3 n3)) => h.row (sortL_W x3 n3 h3.ws) (by omega))
 have HT2 := hid (show ∀ (B : Nat) (W : World) v, OwnS B W v ((Fl.dfold (Fl.cdl f2 n2)).map Fl.spo) → SRow W v (Fl.dfold (Fl.cdl f2 n2)).length (atS ((Fl.dfold (Fl.cdl f2 n2)).map Fl.spo)) from fun B W v h => by
  have q := h.row (fun s hs => by obtain ⟨r, hr, rfl⟩ := List.mem_map.1 hs; exact Fl.spo_W (hk2.1.2 r hr)) (by rw [List.length_map]; omega)
  rw [List.length_map] at q
  exact q)
 have HX2 := hid (fun v B W (h : OwnG B W v (Fl.dfold (Fl.cdl f2 n2))) => spans_any v B _ W h hk2.1.2 (by omega))
 have K1 := hid (fun W (hW : Old w W) => refNans_any _ _ _ W (h1.old hW))
 have K3 := hid (fun W (hW : Old w W) => refNans_any _ _ _ W (h3.old hW))
 have HSo1 := hid (fun (W : World) (u : Old w W) => sortR_any (.slice a1 n1 c1) n1 x1 (by omega) W (h1.old u))
 have HSo3 := hid (fun (W : World) (u : Old w W) => sortR_any (.slice a3 n3 c3) n3 x3 (by omega) W (h3.old u))
 have HNm := hid (fun (W : World) (u : Old w W) => refNorm_any (.slice a2 n2 c2) n2 f2 (by omega) W (h2.old u))
 have R1 := hid h1
 have R2 := hid h2
 have R3 := hid h3
 have HO1 := hid (show ordF x1 n1 = (decide (n1 = (Fl.sortL x1 n1).length) && Fl.sameU x1 (atN (Fl.sortL x1 n1)) n1) from rfl)
 have HO3 := hid (show ordF x3 n3 = (decide (n3 = (Fl.sortL x3 n3).length) && Fl.sameU x3 (atN (Fl.sortL x3 n3)) n3) from rfl)
 have HO2 := hid (show ordS f2 n2 = (decide (n2 = (Fl.dfold (Fl.cdl f2 n2)).length) && Fl.spU f2 (atS ((Fl.dfold (Fl.cdl f2 n2)).map Fl.spo)) n2) from rfl)
 have HZt := hid (fun i (hi : i < n2) (e : Fl.csE (f2 i).a (f2 i).b (f2 i).p (f2 i).q = true) => Fl.anyG_true (fun i => Fl.csE (f2 i).a (f2 i).b (f2 i).p (f2 i).q) n2 i hi e)
 have HZs := hid (Fl.anyG_step (fun i => Fl.csE (f2 i).a (f2 i).b (f2 i).p (f2 i).q))
 have HZd := hid (show Fl.anyG (fun i => Fl.csE (f2 i).a (f2 i).b (f2 i).p (f2 i).q) 0 = false from rfl)
 generalize hzg : Fl.anyG (fun i => Fl.csE (f2 i).a (f2 i).b (f2 i).p (f2 i).q) = zg at *
 clear hzg
 generalize hk1 : Fl.anyG (fun i => Fl.nan (x1 i)) n1 = k1 at *
 generalize hk3 : Fl.anyG (fun i => Fl.nan (x3 i)) n3 = k3 at *
 clear hk1 hk3 hm hc h5 h1 h2 h3 hk2 hl1 hl2 hl3 b1 b2 b3
 generalize ordF x1 n1 = o1 at *
 generalize ordF x3 n3 = o3 at *
 generalize ordS f2 n2 = o2 at *
 generalize Fl.sortL x1 n1 = L1 at *
 generalize Fl.sortL x3 n3 = L3 at *
 generalize Fl.dfold (Fl.cdl f2 n2) = D at *
 go_enter Tryz.func28, Tryz.ntmps28
 go_upto_region 1 with fail
 generalize hw1 : w.alloc (.cells #[.int .i64 s1, .int .i64 s2, .int .i64 s3, .slice a1 n1 c1, .slice a2 n2 c2, .slice a3 n3 c3] 28) = w1 at *
 generalize hsb : w.heap.size = sb at *
 obtain ⟨hS, hV⟩ := sub_new w s1 s2 s3 _ _ _ w1 hw1 sb hsb
 have HV := hid hV
 have HS := hid hS
 obtain ⟨f0, f1, f2', f3, f4, f5⟩ := hS
 clear hw1 hV hsb
 cases k1
 ·cases k3
  ·go_upto_region 7 with (first | (go_at_call_of 51 (Value.slice a1 n1 c1); refine (K1.out _ HV.out).mono ?_; rintro o w5 ⟨rfl, u5⟩; have U5 := hid (HV.out.trans u5); have B5 := hid (SubAt.old u5 HS.out); obtain ⟨_, _, _, g3, g4, g5⟩ := B5.out; clear u5) | (go_at_call_of 51 (Value.slice a3 n3 c3); refine (K3.out _ U5.out).mono ?_; rintro o w6 ⟨rfl, u6⟩; have U6 := hid (U5.out.trans u6); have B6 := hid (SubAt.old u6 B5.out); clear u6))
   clear f0 f1 f2' f3 f4 f5 g3 g4 g5 B5 U5 HS HV K1 K3 t1 t2 t3 t4 t5 t6 v1 v2 v3
   go_wp2
   go_loopw [3] (fun i wr => ∃ j : Nat, j ≤ n2 ∧ i = .int .i64 (j : Nat) ∧ zg j = false ∧ Old w6 wr) (fun i _ => n2 - (intOf i).toNat)
   case atStart => exact ⟨0, Nat.zero_le _, rfl, HZd.out, Old.refl _⟩
   case round =>
    obtain ⟨j, hj, rfl, hz, hu⟩ := hrel
    have HU := hid (U6.out.trans hu)
    have HU6 := hid hu
    have HZ := hid hz
    have BR := hid (SubAt.old hu B6.out)
    clear hz hu
    obtain ⟨g0, g1, g2, g3, g4, g5⟩ := BR.out
    by_cases hlt : j < n2
    ·obtain ⟨_, a, c, hv, hcx⟩ := R2.out.old HU.out
     simp only [Value.slice.injEq] at hv
     obtain ⟨rfl, _, rfl⟩ := hv
     obtain ⟨b, off, ha, hWa, hWb, x0, x1', x2, x3'⟩ := hcx j hlt
     subst ha
     have HO := hid (fun W => rOf_any (f2 j).a (f2 j).b hWa hWb (f2 j).p (f2 j).q W)
     have HE0 := fun W => rEmpty_any (Fl.rL (f2 j).a (f2 j).b (f2 j).p (f2 j).q) (Fl.rH (f2 j).a (f2 j).b (f2 j).p (f2 j).q) W
     rw [empty_cs _ _ hWa hWb] at HE0
     have HE := hid HE0
     have l1 : (0 : Int) ≤ (j : Int) := by omega
     have l2 : (j : Int) < (n2 : Int) := by omega
     have HZt2 := hid (HZt.out j hlt)
     have HZs2 := hid (HZs.out j HZ.out)
     clear HE0 hcx hWa hWb
     generalize Fl.csE (f2 j).a (f2 j).b (f2 j).p (f2 j).q = ce at *
     generalize Fl.rL (f2 j).a (f2 j).b (f2 j).p (f2 j).q = RL at *
     generalize Fl.rH (f2 j).a (f2 j).b (f2 j).p (f2 j).q = RH at *
     generalize (f2 j).a = sa at *
     generalize (f2 j).b = sb' at *
     generalize (f2 j).p = sp at *
     generalize (f2 j).q = sq at *
     cases ce
     ·have HZ2 := hid (HZs2.out rfl)
      clear HZs2 HZt2
      go_wp2_with (first | (go_at_call 53; refine (HO.out _).mono ?_; rintro o w7 ⟨rfl, u7⟩; have U7 := hid u7.old; clear u7) | (go_at_call 52; refine (HE.out _).mono ?_; rintro o w8 ⟨rfl, u8⟩; have U8 := hid (U7.out.trans u8.old); clear u8))
      go_roundw
      case rel => exact ⟨j + 1, hlt, by go_num, HZ2.out, HU6.out.trans U8.out⟩
      case measure => simp [intOf]; omega
     ·have HZ2 := hid (HZt2.out rfl)
      clear HZs2 HZt2
      go_wp2_with (first | (go_at_call 53; refine (HO.out _).mono ?_; rintro o w7 ⟨rfl, u7⟩; have U7 := hid u7.old; clear u7) | (go_at_call 52; refine (HE.out _).mono ?_; rintro o w8 ⟨rfl, u8⟩; have U8 := hid (U7.out.trans u8.old); clear u8))
      go_ret
      exact ⟨by rw [HZ2.out]; rfl, HU.out.trans U8.out⟩
    ·obtain rfl : j = n2 := by omega
     go_upto_region 12 with fail
     clear g0 g1 g2 g3 g4 g5 HZt HZs HZd
     cases o1
     ·refine wp_region_noPanic ?_
      refine wp_region_held_drew (S := SubAt sb s1 s2 s3 (.slice a1 n1 c1) (.slice a2 j c2) (.slice a3 n3 c3)) (by kernel_rfl) ?_ (fun hHeld => ?_)
      ·exact SubAt.old ((Old.refl wr).drew) BR.out
      try simp only [Act.put, puA, puB, puC]
      clear hHeld
      refine tkA (i := 0) (oi := oWt0) (SubAt.old ((Old.refl wr).drew) BR.out) ?_
      try simp only [Act.put, puA, puB, puC]
      refine tkA (i := 1) (oi := oWt1) (SubAt.old ((Old.refl wr).drew) BR.out) ?_
      try simp only [Act.put, puA, puB, puC]
      refine tkA (i := 2) (oi := oWt2) (SubAt.old ((Old.refl wr).drew) BR.out) ?_
      try simp only [Act.put, puA, puB, puC]
      refine tkA (i := 3) (oi := oWt3) (SubAt.old ((Old.refl wr).drew) BR.out) ?_
      try simp only [Act.put, puA, puB, puC]
      refine rdB 4 oWt4 fun K hK => ?_
      refine wantCall1 ?_ 54 (.tmp 73) #[25] ?_ (.slice a1 n1 c1) ?_ ?_ (ent_rsort _ _) ?_
      iterate 4 rfl
      refine (HSo1.out _ (HU.out.trans ((Old.refl wr).drew))).mono ?_
      rintro o x5 ⟨va, rfl, ra, ua⟩
      have U5 := ((Old.refl wr).drew).trans ua
      have HKa := hid (fun (W : World) (u : Old x5 W) => sameKeysG _ _ n1 L1.length x1 (atN L1) W (R1.out.old ((HU.out.trans U5).trans u)) ((HT1.out _ _ _ ra).old u))
      rw [← HO1.out] at HKa
      refine ⟨_, rfl, ?_⟩
      refine hK.out _ _ (SubAt.old U5 BR.out) (fun _ => ?_)
      clear hK K
      try simp only [Act.put, puA, puB, puC]
      refine rdB 5 oWt5 fun K hK => ?_
      refine wantCall2 ?_ 29 (.tmp 71) (.tmp 74) #[25, 25] ?_ (.slice a1 n1 c1) (va) ?_ ?_ ?_ (ent_rsk _ _) ?_
      iterate 5 rfl
      refine (HKa.out _ (Old.refl _)).mono ?_
      rintro o x6 ⟨rfl, b6⟩
      have U6 := U5.trans b6
      refine ⟨_, rfl, ?_⟩
      refine hK.out _ _ (SubAt.old U6 BR.out) (fun _ => ?_)
      clear hK K
      try simp only [Act.put, puA, puB, puC]
      refine tkA (i := 6) (oi := oWt6) (SubAt.old U6 BR.out) ?_
      try simp only [Act.put, puA, puB, puC]
      refine tkA (i := 7) (oi := oWt7) (SubAt.old U6 BR.out) ?_
      try simp only [Act.put, puA, puB, puC]
      refine wpAnyH_take (i := 8) (oi := oWt8) (v := undef) rfl (by kernel_rfl) (by kernel_rfl) (by kernel_rfl) (fun _ _ _ h => h) (Or.inr ⟨by rfl, rfl⟩) (SubAt.old U6 BR.out) ?_
      try simp only [Act.put, puA, puB, puC]
      refine wpAnyH_take (i := 9) (oi := oWt9) (v := undef) rfl (by kernel_rfl) (by kernel_rfl) (by kernel_rfl) (fun _ _ _ h => h) (Or.inr ⟨by rfl, rfl⟩) (SubAt.old U6 BR.out) ?_
      try simp only [Act.put, puA, puB, puC]
      refine wpAnyH_take (i := 10) (oi := oWt10) (v := undef) rfl (by kernel_rfl) (by kernel_rfl) (by kernel_rfl) (fun _ _ _ h => h) (Or.inr ⟨by rfl, rfl⟩) (SubAt.old U6 BR.out) ?_
      try simp only [Act.put, puA, puB, puC]
      refine wpAnyH_take (i := 11) (oi := oWt11) (v := undef) rfl (by kernel_rfl) (by kernel_rfl) (by kernel_rfl) (fun _ _ _ h => h) (Or.inr ⟨by rfl, rfl⟩) (SubAt.old U6 BR.out) ?_
      try simp only [Act.put, puA, puB, puC]
      refine wpAnyH_take (i := 12) (oi := oWt12) (v := undef) rfl (by kernel_rfl) (by kernel_rfl) (by kernel_rfl) (fun _ _ _ h => h) (Or.inr ⟨by rfl, rfl⟩) (SubAt.old U6 BR.out) ?_
      try simp only [Act.put, puA, puB, puC]
      refine wpAnyH_take (i := 13) (oi := oWt13) (v := undef) rfl (by kernel_rfl) (by kernel_rfl) (by kernel_rfl) (fun _ _ _ h => h) (Or.inr ⟨by rfl, rfl⟩) (SubAt.old U6 BR.out) ?_
      try simp only [Act.put, puA, puB, puC]
      refine wpAnyH_take (i := 14) (oi := oWt14) (v := undef) rfl (by kernel_rfl) (by kernel_rfl) (by kernel_rfl) (fun _ _ _ h => h) (Or.inr ⟨by rfl, rfl⟩) (SubAt.old U6 BR.out) ?_
      try simp only [Act.put, puA, puB, puC]
      refine tkA (i := 15) (oi := oWt15) (SubAt.old U6 BR.out) ?_
      try simp only [Act.put, puA, puB, puC]
      refine tkA (i := 16) (oi := oWt16) (SubAt.old U6 BR.out) ?_
      try simp only [Act.put, puA, puB, puC]
      refine wpAnyH_take (i := 17) (oi := oWt17) (v := undef) rfl (by kernel_rfl) (by kernel_rfl) (by kernel_rfl) (fun _ _ _ h => h) (Or.inr ⟨by rfl, rfl⟩) (SubAt.old U6 BR.out) ?_
      try simp only [Act.put, puA, puB, puC]
      refine wpAnyH_take (i := 18) (oi := oWt18) (v := undef) rfl (by kernel_rfl) (by kernel_rfl) (by kernel_rfl) (fun _ _ _ h => h) (Or.inr ⟨by rfl, rfl⟩) (SubAt.old U6 BR.out) ?_
      try simp only [Act.put, puA, puB, puC]
      refine wpAnyH_take (i := 19) (oi := oWt19) (v := undef) rfl (by kernel_rfl) (by kernel_rfl) (by kernel_rfl) (fun _ _ _ h => h) (Or.inr ⟨by rfl, rfl⟩) (SubAt.old U6 BR.out) ?_
      try simp only [Act.put, puA, puB, puC]
      refine wpAnyH_take (i := 20) (oi := oWt20) (v := undef) rfl (by kernel_rfl) (by kernel_rfl) (by kernel_rfl) (fun _ _ _ h => h) (Or.inr ⟨by rfl, rfl⟩) (SubAt.old U6 BR.out) ?_
      try simp only [Act.put, puA, puB, puC]
      refine wpAnyH_take (i := 21) (oi := oWt21) (v := undef) rfl (by kernel_rfl) (by kernel_rfl) (by kernel_rfl) (fun _ _ _ h => h) (Or.inr ⟨by rfl, rfl⟩) (SubAt.old U6 BR.out) ?_
      try simp only [Act.put, puA, puB, puC]
      refine wpAnyH_take (i := 22) (oi := oWt22) (v := undef) rfl (by kernel_rfl) (by kernel_rfl) (by kernel_rfl) (fun _ _ _ h => h) (Or.inr ⟨by rfl, rfl⟩) (SubAt.old U6 BR.out) ?_
      try simp only [Act.put, puA, puB, puC]
      refine wpAnyH_take (i := 23) (oi := oWt23) (v := undef) rfl (by kernel_rfl) (by kernel_rfl) (by kernel_rfl) (fun _ _ _ h => h) (Or.inr ⟨by rfl, rfl⟩) (SubAt.old U6 BR.out) ?_
      try simp only [Act.put, puA, puB, puC]
      refine wpAnyH_take (i := 24) (oi := oWt24) (v := undef) rfl (by kernel_rfl) (by kernel_rfl) (by kernel_rfl) (fun _ _ _ h => h) (Or.inr ⟨by rfl, rfl⟩) (SubAt.old U6 BR.out) ?_
      try simp only [Act.put, puA, puB, puC]
      refine tkA (i := 25) (oi := oWt25) (SubAt.old U6 BR.out) ?_
      try simp only [Act.put, puA, puB, puC]
      refine wpAnyH_done (by kernel_rfl) ?_ _
      refine NoPanic.normal ?_
      have U9 := hid U6
      go_wp2
      go_ret
      exact ⟨by rw [HZ.out]; first | rfl | (rw [Bool.and_false]; rfl), HU.out.trans U9.out⟩
     ·cases o3
      ·refine wp_region_noPanic ?_
       refine wp_region_held_drew (S := SubAt sb s1 s2 s3 (.slice a1 n1 c1) (.slice a2 j c2) (.slice a3 n3 c3)) (by kernel_rfl) ?_ (fun hHeld => ?_)
       ·exact SubAt.old ((Old.refl wr).drew) BR.out
       try simp only [Act.put, puA, puB, puC]
       clear hHeld
       refine tkA (i := 0) (oi := oWt0) (SubAt.old ((Old.refl wr).drew) BR.out) ?_
       try simp only [Act.put, puA, puB, puC]
       refine tkA (i := 1) (oi := oWt1) (SubAt.old ((Old.refl wr).drew) BR.out) ?_
       try simp only [Act.put, puA, puB, puC]
       refine tkA (i := 2) (oi := oWt2) (SubAt.old ((Old.refl wr).drew) BR.out) ?_
       try simp only [Act.put, puA, puB, puC]
       refine tkA (i := 3) (oi := oWt3) (SubAt.old ((Old.refl wr).drew) BR.out) ?_
       try simp only [Act.put, puA, puB, puC]
       refine rdB 4 oWt4 fun K hK => ?_
       refine wantCall1 ?_ 54 (.tmp 73) #[25] ?_ (.slice a1 n1 c1) ?_ ?_ (ent_rsort _ _) ?_
       iterate 4 rfl
       refine (HSo1.out _ (HU.out.trans ((Old.refl wr).drew))).mono ?_
       rintro o x16 ⟨va, rfl, ra, ua⟩
       have U16 := ((Old.refl wr).drew).trans ua
       have HKa := hid (fun (W : World) (u : Old x16 W) => sameKeysG _ _ n1 L1.length x1 (atN L1) W (R1.out.old ((HU.out.trans U16).trans u)) ((HT1.out _ _ _ ra).old u))
       rw [← HO1.out] at HKa
       refine ⟨_, rfl, ?_⟩
       refine hK.out _ _ (SubAt.old U16 BR.out) (fun _ => ?_)
       clear hK K
       try simp only [Act.put, puA, puB, puC]
       refine rdB 5 oWt5 fun K hK => ?_
       refine wantCall2 ?_ 29 (.tmp 71) (.tmp 74) #[25, 25] ?_ (.slice a1 n1 c1) (va) ?_ ?_ ?_ (ent_rsk _ _) ?_
       iterate 5 rfl
       refine (HKa.out _ (Old.refl _)).mono ?_
       rintro o x17 ⟨rfl, b17⟩
       have U17 := U16.trans b17
       refine ⟨_, rfl, ?_⟩
       refine hK.out _ _ (SubAt.old U17 BR.out) (fun _ => ?_)
       clear hK K
       try simp only [Act.put, puA, puB, puC]
       refine tkA (i := 6) (oi := oWt6) (SubAt.old U17 BR.out) ?_
       try simp only [Act.put, puA, puB, puC]
       refine tkA (i := 7) (oi := oWt7) (SubAt.old U17 BR.out) ?_
       try simp only [Act.put, puA, puB, puC]
       refine tkA (i := 8) (oi := oWt8) (SubAt.old U17 BR.out) ?_
       try simp only [Act.put, puA, puB, puC]
       refine tkA (i := 9) (oi := oWt9) (SubAt.old U17 BR.out) ?_
       try simp only [Act.put, puA, puB, puC]
       refine tkA (i := 10) (oi := oWt10) (SubAt.old U17 BR.out) ?_
       try simp only [Act.put, puA, puB, puC]
       refine tkA (i := 11) (oi := oWt11) (SubAt.old U17 BR.out) ?_
       try simp only [Act.put, puA, puB, puC]
       refine rdB 12 oWt12 fun K hK => ?_
       refine wantCall1 ?_ 54 (.tmp 81) #[25] ?_ (.slice a3 n3 c3) ?_ ?_ (ent_rsort _ _) ?_
       iterate 4 rfl
       refine (HSo3.out _ (HU.out.trans U17)).mono ?_
       rintro o x24 ⟨vd, rfl, rd, ud⟩
       have U24 := U17.trans ud
       have HKd := hid (fun (W : World) (u : Old x24 W) => sameKeysG _ _ n3 L3.length x3 (atN L3) W (R3.out.old ((HU.out.trans U24).trans u)) ((HT3.out _ _ _ rd).old u))
       rw [← HO3.out] at HKd
       refine ⟨_, rfl, ?_⟩
       refine hK.out _ _ (SubAt.old U24 BR.out) (fun _ => ?_)
       clear hK K
       try simp only [Act.put, puA, puB, puC]
       refine rdB 13 oWt13 fun K hK => ?_
       refine wantCall2 ?_ 29 (.tmp 79) (.tmp 82) #[25, 25] ?_ (.slice a3 n3 c3) (vd) ?_ ?_ ?_ (ent_rsk _ _) ?_
       iterate 5 rfl
       refine (HKd.out _ (Old.refl _)).mono ?_
       rintro o x25 ⟨rfl, b25⟩
       have U25 := U24.trans b25
       refine ⟨_, rfl, ?_⟩
       refine hK.out _ _ (SubAt.old U25 BR.out) (fun _ => ?_)
       clear hK K
       try simp only [Act.put, puA, puB, puC]
       refine tkA (i := 14) (oi := oWt14) (SubAt.old U25 BR.out) ?_
       try simp only [Act.put, puA, puB, puC]
       refine tkA (i := 15) (oi := oWt15) (SubAt.old U25 BR.out) ?_
       try simp only [Act.put, puA, puB, puC]
       refine tkA (i := 16) (oi := oWt16) (SubAt.old U25 BR.out) ?_
       try simp only [Act.put, puA, puB, puC]
       refine wpAnyH_take (i := 17) (oi := oWt17) (v := undef) rfl (by kernel_rfl) (by kernel_rfl) (by kernel_rfl) (fun _ _ _ h => h) (Or.inr ⟨by rfl, rfl⟩) (SubAt.old U25 BR.out) ?_
       try simp only [Act.put, puA, puB, puC]
       refine wpAnyH_take (i := 18) (oi := oWt18) (v := undef) rfl (by kernel_rfl) (by kernel_rfl) (by kernel_rfl) (fun _ _ _ h => h) (Or.inr ⟨by rfl, rfl⟩) (SubAt.old U25 BR.out) ?_
       try simp only [Act.put, puA, puB, puC]
       refine wpAnyH_take (i := 19) (oi := oWt19) (v := undef) rfl (by kernel_rfl) (by kernel_rfl) (by kernel_rfl) (fun _ _ _ h => h) (Or.inr ⟨by rfl, rfl⟩) (SubAt.old U25 BR.out) ?_
       try simp only [Act.put, puA, puB, puC]
       refine wpAnyH_take (i := 20) (oi := oWt20) (v := undef) rfl (by kernel_rfl) (by kernel_rfl) (by kernel_rfl) (fun _ _ _ h => h) (Or.inr ⟨by rfl, rfl⟩) (SubAt.old U25 BR.out) ?_
       try simp only [Act.put, puA, puB, puC]
       refine wpAnyH_take (i := 21) (oi := oWt21) (v := undef) rfl (by kernel_rfl) (by kernel_rfl) (by kernel_rfl) (fun _ _ _ h => h) (Or.inr ⟨by rfl, rfl⟩) (SubAt.old U25 BR.out) ?_
       try simp only [Act.put, puA, puB, puC]
       refine wpAnyH_take (i := 22) (oi := oWt22) (v := undef) rfl (by kernel_rfl) (by kernel_rfl) (by kernel_rfl) (fun _ _ _ h => h) (Or.inr ⟨by rfl, rfl⟩) (SubAt.old U25 BR.out) ?_
       try simp only [Act.put, puA, puB, puC]
       refine wpAnyH_take (i := 23) (oi := oWt23) (v := undef) rfl (by kernel_rfl) (by kernel_rfl) (by kernel_rfl) (fun _ _ _ h => h) (Or.inr ⟨by rfl, rfl⟩) (SubAt.old U25 BR.out) ?_
       try simp only [Act.put, puA, puB, puC]
       refine wpAnyH_take (i := 24) (oi := oWt24) (v := undef) rfl (by kernel_rfl) (by kernel_rfl) (by kernel_rfl) (fun _ _ _ h => h) (Or.inr ⟨by rfl, rfl⟩) (SubAt.old U25 BR.out) ?_
       try simp only [Act.put, puA, puB, puC]
       refine tkA (i := 25) (oi := oWt25) (SubAt.old U25 BR.out) ?_
       try simp only [Act.put, puA, puB, puC]
       refine wpAnyH_done (by kernel_rfl) ?_ _
       refine NoPanic.normal ?_
       have U9 := hid U25
       go_wp2
       go_ret
       exact ⟨by rw [HZ.out]; first | rfl | (rw [Bool.and_false]; rfl), HU.out.trans U9.out⟩
      ·cases o2
       ·refine wp_region_noPanic ?_
        refine wp_region_held_drew (S := SubAt sb s1 s2 s3 (.slice a1 n1 c1) (.slice a2 j c2) (.slice a3 n3 c3)) (by kernel_rfl) ?_ (fun hHeld => ?_)
        ·exact SubAt.old ((Old.refl wr).drew) BR.out
        try simp only [Act.put, puA, puB, puC]
        clear hHeld
        refine tkA (i := 0) (oi := oWt0) (SubAt.old ((Old.refl wr).drew) BR.out) ?_
        try simp only [Act.put, puA, puB, puC]
        refine tkA (i := 1) (oi := oWt1) (SubAt.old ((Old.refl wr).drew) BR.out) ?_
        try simp only [Act.put, puA, puB, puC]
        refine tkA (i := 2) (oi := oWt2) (SubAt.old ((Old.refl wr).drew) BR.out) ?_
        try simp only [Act.put, puA, puB, puC]
        refine tkA (i := 3) (oi := oWt3) (SubAt.old ((Old.refl wr).drew) BR.out) ?_
        try simp only [Act.put, puA, puB, puC]
        refine rdB 4 oWt4 fun K hK => ?_
        refine wantCall1 ?_ 54 (.tmp 73) #[25] ?_ (.slice a1 n1 c1) ?_ ?_ (ent_rsort _ _) ?_
        iterate 4 rfl
        refine (HSo1.out _ (HU.out.trans ((Old.refl wr).drew))).mono ?_
        rintro o x34 ⟨va, rfl, ra, ua⟩
        have U34 := ((Old.refl wr).drew).trans ua
        have HKa := hid (fun (W : World) (u : Old x34 W) => sameKeysG _ _ n1 L1.length x1 (atN L1) W (R1.out.old ((HU.out.trans U34).trans u)) ((HT1.out _ _ _ ra).old u))
        rw [← HO1.out] at HKa
        refine ⟨_, rfl, ?_⟩
        refine hK.out _ _ (SubAt.old U34 BR.out) (fun _ => ?_)
        clear hK K
        try simp only [Act.put, puA, puB, puC]
        refine rdB 5 oWt5 fun K hK => ?_
        refine wantCall2 ?_ 29 (.tmp 71) (.tmp 74) #[25, 25] ?_ (.slice a1 n1 c1) (va) ?_ ?_ ?_ (ent_rsk _ _) ?_
        iterate 5 rfl
        refine (HKa.out _ (Old.refl _)).mono ?_
        rintro o x35 ⟨rfl, b35⟩
        have U35 := U34.trans b35
        refine ⟨_, rfl, ?_⟩
        refine hK.out _ _ (SubAt.old U35 BR.out) (fun _ => ?_)
        clear hK K
        try simp only [Act.put, puA, puB, puC]
        refine tkA (i := 6) (oi := oWt6) (SubAt.old U35 BR.out) ?_
        try simp only [Act.put, puA, puB, puC]
        refine tkA (i := 7) (oi := oWt7) (SubAt.old U35 BR.out) ?_
        try simp only [Act.put, puA, puB, puC]
        refine tkA (i := 8) (oi := oWt8) (SubAt.old U35 BR.out) ?_
        try simp only [Act.put, puA, puB, puC]
        refine tkA (i := 9) (oi := oWt9) (SubAt.old U35 BR.out) ?_
        try simp only [Act.put, puA, puB, puC]
        refine tkA (i := 10) (oi := oWt10) (SubAt.old U35 BR.out) ?_
        try simp only [Act.put, puA, puB, puC]
        refine tkA (i := 11) (oi := oWt11) (SubAt.old U35 BR.out) ?_
        try simp only [Act.put, puA, puB, puC]
        refine rdB 12 oWt12 fun K hK => ?_
        refine wantCall1 ?_ 54 (.tmp 81) #[25] ?_ (.slice a3 n3 c3) ?_ ?_ (ent_rsort _ _) ?_
        iterate 4 rfl
        refine (HSo3.out _ (HU.out.trans U35)).mono ?_
        rintro o x42 ⟨vd, rfl, rd, ud⟩
        have U42 := U35.trans ud
        have HKd := hid (fun (W : World) (u : Old x42 W) => sameKeysG _ _ n3 L3.length x3 (atN L3) W (R3.out.old ((HU.out.trans U42).trans u)) ((HT3.out _ _ _ rd).old u))
        rw [← HO3.out] at HKd
        refine ⟨_, rfl, ?_⟩
        refine hK.out _ _ (SubAt.old U42 BR.out) (fun _ => ?_)
        clear hK K
        try simp only [Act.put, puA, puB, puC]
        refine rdB 13 oWt13 fun K hK => ?_
        refine wantCall2 ?_ 29 (.tmp 79) (.tmp 82) #[25, 25] ?_ (.slice a3 n3 c3) (vd) ?_ ?_ ?_ (ent_rsk _ _) ?_
        iterate 5 rfl
        refine (HKd.out _ (Old.refl _)).mono ?_
        rintro o x43 ⟨rfl, b43⟩
        have U43 := U42.trans b43
        refine ⟨_, rfl, ?_⟩
        refine hK.out _ _ (SubAt.old U43 BR.out) (fun _ => ?_)
        clear hK K
        try simp only [Act.put, puA, puB, puC]
        refine tkA (i := 14) (oi := oWt14) (SubAt.old U43 BR.out) ?_
        try simp only [Act.put, puA, puB, puC]
        refine tkA (i := 15) (oi := oWt15) (SubAt.old U43 BR.out) ?_
        try simp only [Act.put, puA, puB, puC]
        refine tkA (i := 16) (oi := oWt16) (SubAt.old U43 BR.out) ?_
        try simp only [Act.put, puA, puB, puC]
        refine tkA (i := 17) (oi := oWt17) (SubAt.old U43 BR.out) ?_
        try simp only [Act.put, puA, puB, puC]
        refine tkA (i := 18) (oi := oWt18) (SubAt.old U43 BR.out) ?_
        try simp only [Act.put, puA, puB, puC]
        refine tkA (i := 19) (oi := oWt19) (SubAt.old U43 BR.out) ?_
        try simp only [Act.put, puA, puB, puC]
        refine tkA (i := 20) (oi := oWt20) (SubAt.old U43 BR.out) ?_
        try simp only [Act.put, puA, puB, puC]
        refine rdB 21 oWt21 fun K hK => ?_
        refine wantCall1 ?_ 56 (.tmp 90) #[26] ?_ (.slice a2 j c2) ?_ ?_ (ent_rnorm _ _) ?_
        iterate 4 rfl
        refine (HNm.out _ (HU.out.trans U43)).mono ?_
        rintro o x51 ⟨vf, rfl, rf, uf⟩
        have U51 := U43.trans uf
        have HSf := hid (fun (W : World) (u : Old x51 W) => HX2.out vf _ W (rf.old u))
        refine ⟨_, rfl, ?_⟩
        refine hK.out _ _ (SubAt.old U51 BR.out) (fun _ => ?_)
        clear hK K
        try simp only [Act.put, puA, puB, puC]
        refine rdB 22 oWt22 fun K hK => ?_
        refine wantCall1 ?_ 55 (.tmp 91) #[94] ?_ (vf) ?_ ?_ (ent_rspans _ _) ?_
        iterate 4 rfl
        refine (HSf.out _ (Old.refl _)).mono ?_
        rintro o x52 ⟨vg, rfl, rg, ug⟩
        have U52 := U51.trans ug
        have HSg := hid (fun (W : World) (u : Old x52 W) => sameSpansG _ _ j D.length f2 (atS (D.map Fl.spo)) W (R2.out.old ((HU.out.trans U52).trans u)) ((HT2.out _ _ _ rg).old u))
        rw [← HO2.out] at HSg
        refine ⟨_, rfl, ?_⟩
        refine hK.out _ _ (SubAt.old U52 BR.out) (fun _ => ?_)
        clear hK K
        try simp only [Act.put, puA, puB, puC]
        refine rdB 23 oWt23 fun K hK => ?_
        refine wantCall2 ?_ 30 (.tmp 88) (.tmp 92) #[26, 26] ?_ (.slice a2 j c2) (vg) ?_ ?_ ?_ (ent_rsame _ _) ?_
        iterate 5 rfl
        refine (HSg.out _ (Old.refl _)).mono ?_
        rintro o x53 ⟨rfl, b53⟩
        have U53 := U52.trans b53
        refine ⟨_, rfl, ?_⟩
        refine hK.out _ _ (SubAt.old U53 BR.out) (fun _ => ?_)
        clear hK K
        try simp only [Act.put, puA, puB, puC]
        refine tkA (i := 24) (oi := oWt24) (SubAt.old U53 BR.out) ?_
        try simp only [Act.put, puA, puB, puC]
        refine tkA (i := 25) (oi := oWt25) (SubAt.old U53 BR.out) ?_
        try simp only [Act.put, puA, puB, puC]
        refine wpAnyH_done (by kernel_rfl) ?_ _
        refine NoPanic.normal ?_
        have U9 := hid U53
        go_wp2
        go_ret
        exact ⟨by rw [HZ.out]; first | rfl | (rw [Bool.and_false]; rfl), HU.out.trans U9.out⟩
       ·refine wp_region_noPanic ?_
        refine wp_region_held_drew (S := SubAt sb s1 s2 s3 (.slice a1 n1 c1) (.slice a2 j c2) (.slice a3 n3 c3)) (by kernel_rfl) ?_ (fun hHeld => ?_)
        ·exact SubAt.old ((Old.refl wr).drew) BR.out
        try simp only [Act.put, puA, puB, puC]
        clear hHeld
        refine tkA (i := 0) (oi := oWt0) (SubAt.old ((Old.refl wr).drew) BR.out) ?_
        try simp only [Act.put, puA, puB, puC]
        refine tkA (i := 1) (oi := oWt1) (SubAt.old ((Old.refl wr).drew) BR.out) ?_
        try simp only [Act.put, puA, puB, puC]
        refine tkA (i := 2) (oi := oWt2) (SubAt.old ((Old.refl wr).drew) BR.out) ?_
        try simp only [Act.put, puA, puB, puC]
        refine tkA (i := 3) (oi := oWt3) (SubAt.old ((Old.refl wr).drew) BR.out) ?_
        try simp only [Act.put, puA, puB, puC]
        refine rdB 4 oWt4 fun K hK => ?_
        refine wantCall1 ?_ 54 (.tmp 73) #[25] ?_ (.slice a1 n1 c1) ?_ ?_ (ent_rsort _ _) ?_
        iterate 4 rfl
        refine (HSo1.out _ (HU.out.trans ((Old.refl wr).drew))).mono ?_
        rintro o x60 ⟨va, rfl, ra, ua⟩
        have U60 := ((Old.refl wr).drew).trans ua
        have HKa := hid (fun (W : World) (u : Old x60 W) => sameKeysG _ _ n1 L1.length x1 (atN L1) W (R1.out.old ((HU.out.trans U60).trans u)) ((HT1.out _ _ _ ra).old u))
        rw [← HO1.out] at HKa
        refine ⟨_, rfl, ?_⟩
        refine hK.out _ _ (SubAt.old U60 BR.out) (fun _ => ?_)
        clear hK K
        try simp only [Act.put, puA, puB, puC]
        refine rdB 5 oWt5 fun K hK => ?_
        refine wantCall2 ?_ 29 (.tmp 71) (.tmp 74) #[25, 25] ?_ (.slice a1 n1 c1) (va) ?_ ?_ ?_ (ent_rsk _ _) ?_
        iterate 5 rfl
        refine (HKa.out _ (Old.refl _)).mono ?_
        rintro o x61 ⟨rfl, b61⟩
        have U61 := U60.trans b61
        refine ⟨_, rfl, ?_⟩
        refine hK.out _ _ (SubAt.old U61 BR.out) (fun _ => ?_)
        clear hK K
        try simp only [Act.put, puA, puB, puC]
        refine tkA (i := 6) (oi := oWt6) (SubAt.old U61 BR.out) ?_
        try simp only [Act.put, puA, puB, puC]
        refine tkA (i := 7) (oi := oWt7) (SubAt.old U61 BR.out) ?_
        try simp only [Act.put, puA, puB, puC]
        refine tkA (i := 8) (oi := oWt8) (SubAt.old U61 BR.out) ?_
        try simp only [Act.put, puA, puB, puC]
        refine tkA (i := 9) (oi := oWt9) (SubAt.old U61 BR.out) ?_
        try simp only [Act.put, puA, puB, puC]
        refine tkA (i := 10) (oi := oWt10) (SubAt.old U61 BR.out) ?_
        try simp only [Act.put, puA, puB, puC]
        refine tkA (i := 11) (oi := oWt11) (SubAt.old U61 BR.out) ?_
        try simp only [Act.put, puA, puB, puC]
        refine rdB 12 oWt12 fun K hK => ?_
        refine wantCall1 ?_ 54 (.tmp 81) #[25] ?_ (.slice a3 n3 c3) ?_ ?_ (ent_rsort _ _) ?_
        iterate 4 rfl
        refine (HSo3.out _ (HU.out.trans U61)).mono ?_
        rintro o x68 ⟨vd, rfl, rd, ud⟩
        have U68 := U61.trans ud
        have HKd := hid (fun (W : World) (u : Old x68 W) => sameKeysG _ _ n3 L3.length x3 (atN L3) W (R3.out.old ((HU.out.trans U68).trans u)) ((HT3.out _ _ _ rd).old u))
        rw [← HO3.out] at HKd
        refine ⟨_, rfl, ?_⟩
        refine hK.out _ _ (SubAt.old U68 BR.out) (fun _ => ?_)
        clear hK K
        try simp only [Act.put, puA, puB, puC]
        refine rdB 13 oWt13 fun K hK => ?_
        refine wantCall2 ?_ 29 (.tmp 79) (.tmp 82) #[25, 25] ?_ (.slice a3 n3 c3) (vd) ?_ ?_ ?_ (ent_rsk _ _) ?_
        iterate 5 rfl
        refine (HKd.out _ (Old.refl _)).mono ?_
        rintro o x69 ⟨rfl, b69⟩
        have U69 := U68.trans b69
        refine ⟨_, rfl, ?_⟩
        refine hK.out _ _ (SubAt.old U69 BR.out) (fun _ => ?_)
        clear hK K
        try simp only [Act.put, puA, puB, puC]
        refine tkA (i := 14) (oi := oWt14) (SubAt.old U69 BR.out) ?_
        try simp only [Act.put, puA, puB, puC]
        refine tkA (i := 15) (oi := oWt15) (SubAt.old U69 BR.out) ?_
        try simp only [Act.put, puA, puB, puC]
        refine tkA (i := 16) (oi := oWt16) (SubAt.old U69 BR.out) ?_
        try simp only [Act.put, puA, puB, puC]
        refine tkA (i := 17) (oi := oWt17) (SubAt.old U69 BR.out) ?_
        try simp only [Act.put, puA, puB, puC]
        refine tkA (i := 18) (oi := oWt18) (SubAt.old U69 BR.out) ?_
        try simp only [Act.put, puA, puB, puC]
        refine tkA (i := 19) (oi := oWt19) (SubAt.old U69 BR.out) ?_
        try simp only [Act.put, puA, puB, puC]
        refine tkA (i := 20) (oi := oWt20) (SubAt.old U69 BR.out) ?_
        try simp only [Act.put, puA, puB, puC]
        refine rdB 21 oWt21 fun K hK => ?_
        refine wantCall1 ?_ 56 (.tmp 90) #[26] ?_ (.slice a2 j c2) ?_ ?_ (ent_rnorm _ _) ?_
        iterate 4 rfl
        refine (HNm.out _ (HU.out.trans U69)).mono ?_
        rintro o x77 ⟨vf, rfl, rf, uf⟩
        have U77 := U69.trans uf
        have HSf := hid (fun (W : World) (u : Old x77 W) => HX2.out vf _ W (rf.old u))
        refine ⟨_, rfl, ?_⟩
        refine hK.out _ _ (SubAt.old U77 BR.out) (fun _ => ?_)
        clear hK K
        try simp only [Act.put, puA, puB, puC]
        refine rdB 22 oWt22 fun K hK => ?_
        refine wantCall1 ?_ 55 (.tmp 91) #[94] ?_ (vf) ?_ ?_ (ent_rspans _ _) ?_
        iterate 4 rfl
        refine (HSf.out _ (Old.refl _)).mono ?_
        rintro o x78 ⟨vg, rfl, rg, ug⟩
        have U78 := U77.trans ug
        have HSg := hid (fun (W : World) (u : Old x78 W) => sameSpansG _ _ j D.length f2 (atS (D.map Fl.spo)) W (R2.out.old ((HU.out.trans U78).trans u)) ((HT2.out _ _ _ rg).old u))
        rw [← HO2.out] at HSg
        refine ⟨_, rfl, ?_⟩
        refine hK.out _ _ (SubAt.old U78 BR.out) (fun _ => ?_)
        clear hK K
        try simp only [Act.put, puA, puB, puC]
        refine rdB 23 oWt23 fun K hK => ?_
        refine wantCall2 ?_ 30 (.tmp 88) (.tmp 92) #[26, 26] ?_ (.slice a2 j c2) (vg) ?_ ?_ ?_ (ent_rsame _ _) ?_
        iterate 5 rfl
        refine (HSg.out _ (Old.refl _)).mono ?_
        rintro o x79 ⟨rfl, b79⟩
        have U79 := U78.trans b79
        refine ⟨_, rfl, ?_⟩
        refine hK.out _ _ (SubAt.old U79 BR.out) (fun _ => ?_)
        clear hK K
        try simp only [Act.put, puA, puB, puC]
        refine tkA (i := 24) (oi := oWt24) (SubAt.old U79 BR.out) ?_
        try simp only [Act.put, puA, puB, puC]
        refine tkA (i := 25) (oi := oWt25) (SubAt.old U79 BR.out) ?_
        try simp only [Act.put, puA, puB, puC]
        refine wpAnyH_done (by kernel_rfl) ?_ _
        refine NoPanic.normal ?_
        have U9 := hid U79
        go_wp2
        go_ret
        exact ⟨by rw [HZ.out]; first | rfl | (rw [Bool.and_false]; rfl), HU.out.trans U9.out⟩
  ·go_wp2_with (first | (go_at_call_of 51 (Value.slice a1 n1 c1); refine (K1.out _ HV.out).mono ?_; rintro o w5 ⟨rfl, u5⟩; have U5 := hid (HV.out.trans u5); have B5 := hid (SubAt.old u5 HS.out); obtain ⟨_, _, _, g3, g4, g5⟩ := B5.out; clear u5) | (go_at_call_of 51 (Value.slice a3 n3 c3); refine (K3.out _ U5.out).mono ?_; rintro o w6 ⟨rfl, u6⟩; have U6 := hid (U5.out.trans u6); have B6 := hid (SubAt.old u6 B5.out); clear u6))
   go_ret
   exact ⟨rfl, U6.out⟩
 ·go_wp2_with (first | (go_at_call_of 51 (Value.slice a1 n1 c1); refine (K1.out _ HV.out).mono ?_; rintro o w5 ⟨rfl, u5⟩; have U5 := hid (HV.out.trans u5); have B5 := hid (SubAt.old u5 HS.out); obtain ⟨_, _, _, g3, g4, g5⟩ := B5.out; clear u5))
  go_ret
  exact ⟨rfl, U5.out⟩
theorem refChk_any (s1 s2 s3 : Int) (a1 a2 a3 : Option Addr) (n1 n2 n3 c1 c2 c3 : Nat) (x1 x3 : Nat → Nat) (f2 : Nat → Sp) (w : World)
    (h1 : FRow w (.slice a1 n1 c1) n1 x1) (h2 : SRow w (.slice a2 n2 c2) n2 f2) (h3 : FRow w (.slice a3 n3 c3) n3 x3) :
    Calls Tryz.prog 28 #[.agg #[.int .i64 s1, .int .i64 s2, .int .i64 s3, .slice a1 n1 c1, .slice a2 n2 c2, .slice a3 n3 c3]] w fun e w' => e = .returned (.int .i64 (chkV s1 s2 s3 n1 n2 n3 x1 x3 f2)) ∧ Old w w' := by
 cases hm : misB s1 s2 s3
 ·cases hc : crowdB n1 n2 n3
  ·have q := refCheck_rest s1 s2 s3 a1 a2 a3 n1 n2 n3 c1 c2 c3 x1 x3 f2 w hm hc h1 h2 h3
   unfold chkV
   rw [hm, hc]
   exact q
  ·have q := refCheck_early s1 s2 s3 a1 a2 a3 n1 n2 n3 c1 c2 c3 w (.inr ⟨hm, hc⟩)
   unfold chkV
   rw [hm, hc]
   rw [hm] at q
   exact q
 ·have q := refCheck_early s1 s2 s3 a1 a2 a3 n1 n2 n3 c1 c2 c3 w (.inl hm)
  unfold chkV
  rw [hm]
  rw [hm] at q
  exact q
end Go.Proofs.YtajoodkapiifcaaGreat
