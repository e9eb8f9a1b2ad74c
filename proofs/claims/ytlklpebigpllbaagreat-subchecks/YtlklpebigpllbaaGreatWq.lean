/- sub.Check at every submission; conditions: the lengths fit. -/
import Derived.Test.YtlklpebigpllbaaGreatWp
namespace Go.Proofs.YtlklpebigpllbaaGreat
open Go.RowKit Go.Lib
set_option linter.unusedVariables false
set_option linter.unusedSimpArgs false
set_option maxRecDepth 20000
theorem sp_ext {s t : Sp} (h : spEq s t = true) : s = t := by
  obtain ⟨a, b, p, q⟩ := s
  obtain ⟨a', b', p', q'⟩ := t
  simp [spEq] at h
  simp [h]
theorem spEq_false {s t : Sp} (h : spEq s t = false) : s ≠ t := fun e => by subst e; simp [spEq] at h
theorem ordE (a b : Nat) (ha : Fl.W a) (hb : Fl.W b) : (FloatKind.f64.format.order a b == some .eq) = (!Fl.nan a && !Fl.nan b && decide (Fl.code b = Fl.code a)) := (Fl.ord_gt_code a b ha hb).2.1
abbrev P82 (m : Nat) (s t : Sp) (w : World) : Prop := SpAt m s.a s.b s.p s.q w ∧ SpAt (m + 1) t.a t.b t.p t.q w
theorem sp_new (w : World) (a b : Nat) (p q : Bool) (w1 : World) (e : w.alloc (.cells #[.float .f64 a, .float .f64 b, .bool p, .bool q] 34) = w1) (m : Nat) (hm : w.heap.size = m) : SpAt m a b p q w1 ∧ Old w w1 := by
  subst e hm
  exact ⟨by simp [SpAt], (Old.refl w).alloc _⟩
theorem SpAt.oldq {m a b : Nat} {p q : Bool} {w w' : World} (u : Old w w') (h : SpAt m a b p q w) : SpAt m a b p q w' := ⟨u.keep h.1, u.keep h.2.1, u.keep h.2.2.1, u.keep h.2.2.2⟩
attribute [local go_sem] run_bits run_frombits run_store_float eqF
set_option maxHeartbeats 400000 in
set_option maxRecDepth 20000 in
theorem alike_any (a b : Nat) (ha : Fl.W a) (hb : Fl.W b) (w : World) : Calls Tryz.prog 29 #[.float .f64 a, .float .f64 b] w fun e w' => e = .returned (.bool (decide (a = b))) ∧ w' = w := by
  go_enter Tryz.func29, Tryz.ntmps29
  go_wp2
  go_ret
  refine ⟨ret_b ?_, rfl⟩
  by_cases e : a = b
  · subst e; simp
  · have : ((a : Int) == (b : Int)) = false := by rw [beq_eq_false_iff_ne]; omega
    simp [this, e]
set_option maxHeartbeats 1000000 in
set_option maxRecDepth 20000 in
theorem spansAlike_any (s t : Sp) (h1 : Fl.W s.a) (h2 : Fl.W s.b) (h3 : Fl.W t.a) (h4 : Fl.W t.b) (na : Fl.nan s.a = false) (nb : Fl.nan s.b = false) (w : World) :
    Calls Tryz.prog 31 #[.agg #[.float .f64 s.a, .float .f64 s.b, .bool s.p, .bool s.q], .agg #[.float .f64 t.a, .float .f64 t.b, .bool t.p, .bool t.q]] w fun e w' => e = .returned (.bool (spEq s t)) ∧ Old w w' := by
  have HO1 := ordE s.a t.a h1 h3
  have HO2 := ordE s.b t.b h2 h4
  rw [na] at HO1
  rw [nb] at HO2
  have A1 := hid (fun W => alike_any s.a t.a h1 h3 W)
  have A2 := hid (fun W => alike_any s.b t.b h2 h4 W)
  have HE := hid (show spEq s t = ((s.p == t.p) && (s.q == t.q) && (decide (s.a = t.a) && decide (s.b = t.b))) from rfl)
  have HV := hid (((Old.refl w).alloc (.cells #[.float .f64 s.a, .float .f64 s.b, .bool s.p, .bool s.q] 34)).alloc (.cells #[.float .f64 t.a, .float .f64 t.b, .bool t.p, .bool t.q] 34))
  by_cases e1 : s.a = t.a
  · by_cases e2 : s.b = t.b
    · have o1 : (FloatKind.f64.format.order s.a t.a == some .eq) = true := by rw [HO1, ← e1, na]; simp
      have o2 : (FloatKind.f64.format.order s.b t.b == some .eq) = true := by rw [HO2, ← e2, nb]; simp
      rw [decide_eq_true e1] at A1 HE
      rw [decide_eq_true e2] at A2 HE
      clear HO1 HO2 e1 e2
      generalize spEq s t = r at *
      generalize s.p = sp at *
      generalize t.p = tp at *
      generalize s.q = sq at *
      generalize t.q = tq at *
      cases hp : (sp == tp)
      · rw [hp] at HE
        go_enter Tryz.func31, Tryz.ntmps31
        go_wp2_with (first | (go_at_call_of 29 (Value.float .f64 t.a); refine (A1.out _).mono ?_; rintro e w5 ⟨rfl, hq⟩; have hq2 := hq.symm; subst hq2) | (go_at_call_of 29 (Value.float .f64 t.b); refine (A2.out _).mono ?_; rintro e w6 ⟨rfl, hq⟩; have hq2 := hq.symm; subst hq2))
        all_goals go_ret
        all_goals exact ⟨by rw [HE.out]; simp, ((Old.refl w).alloc _).alloc _⟩
      · rw [hp] at HE
        cases hq0 : (sq == tq)
        · rw [hq0] at HE
          go_enter Tryz.func31, Tryz.ntmps31
          go_wp2_with (first | (go_at_call_of 29 (Value.float .f64 t.a); refine (A1.out _).mono ?_; rintro e w5 ⟨rfl, hq⟩; have hq2 := hq.symm; subst hq2) | (go_at_call_of 29 (Value.float .f64 t.b); refine (A2.out _).mono ?_; rintro e w6 ⟨rfl, hq⟩; have hq2 := hq.symm; subst hq2))
          all_goals go_ret
          all_goals exact ⟨by rw [HE.out]; simp, ((Old.refl w).alloc _).alloc _⟩
        · rw [hq0] at HE
          go_enter Tryz.func31, Tryz.ntmps31
          go_wp2_with (first | (go_at_call_of 29 (Value.float .f64 t.a); refine (A1.out _).mono ?_; rintro e w5 ⟨rfl, hq⟩; have hq2 := hq.symm; subst hq2) | (go_at_call_of 29 (Value.float .f64 t.b); refine (A2.out _).mono ?_; rintro e w6 ⟨rfl, hq⟩; have hq2 := hq.symm; subst hq2))
          all_goals go_ret
          all_goals exact ⟨by rw [HE.out]; simp, ((Old.refl w).alloc _).alloc _⟩
    · have HE2 := hid (show spEq s t = false by rw [HE.out, decide_eq_false e2]; simp)
      rw [decide_eq_true e1] at A1
      rw [decide_eq_false e2] at A2
      rw [HE2.out]
      clear HO1 HO2 e1 e2 HE HE2
      go_enter Tryz.func31, Tryz.ntmps31
      go_wp2_with (first | (go_at_call_of 29 (Value.float .f64 t.a); refine (A1.out _).mono ?_; rintro e w5 ⟨rfl, hq⟩; have hq2 := hq.symm; subst hq2) | (go_at_call_of 29 (Value.float .f64 t.b); refine (A2.out _).mono ?_; rintro e w6 ⟨rfl, hq⟩; have hq2 := hq.symm; subst hq2))
      all_goals go_ret
      all_goals exact ⟨rfl, ((Old.refl w).alloc _).alloc _⟩
  · have HE2 := hid (show spEq s t = false by rw [HE.out, decide_eq_false e1]; simp)
    rw [decide_eq_false e1] at A1
    rw [HE2.out]
    clear HO1 HO2 e1 HE HE2 A2
    go_enter Tryz.func31, Tryz.ntmps31
    go_wp2_with (first | (go_at_call_of 29 (Value.float .f64 t.a); refine (A1.out _).mono ?_; rintro e w5 ⟨rfl, hq⟩; have hq2 := hq.symm; subst hq2))
    all_goals go_ret
    all_goals exact ⟨rfl, ((Old.refl w).alloc _).alloc _⟩
set_option maxHeartbeats 1000000 in
set_option maxRecDepth 20000 in
theorem equalF_any (v1 v2 : Value) (n m : Nat) (x y : Nat → Nat) (w : World) (h1 : FRow w v1 n x) (h2 : FRow w v2 m y) :
    Calls Tryz.prog 28 #[v1, v2, .func (.func 29) #[] #[]] w fun e w' => e = .returned (.bool (decide (n = m) && Fl.sameU x y n)) ∧ Old w w' := by
  obtain ⟨hb, a, c, rfl, hc⟩ := h1
  obtain ⟨hb', a', c', rfl, hc'⟩ := h2
  by_cases e : n = m
  · subst e
    rw [decide_eq_true rfl, Bool.true_and]
    have HC := hid hc
    have HC' := hid hc'
    clear hc hc' hb'
    go_enter Tryz.func28, Tryz.ntmps28
    go_wp2
    go_loopw [17] (fun i wr => ∃ j : Nat, j ≤ n ∧ i = .int .i64 (j : Nat) ∧ Fl.sameU x y j = true ∧ Old w wr) (fun i _ => n - (intOf i).toNat)
    case atStart => exact ⟨0, Nat.zero_le _, rfl, rfl, Old.refl _⟩
    case round =>
      obtain ⟨j, hj, rfl, hs, hu⟩ := hrel
      have HSU := hid hs
      have HU := hid hu
      clear hs hu
      by_cases hlt : j < n
      · obtain ⟨b, off, ha, hW, c0⟩ := HC.out j hlt
        obtain ⟨b', off', ha', hW', d0⟩ := HC'.out j hlt
        subst ha ha'
        have x0 := HU.out.keep c0
        have y0 := HU.out.keep d0
        have HA := hid (fun W => alike_any (x j) (y j) hW hW' W)
        have l1 : (0 : Int) ≤ (j : Int) := by omega
        have l2 : (j : Int) < (n : Int) := by omega
        clear c0 d0 hW hW'
        have HSt := hid (show Fl.sameU x y (j + 1) = (Fl.sameU x y j && decide (x j = y j)) from rfl)
        have HFl := hid (fun (e : ¬ x j = y j) => Fl.sameU_false x y n j hlt e)
        generalize hs1 : x j = s1 at *
        generalize hs2 : y j = s2 at *
        clear hs1 hs2
        by_cases hq : s1 = s2
        · have HF := hid (show Fl.sameU x y (j + 1) = true by rw [HSt.out, HSU.out, decide_eq_true hq, Bool.and_true])
          rw [decide_eq_true hq] at HA
          clear hq HFl HSt
          go_wp2_with (first | (go_at_call 29; refine (HA.out _).mono ?_; rintro e w5 ⟨rfl, hq⟩; have hq2 := hq.symm; subst hq2))
          go_roundw
          case rel => exact ⟨j + 1, hlt, by go_num, HF.out, HU.out⟩
          case measure => simp [intOf]; omega
        · have HF := hid (HFl.out hq)
          rw [decide_eq_false hq] at HA
          clear hq HFl HSt
          go_wp2_with (first | (go_at_call 29; refine (HA.out _).mono ?_; rintro e w5 ⟨rfl, hq⟩; have hq2 := hq.symm; subst hq2))
          go_ret
          exact ⟨ret_b HF.out.symm, HU.out⟩
      · obtain rfl : j = n := by omega
        go_wp2
        go_ret
        exact ⟨ret_b HSU.out.symm, HU.out⟩
  · rw [decide_eq_false e, Bool.false_and]
    have t : ((n : Int) != (m : Int)) = true := by rw [bne_iff_ne]; omega
    clear e hc hc'
    go_enter Tryz.func28, Tryz.ntmps28
    go_wp2
    go_ret
    exact ⟨rfl, Old.refl _⟩
set_option maxHeartbeats 1000000 in
set_option maxRecDepth 20000 in
theorem equalS_any (v1 v2 : Value) (n m : Nat) (f g : Nat → Sp) (w : World) (h1 : SRow w v1 n f) (h2 : SRow w v2 m g) (hn : ∀ i, i < n → Fl.nan (f i).a = false ∧ Fl.nan (f i).b = false) :
    Calls Tryz.prog 30 #[v1, v2, .func (.func 31) #[] #[]] w fun e w' => e = .returned (.bool (decide (n = m) && Fl.spU f g n)) ∧ Old w w' := by
  obtain ⟨hb, a, c, rfl, hc⟩ := h1
  obtain ⟨hb', a', c', rfl, hc'⟩ := h2
  by_cases e : n = m
  · subst e
    rw [decide_eq_true rfl, Bool.true_and]
    have HC := hid hc
    have HC' := hid hc'
    have HNn := hid hn
    clear hc hc' hb' hn
    go_enter Tryz.func30, Tryz.ntmps30
    go_wp2
    go_loopw [17] (fun i wr => ∃ j : Nat, j ≤ n ∧ i = .int .i64 (j : Nat) ∧ Fl.spU f g j = true ∧ Old w wr) (fun i _ => n - (intOf i).toNat)
    case atStart => exact ⟨0, Nat.zero_le _, rfl, rfl, Old.refl _⟩
    case round =>
      obtain ⟨j, hj, rfl, hs, hu⟩ := hrel
      have HSU := hid hs
      have HU := hid hu
      clear hs hu
      by_cases hlt : j < n
      · obtain ⟨b, off, ha, hW, hWb, c0, c1, c2, c3⟩ := HC.out j hlt
        obtain ⟨b', off', ha', hW', hWb', d0, d1, d2, d3⟩ := HC'.out j hlt
        subst ha ha'
        have x0 := HU.out.keep c0
        have x1 := HU.out.keep c1
        have x2 := HU.out.keep c2
        have x3 := HU.out.keep c3
        have y0 := HU.out.keep d0
        have y1 := HU.out.keep d1
        have y2 := HU.out.keep d2
        have y3 := HU.out.keep d3
        have hnn := HNn.out j hlt
        have HA := hid (fun W => spansAlike_any (f j) (g j) hW hWb hW' hWb' hnn.1 hnn.2 W)
        have l1 : (0 : Int) ≤ (j : Int) := by omega
        have l2 : (j : Int) < (n : Int) := by omega
        clear c0 c1 c2 c3 d0 d1 d2 d3 hW hW' hWb hWb' hnn
        have HSt := hid (show Fl.spU f g (j + 1) = (Fl.spU f g j && spEq (f j) (g j)) from rfl)
        have HFl := hid (fun (e : spEq (f j) (g j) = false) => Fl.spU_false f g n j hlt e)
        generalize hs1 : f j = s1 at *
        generalize hs2 : g j = s2 at *
        clear hs1 hs2
        go_upto_region 6 with fail
        generalize hwa : wr.alloc (.cells #[.float .f64 s1.a, .float .f64 s1.b, .bool s1.p, .bool s1.q] 34) = wa at *
        generalize hba : wr.heap.size = ba at *
        obtain ⟨hA, uA⟩ := sp_new wr _ _ _ _ wa hwa ba hba
        have z0 := uA.keep y0
        have z1 := uA.keep y1
        have z2 := uA.keep y2
        have z3 := uA.keep y3
        clear hwa hba x0 x1 x2 x3 y0 y1 y2 y3
        go_upto_region 7 with fail
        generalize hwb : wa.alloc (.cells #[.float .f64 s2.a, .float .f64 s2.b, .bool s2.p, .bool s2.q] 34) = wb at *
        generalize hbb : wa.heap.size = bb at *
        obtain ⟨⟨e0, e1, e2, e3⟩, uB⟩ := sp_new wa _ _ _ _ wb hwb bb hbb
        obtain ⟨d0, d1, d2, d3⟩ := SpAt.oldq uB hA
        have HV := hid ((HU.out.trans uA).trans uB)
        clear hwb hbb uA uB hA z0 z1 z2 z3
        cases hq : spEq s1 s2
        · have HF := hid (HFl.out hq)
          rw [hq] at HA
          clear hq HFl HSt
          go_wp2_with (first | (go_at_call 31; refine (HA.out _).mono ?_; rintro e w5 ⟨rfl, u5⟩; have U5 := hid u5; clear u5))
          go_ret
          exact ⟨ret_b HF.out.symm, HV.out.trans U5.out⟩
        · have HF := hid (show Fl.spU f g (j + 1) = true by rw [HSt.out, HSU.out, hq, Bool.and_true])
          rw [hq] at HA
          clear hq HFl HSt
          go_wp2_with (first | (go_at_call 31; refine (HA.out _).mono ?_; rintro e w5 ⟨rfl, u5⟩; have U5 := hid u5; clear u5))
          go_roundw
          case rel => exact ⟨j + 1, hlt, by go_num, HF.out, HV.out.trans U5.out⟩
          case measure => simp [intOf]; omega
      · obtain rfl : j = n := by omega
        go_wp2
        go_ret
        exact ⟨ret_b HSU.out.symm, HU.out⟩
  · rw [decide_eq_false e, Bool.false_and]
    have t : ((n : Int) != (m : Int)) = true := by rw [bne_iff_ne]; omega
    clear e hc hc'
    go_enter Tryz.func30, Tryz.ntmps30
    go_wp2
    go_ret
    exact ⟨rfl, Old.refl _⟩
end Go.Proofs.YtlklpebigpllbaaGreat
