/- The document's SameKeys and Same at any two rows; no condition. -/
import Derived.Test.YtbkbnfgjkefcmaaGreatWh
import Derived.Sort.AtCall
import Derived.SizedLaws
import Derived.ProofKit
import Derived.OpenShut
import Derived.Lib.SmallJoins
namespace Go.Proofs.YtbkbnfgjkefcmaaGreat
open Go.RowKit Go.Lib
set_option linter.unusedVariables false
set_option linter.unusedSimpArgs false
set_option maxRecDepth 20000
def spEq (s t : Sp) : Bool := (s.p == t.p) && (s.q == t.q) && (decide (s.a = t.a) && decide (s.b = t.b))
namespace Fl
def spU (f g : Nat → Sp) : Nat → Bool | 0 => true | n + 1 => spU f g n && spEq (f n) (g n)
theorem spU_false (f g : Nat → Sp) : ∀ n k, k < n → spEq (f k) (g k) = false → spU f g n = false
  | n + 1, k, h, e => by
    show (spU f g n && spEq (f n) (g n)) = false
    by_cases q : k = n
    · subst q; rw [e, Bool.and_false]
    · rw [spU_false f g n k (by omega) e]; rfl
end Fl
theorem FRow.nlen {w : World} {v : Value} {n : Nat} {x : Nat → Nat} (h : FRow w v n x) : n ≤ 9223372036854775807 ∧ ∃ a c, v = .slice a n c := by
  obtain ⟨h1, a, c, e, _⟩ := h
  exact ⟨h1, a, c, e⟩
theorem SRow.nlen {w : World} {v : Value} {n : Nat} {f : Nat → Sp} (h : SRow w v n f) : ∃ a c, v = .slice a n c := by
  obtain ⟨h1, a, c, e, _⟩ := h
  exact ⟨a, c, e⟩
abbrev X82 (b o b' o' : Nat) (s t : Sp) (w : World) : Prop := (w.cell? ⟨b, o, none⟩ = some (.float .f64 s.a) ∧ w.cell? ⟨b, o + 1, none⟩ = some (.float .f64 s.b) ∧ w.cell? ⟨b, o + 2, none⟩ = some (.bool s.p) ∧ w.cell? ⟨b, o + 3, none⟩ = some (.bool s.q)) ∧ w.cell? ⟨b', o', none⟩ = some (.float .f64 t.a) ∧ w.cell? ⟨b', o' + 1, none⟩ = some (.float .f64 t.b) ∧ w.cell? ⟨b', o' + 2, none⟩ = some (.bool t.p) ∧ w.cell? ⟨b', o' + 3, none⟩ = some (.bool t.q)
theorem X82.old {b o b' o' : Nat} {s t : Sp} {w w' : World} (u : Old w w') (h : X82 b o b' o' s t w) : X82 b o b' o' s t w' := ⟨⟨u.keep h.1.1, u.keep h.1.2.1, u.keep h.1.2.2.1, u.keep h.1.2.2.2⟩, u.keep h.2.1, u.keep h.2.2.1, u.keep h.2.2.2.1, u.keep h.2.2.2.2⟩
attribute [local go_sem] run_bits run_frombits run_store_float eqF
set_option maxHeartbeats 400000 in
set_option maxRecDepth 20000 in
theorem sameKeys_ne (a b : Option Addr) (n m c d : Nat) (h : n ≠ m) (w : World) : Calls Tryz.prog 40 #[.slice a n c, .slice b m d] w fun e w' => e = .returned (.bool false) ∧ w' = w := by
  have t : ((n : Int) != (m : Int)) = true := by rw [bne_iff_ne]; omega
  clear h
  go_enter Tryz.func40, Tryz.ntmps40
  go_wp2
  go_ret
  exact ⟨rfl, rfl⟩
theorem sameKeysG (v1 v2 : Value) (n m : Nat) (x y : Nat → Nat) (w : World) (h1 : FRow w v1 n x) (h2 : FRow w v2 m y) :
    Calls Tryz.prog 40 #[v1, v2] w fun e w' => e = .returned (.bool (decide (n = m) && Fl.sameU x y n)) ∧ Old w w' := by
  by_cases e : n = m
  · subst e
    rw [decide_eq_true rfl, Bool.true_and]
    have hb := h1.nlen.1
    rcases h1.cases with ⟨rfl, a, c, rfl⟩ | ⟨hn, b, off, c, rfl, hc⟩
    · obtain ⟨_, a', c', rfl⟩ := h2.nlen
      exact (sameKeys_none a a' c c' w).mono fun e w' h => ⟨h.1, by rw [h.2]; exact Old.refl _⟩
    · rcases h2.cases with ⟨h0, _⟩ | ⟨_, b', off', c', rfl, hc'⟩
      · omega
      · exact (sameKeys_any b off c b' off' c' n x y (by unfold maxLen; omega) w (fun i hi => (hc i hi).2) (fun i hi => (hc' i hi).2)).mono fun e w' h => ⟨h.1, h.2.old⟩
  · rw [decide_eq_false e, Bool.false_and]
    obtain ⟨_, a, c, rfl⟩ := h1.nlen
    obtain ⟨_, a', c', rfl⟩ := h2.nlen
    exact (sameKeys_ne a a' n m c c' e w).mono fun e w' h => ⟨h.1, by rw [h.2]; exact Old.refl _⟩
set_option maxHeartbeats 400000 in
set_option maxRecDepth 20000 in
theorem sameSpans_ne (a b : Option Addr) (n m c d : Nat) (h : n ≠ m) (w : World) : Calls Tryz.prog 42 #[.slice a n c, .slice b m d] w fun e w' => e = .returned (.bool false) ∧ w' = w := by
  have t : ((n : Int) != (m : Int)) = true := by rw [bne_iff_ne]; omega
  clear h
  go_enter Tryz.func42, Tryz.ntmps42
  go_wp2
  go_ret
  exact ⟨rfl, rfl⟩
set_option maxHeartbeats 1000000 in
set_option maxRecDepth 20000 in
theorem sameSpans_eq (v1 v2 : Value) (n : Nat) (f g : Nat → Sp) (w : World) (h1 : SRow w v1 n f) (h2 : SRow w v2 n g) :
    Calls Tryz.prog 42 #[v1, v2] w fun e w' => e = .returned (.bool (Fl.spU f g n)) ∧ Old w w' := by
  obtain ⟨hm, a, c, rfl, hc⟩ := h1
  obtain ⟨_, a', c', rfl, hc'⟩ := h2
  have HC := hid hc
  have HC' := hid hc'
  clear hc hc'
  go_enter Tryz.func42, Tryz.ntmps42
  go_wp2
  go_loopw [5] (fun i wr => ∃ j : Nat, j ≤ n ∧ i = .int .i64 (j : Nat) ∧ Fl.spU f g j = true ∧ Old w wr) (fun i _ => n - (intOf i).toNat)
  case atStart => exact ⟨0, Nat.zero_le _, rfl, rfl, Old.refl _⟩
  case round =>
    obtain ⟨j, hj, rfl, hs, hu⟩ := hrel
    have HSU := hid hs
    clear hs
    by_cases hlt : j < n
    · obtain ⟨b, off, ha, _, _, c0, c1, c2, c3⟩ := HC.out j hlt
      obtain ⟨b', off', ha', _, _, d0, d1, d2, d3⟩ := HC'.out j hlt
      subst ha ha'
      have hX : X82 b (off + j * 4) b' (off' + j * 4) (f j) (g j) wr := ⟨⟨hu.keep c0, hu.keep c1, hu.keep c2, hu.keep c3⟩, hu.keep d0, hu.keep d1, hu.keep d2, hu.keep d3⟩
      have HK0 := fun W => sameSpan_any (f j).a (f j).b (g j).a (g j).b (f j).p (f j).q (g j).p (g j).q W
      have l1 : (0 : Int) ≤ (j : Int) := by omega
      have l2 : (j : Int) < (n : Int) := by omega
      clear c0 c1 c2 c3 d0 d1 d2 d3
      have HSt := hid (show Fl.spU f g (j + 1) = (Fl.spU f g j && spEq (f j) (g j)) from rfl)
      have HFl := hid (fun (e : spEq (f j) (g j) = false) => Fl.spU_false f g n j hlt e)
      have HQ := hid (show ((f j).p == (g j).p && (f j).q == (g j).q && (decide ((f j).a = (g j).a) && decide ((f j).b = (g j).b))) = spEq (f j) (g j) from rfl)
      rw [HQ.out] at HK0
      have HK := hid HK0
      clear HK0 HQ
      generalize hs1 : f j = s1 at *
      generalize hs2 : g j = s2 at *
      clear hs1 hs2
      cases hq : spEq s1 s2
      · have HF := hid (HFl.out hq)
        rw [hq] at HK
        clear hq HFl HSt
        go_wp2_with fail
        go_region_held3 (X82 b (off + j * 4) b' (off' + j * 4) s1 s2) (first | assumption | exact hX | (refine X82.old ?_ hX; assumption)) (first | (go_at_call 70; refine (HK.out _).mono ?_; rintro o w5 ⟨rfl, u5⟩; have U5 : Old wr w5 := ((Old.refl _).drew).trans u5.old))
        all_goals go_wp2
        go_ret
        exact ⟨ret_b HF.out.symm, Old.trans hu U5⟩
      · have HF := hid (show Fl.spU f g (j + 1) = true by rw [HSt.out, HSU.out, hq, Bool.and_true])
        rw [hq] at HK
        clear hq HFl HSt
        go_wp2_with fail
        go_region_held3 (X82 b (off + j * 4) b' (off' + j * 4) s1 s2) (first | assumption | exact hX | (refine X82.old ?_ hX; assumption)) (first | (go_at_call 70; refine (HK.out _).mono ?_; rintro o w5 ⟨rfl, u5⟩; have U5 : Old wr w5 := ((Old.refl _).drew).trans u5.old))
        all_goals go_wp2
        go_roundw
        case rel => exact ⟨j + 1, hlt, by go_num, HF.out, Old.trans hu U5⟩
        case measure => simp [intOf]; omega
    · obtain rfl : j = n := by omega
      go_wp2
      go_ret
      exact ⟨ret_b HSU.out.symm, hu⟩
theorem sameSpansG (v1 v2 : Value) (n m : Nat) (f g : Nat → Sp) (w : World) (h1 : SRow w v1 n f) (h2 : SRow w v2 m g) :
    Calls Tryz.prog 42 #[v1, v2] w fun e w' => e = .returned (.bool (decide (n = m) && Fl.spU f g n)) ∧ Old w w' := by
  by_cases e : n = m
  · subst e
    rw [decide_eq_true rfl, Bool.true_and]
    exact sameSpans_eq v1 v2 n f g w h1 h2
  · rw [decide_eq_false e, Bool.false_and]
    obtain ⟨a, c, rfl⟩ := h1.nlen
    obtain ⟨a', c', rfl⟩ := h2.nlen
    exact (sameSpans_ne a a' n m c c' e w).mono fun e w' h => ⟨h.1, by rw [h.2]; exact Old.refl _⟩
end Go.Proofs.YtbkbnfgjkefcmaaGreat
namespace Go.Proofs.YtbkbnfgjkefcmaaGreat
open Go.RowKit Go.Lib
set_option linter.unusedVariables false
set_option linter.unusedSimpArgs false
set_option maxRecDepth 20000
theorem sp_ext {s t : Sp} (h : spEq s t = true) : s = t := by
  obtain ⟨a, b, p, q⟩ := s
  obtain ⟨a', b', p', q'⟩ := t
  simp [spEq] at h
  simp [h]
theorem spEq_false {s t : Sp} (h : spEq s t = false) : s ≠ t := fun e => by subst e; simp [spEq] at h
theorem ordE (a b : Nat) (ha : Fl.W a) (hb : Fl.W b) : (FloatKind.f64.format.order a b == some .eq) = (!Fl.nan a && !Fl.nan b && decide (Fl.code b = Fl.code a)) := (Fl.ord_gt_code a b ha hb).2.1
abbrev P82 (m : Nat) (s t : Sp) (w : World) : Prop := SpAt m s.a s.b s.p s.q w ∧ SpAt (m + 1) t.a t.b t.p t.q w
theorem sp_new (w : World) (a b : Nat) (p q : Bool) (w1 : World) (e : w.alloc (.cells #[.float .f64 a, .float .f64 b, .bool p, .bool q] 67) = w1) (m : Nat) (hm : w.heap.size = m) : SpAt m a b p q w1 ∧ Old w w1 := by
  subst e hm
  exact ⟨by simp [SpAt], (Old.refl w).alloc _⟩
theorem SpAt.oldq {m a b : Nat} {p q : Bool} {w w' : World} (u : Old w w') (h : SpAt m a b p q w) : SpAt m a b p q w' := ⟨u.keep h.1, u.keep h.2.1, u.keep h.2.2.1, u.keep h.2.2.2⟩
attribute [local go_sem] run_bits run_frombits run_store_float eqF
set_option maxHeartbeats 400000 in
set_option maxRecDepth 20000 in
theorem alike_any (a b : Nat) (ha : Fl.W a) (hb : Fl.W b) (w : World) : Calls Tryz.prog 82 #[.float .f64 a, .float .f64 b] w fun e w' => e = .returned (.bool (decide (a = b))) ∧ w' = w := by
  go_enter Tryz.func82, Tryz.ntmps82
  go_wp2
  go_ret
  refine ⟨ret_b ?_, rfl⟩
  by_cases e : a = b
  · subst e; simp
  · have : ((a : Int) == (b : Int)) = false := by rw [beq_eq_false_iff_ne]; omega
    simp [this, e]
set_option maxHeartbeats 1000000 in
set_option maxRecDepth 20000 in
theorem spansAlike_any (s t : Sp) (h1 : Fl.W s.a) (h2 : Fl.W s.b) (h3 : Fl.W t.a) (h4 : Fl.W t.b) (na : Fl.nan s.a = false) (nb : Fl.nan s.b = false) (w : World) :
    Calls Tryz.prog 84 #[.agg #[.float .f64 s.a, .float .f64 s.b, .bool s.p, .bool s.q], .agg #[.float .f64 t.a, .float .f64 t.b, .bool t.p, .bool t.q]] w fun e w' => e = .returned (.bool (spEq s t)) ∧ Old w w' := by
  have HO1 := ordE s.a t.a h1 h3
  have HO2 := ordE s.b t.b h2 h4
  rw [na] at HO1
  rw [nb] at HO2
  have A1 := hid (fun W => alike_any s.a t.a h1 h3 W)
  have A2 := hid (fun W => alike_any s.b t.b h2 h4 W)
  have HE := hid (show spEq s t = ((s.p == t.p) && (s.q == t.q) && (decide (s.a = t.a) && decide (s.b = t.b))) from rfl)
  have HV := hid (((Old.refl w).alloc (.cells #[.float .f64 s.a, .float .f64 s.b, .bool s.p, .bool s.q] 67)).alloc (.cells #[.float .f64 t.a, .float .f64 t.b, .bool t.p, .bool t.q] 67))
  by_cases e1 : s.a = t.a
  · by_cases e2 : s.b = t.b
    · have o1 : (FloatKind.f64.format.order s.a t.a == some .eq) = true := by rw [HO1, ← e1, na]; simp
      have o2 : (FloatKind.f64.format.order s.b t.b == some .eq) = true := by rw [HO2, ← e2, nb]; simp
      rw [decide_eq_true e1] at A1 HE
      rw [decide_eq_true e2] at A2 HE
      clear HO1 HO2 e1 e2
      generalize spEq s t = r at *
      generalize s.p = sp at *
      generalize t.p = tp at *
      generalize s.q = sq at *
      generalize t.q = tq at *
      cases hp : (sp == tp)
      · rw [hp] at HE
        go_enter Tryz.func84, Tryz.ntmps84
        go_wp2_with (first | (go_at_call_of 82 (Value.float .f64 t.a); refine (A1.out _).mono ?_; rintro e w5 ⟨rfl, hq⟩; have hq2 := hq.symm; subst hq2) | (go_at_call_of 82 (Value.float .f64 t.b); refine (A2.out _).mono ?_; rintro e w6 ⟨rfl, hq⟩; have hq2 := hq.symm; subst hq2))
        all_goals go_ret
        all_goals exact ⟨by rw [HE.out]; simp, ((Old.refl w).alloc _).alloc _⟩
      · rw [hp] at HE
        cases hq0 : (sq == tq)
        · rw [hq0] at HE
          go_enter Tryz.func84, Tryz.ntmps84
          go_wp2_with (first | (go_at_call_of 82 (Value.float .f64 t.a); refine (A1.out _).mono ?_; rintro e w5 ⟨rfl, hq⟩; have hq2 := hq.symm; subst hq2) | (go_at_call_of 82 (Value.float .f64 t.b); refine (A2.out _).mono ?_; rintro e w6 ⟨rfl, hq⟩; have hq2 := hq.symm; subst hq2))
          all_goals go_ret
          all_goals exact ⟨by rw [HE.out]; simp, ((Old.refl w).alloc _).alloc _⟩
        · rw [hq0] at HE
          go_enter Tryz.func84, Tryz.ntmps84
          go_wp2_with (first | (go_at_call_of 82 (Value.float .f64 t.a); refine (A1.out _).mono ?_; rintro e w5 ⟨rfl, hq⟩; have hq2 := hq.symm; subst hq2) | (go_at_call_of 82 (Value.float .f64 t.b); refine (A2.out _).mono ?_; rintro e w6 ⟨rfl, hq⟩; have hq2 := hq.symm; subst hq2))
          all_goals go_ret
          all_goals exact ⟨by rw [HE.out]; simp, ((Old.refl w).alloc _).alloc _⟩
    · have HE2 := hid (show spEq s t = false by rw [HE.out, decide_eq_false e2]; simp)
      rw [decide_eq_true e1] at A1
      rw [decide_eq_false e2] at A2
      rw [HE2.out]
      clear HO1 HO2 e1 e2 HE HE2
      go_enter Tryz.func84, Tryz.ntmps84
      go_wp2_with (first | (go_at_call_of 82 (Value.float .f64 t.a); refine (A1.out _).mono ?_; rintro e w5 ⟨rfl, hq⟩; have hq2 := hq.symm; subst hq2) | (go_at_call_of 82 (Value.float .f64 t.b); refine (A2.out _).mono ?_; rintro e w6 ⟨rfl, hq⟩; have hq2 := hq.symm; subst hq2))
      all_goals go_ret
      all_goals exact ⟨rfl, ((Old.refl w).alloc _).alloc _⟩
  · have HE2 := hid (show spEq s t = false by rw [HE.out, decide_eq_false e1]; simp)
    rw [decide_eq_false e1] at A1
    rw [HE2.out]
    clear HO1 HO2 e1 HE HE2 A2
    go_enter Tryz.func84, Tryz.ntmps84
    go_wp2_with (first | (go_at_call_of 82 (Value.float .f64 t.a); refine (A1.out _).mono ?_; rintro e w5 ⟨rfl, hq⟩; have hq2 := hq.symm; subst hq2))
    all_goals go_ret
    all_goals exact ⟨rfl, ((Old.refl w).alloc _).alloc _⟩
set_option maxHeartbeats 1000000 in
set_option maxRecDepth 20000 in
theorem equalF_any (v1 v2 : Value) (n m : Nat) (x y : Nat → Nat) (w : World) (h1 : FRow w v1 n x) (h2 : FRow w v2 m y) :
    Calls Tryz.prog 81 #[v1, v2, .func (.func 82) #[] #[]] w fun e w' => e = .returned (.bool (decide (n = m) && Fl.sameU x y n)) ∧ Old w w' := by
  obtain ⟨hb, a, c, rfl, hc⟩ := h1
  obtain ⟨hb', a', c', rfl, hc'⟩ := h2
  by_cases e : n = m
  · subst e
    rw [decide_eq_true rfl, Bool.true_and]
    have HC := hid hc
    have HC' := hid hc'
    clear hc hc' hb'
    go_enter Tryz.func81, Tryz.ntmps81
    go_wp2
    go_loopw [17] (fun i wr => ∃ j : Nat, j ≤ n ∧ i = .int .i64 (j : Nat) ∧ Fl.sameU x y j = true ∧ Old w wr) (fun i _ => n - (intOf i).toNat)
    case atStart => exact ⟨0, Nat.zero_le _, rfl, rfl, Old.refl _⟩
    case round =>
      obtain ⟨j, hj, rfl, hs, hu⟩ := hrel
      have HSU := hid hs
      have HU := hid hu
      clear hs hu
      by_cases hlt : j < n
      · obtain ⟨b, off, ha, hW, c0⟩ := HC.out j hlt
        obtain ⟨b', off', ha', hW', d0⟩ := HC'.out j hlt
        subst ha ha'
        have x0 := HU.out.keep c0
        have y0 := HU.out.keep d0
        have HA := hid (fun W => alike_any (x j) (y j) hW hW' W)
        have l1 : (0 : Int) ≤ (j : Int) := by omega
        have l2 : (j : Int) < (n : Int) := by omega
        clear c0 d0 hW hW'
        have HSt := hid (show Fl.sameU x y (j + 1) = (Fl.sameU x y j && decide (x j = y j)) from rfl)
        have HFl := hid (fun (e : ¬ x j = y j) => Fl.sameU_false x y n j hlt e)
        generalize hs1 : x j = s1 at *
        generalize hs2 : y j = s2 at *
        clear hs1 hs2
        by_cases hq : s1 = s2
        · have HF := hid (show Fl.sameU x y (j + 1) = true by rw [HSt.out, HSU.out, decide_eq_true hq, Bool.and_true])
          rw [decide_eq_true hq] at HA
          clear hq HFl HSt
          go_wp2_with (first | (go_at_call 82; refine (HA.out _).mono ?_; rintro e w5 ⟨rfl, hq⟩; have hq2 := hq.symm; subst hq2))
          go_roundw
          case rel => exact ⟨j + 1, hlt, by go_num, HF.out, HU.out⟩
          case measure => simp [intOf]; omega
        · have HF := hid (HFl.out hq)
          rw [decide_eq_false hq] at HA
          clear hq HFl HSt
          go_wp2_with (first | (go_at_call 82; refine (HA.out _).mono ?_; rintro e w5 ⟨rfl, hq⟩; have hq2 := hq.symm; subst hq2))
          go_ret
          exact ⟨ret_b HF.out.symm, HU.out⟩
      · obtain rfl : j = n := by omega
        go_wp2
        go_ret
        exact ⟨ret_b HSU.out.symm, HU.out⟩
  · rw [decide_eq_false e, Bool.false_and]
    have t : ((n : Int) != (m : Int)) = true := by rw [bne_iff_ne]; omega
    clear e hc hc'
    go_enter Tryz.func81, Tryz.ntmps81
    go_wp2
    go_ret
    exact ⟨rfl, Old.refl _⟩
set_option maxHeartbeats 1000000 in
set_option maxRecDepth 20000 in
theorem equalS_any (v1 v2 : Value) (n m : Nat) (f g : Nat → Sp) (w : World) (h1 : SRow w v1 n f) (h2 : SRow w v2 m g) (hn : ∀ i, i < n → Fl.nan (f i).a = false ∧ Fl.nan (f i).b = false) :
    Calls Tryz.prog 83 #[v1, v2, .func (.func 84) #[] #[]] w fun e w' => e = .returned (.bool (decide (n = m) && Fl.spU f g n)) ∧ Old w w' := by
  obtain ⟨hb, a, c, rfl, hc⟩ := h1
  obtain ⟨hb', a', c', rfl, hc'⟩ := h2
  by_cases e : n = m
  · subst e
    rw [decide_eq_true rfl, Bool.true_and]
    have HC := hid hc
    have HC' := hid hc'
    have HNn := hid hn
    clear hc hc' hb' hn
    go_enter Tryz.func83, Tryz.ntmps83
    go_wp2
    go_loopw [17] (fun i wr => ∃ j : Nat, j ≤ n ∧ i = .int .i64 (j : Nat) ∧ Fl.spU f g j = true ∧ Old w wr) (fun i _ => n - (intOf i).toNat)
    case atStart => exact ⟨0, Nat.zero_le _, rfl, rfl, Old.refl _⟩
    case round =>
      obtain ⟨j, hj, rfl, hs, hu⟩ := hrel
      have HSU := hid hs
      have HU := hid hu
      clear hs hu
      by_cases hlt : j < n
      · obtain ⟨b, off, ha, hW, hWb, c0, c1, c2, c3⟩ := HC.out j hlt
        obtain ⟨b', off', ha', hW', hWb', d0, d1, d2, d3⟩ := HC'.out j hlt
        subst ha ha'
        have x0 := HU.out.keep c0
        have x1 := HU.out.keep c1
        have x2 := HU.out.keep c2
        have x3 := HU.out.keep c3
        have y0 := HU.out.keep d0
        have y1 := HU.out.keep d1
        have y2 := HU.out.keep d2
        have y3 := HU.out.keep d3
        have hnn := HNn.out j hlt
        have HA := hid (fun W => spansAlike_any (f j) (g j) hW hWb hW' hWb' hnn.1 hnn.2 W)
        have l1 : (0 : Int) ≤ (j : Int) := by omega
        have l2 : (j : Int) < (n : Int) := by omega
        clear c0 c1 c2 c3 d0 d1 d2 d3 hW hW' hWb hWb' hnn
        have HSt := hid (show Fl.spU f g (j + 1) = (Fl.spU f g j && spEq (f j) (g j)) from rfl)
        have HFl := hid (fun (e : spEq (f j) (g j) = false) => Fl.spU_false f g n j hlt e)
        generalize hs1 : f j = s1 at *
        generalize hs2 : g j = s2 at *
        clear hs1 hs2
        go_upto_region 6 with fail
        generalize hwa : wr.alloc (.cells #[.float .f64 s1.a, .float .f64 s1.b, .bool s1.p, .bool s1.q] 67) = wa at *
        generalize hba : wr.heap.size = ba at *
        obtain ⟨hA, uA⟩ := sp_new wr _ _ _ _ wa hwa ba hba
        have z0 := uA.keep y0
        have z1 := uA.keep y1
        have z2 := uA.keep y2
        have z3 := uA.keep y3
        clear hwa hba x0 x1 x2 x3 y0 y1 y2 y3
        go_upto_region 7 with fail
        generalize hwb : wa.alloc (.cells #[.float .f64 s2.a, .float .f64 s2.b, .bool s2.p, .bool s2.q] 67) = wb at *
        generalize hbb : wa.heap.size = bb at *
        obtain ⟨⟨e0, e1, e2, e3⟩, uB⟩ := sp_new wa _ _ _ _ wb hwb bb hbb
        obtain ⟨d0, d1, d2, d3⟩ := SpAt.oldq uB hA
        have HV := hid ((HU.out.trans uA).trans uB)
        clear hwb hbb uA uB hA z0 z1 z2 z3
        cases hq : spEq s1 s2
        · have HF := hid (HFl.out hq)
          rw [hq] at HA
          clear hq HFl HSt
          go_wp2_with (first | (go_at_call 84; refine (HA.out _).mono ?_; rintro e w5 ⟨rfl, u5⟩; have U5 := hid u5; clear u5))
          go_ret
          exact ⟨ret_b HF.out.symm, HV.out.trans U5.out⟩
        · have HF := hid (show Fl.spU f g (j + 1) = true by rw [HSt.out, HSU.out, hq, Bool.and_true])
          rw [hq] at HA
          clear hq HFl HSt
          go_wp2_with (first | (go_at_call 84; refine (HA.out _).mono ?_; rintro e w5 ⟨rfl, u5⟩; have U5 := hid u5; clear u5))
          go_roundw
          case rel => exact ⟨j + 1, hlt, by go_num, HF.out, HV.out.trans U5.out⟩
          case measure => simp [intOf]; omega
      · obtain rfl : j = n := by omega
        go_wp2
        go_ret
        exact ⟨ret_b HSU.out.symm, HU.out⟩
  · rw [decide_eq_false e, Bool.false_and]
    have t : ((n : Int) != (m : Int)) = true := by rw [bne_iff_ne]; omega
    clear e hc hc'
    go_enter Tryz.func83, Tryz.ntmps83
    go_wp2
    go_ret
    exact ⟨rfl, Old.refl _⟩
end Go.Proofs.YtbkbnfgjkefcmaaGreat
namespace Go.Proofs.YtbkbnfgjkefcmaaGreat
open Go.RowKit Go.Lib
set_option linter.unusedVariables false
set_option linter.unusedSimpArgs false
set_option maxRecDepth 20000
/-- A row of keys is as its form has it. -/
def ordF (x : Nat → Nat) (n : Nat) : Bool := decide (n = (Fl.sortL x n).length) && Fl.sameU x (atN (Fl.sortL x n)) n
def ordS (f : Nat → Sp) (n : Nat) : Bool := decide (n = (Fl.dfold (Fl.cdl f n)).length) && Fl.spU f (atS ((Fl.dfold (Fl.cdl f n)).map Fl.spo)) n
def chkO (m c k z o : Bool) : Int := if m = true then 43 else if c = true then 3 else if k = true then 40 else if z = true then 41 else if o = true then 0 else 42
/-- What Check answers. -/
def chkV (s1 s2 s3 : Int) (n1 n2 n3 : Nat) (x1 x3 : Nat → Nat) (f2 : Nat → Sp) : Int := chkO (misB s1 s2 s3) (crowdB n1 n2 n3) (Fl.anyG (fun i => Fl.nan (x1 i)) n1 || Fl.anyG (fun i => Fl.nan (x3 i)) n3) (Fl.anyG (fun i => Fl.csE (f2 i).a (f2 i).b (f2 i).p (f2 i).q) n2) (ordF x1 n1 && ordS f2 n2 && ordF x3 n3)
theorem csE_nan {a b : Nat} {p q : Bool} (h : Fl.csE a b p q = false) : Fl.nan a = false ∧ Fl.nan b = false := by
  have q := Fl.csE_false a b p q h
  exact ⟨q.2.2.1, q.2.2.2.1⟩
theorem anyG_each {g : Nat → Bool} : ∀ {n : Nat}, Fl.anyG g n = false → ∀ i, i < n → g i = false
  | n + 1, h, i, hi => by
    have h' : (Fl.anyG g n || g n) = false := h
    rw [Bool.or_eq_false_iff] at h'
    by_cases e : i = n
    · subst e; exact h'.2
    · exact anyG_each h'.1 i (by omega)
theorem sub_new (w : World) (s1 s2 s3 : Int) (v1 v2 v3 : Value) (w1 : World) (e : w.alloc (.cells #[.int .i64 s1, .int .i64 s2, .int .i64 s3, v1, v2, v3] 31) = w1) (m : Nat) (hm : w.heap.size = m) : SubAt m s1 s2 s3 v1 v2 v3 w1 ∧ Old w w1 := by
  subst e hm
  exact ⟨by simp [SubAt], (Old.refl w).alloc _⟩
theorem SRow.ws {w : World} {v : Value} {n : Nat} {f : Nat → Sp} (h : SRow w v n f) : ∀ i, i < n → Fl.W (f i).a ∧ Fl.W (f i).b := fun i hi => by
  obtain ⟨_, a, c, e, hc⟩ := h
  obtain ⟨b, off, _, q1, q2, _⟩ := hc i hi
  exact ⟨q1, q2⟩
theorem FRow.ws {w : World} {v : Value} {n : Nat} {x : Nat → Nat} (h : FRow w v n x) : ∀ i, i < n → Fl.W (x i) := fun i hi => by
  obtain ⟨_, a, c, e, hc⟩ := h
  obtain ⟨b, off, _, q1, _⟩ := hc i hi
  exact q1
attribute [local go_sem] run_bits run_frombits run_store_float eqF
set_option maxHeartbeats 4000000 in
set_option maxRecDepth 20000 in
theorem ordered_any (s1 s2 s3 : Int) (a1 a2 a3 : Option Addr) (n1 n2 n3 c1 c2 c3 : Nat) (x1 x3 : Nat → Nat) (f2 : Nat → Sp) (b1 : n1 ≤ 17592186044000) (b2 : n2 ≤ 5864062014805) (b3 : n3 ≤ 17592186044000) (w : World) (h1 : FRow w (.slice a1 n1 c1) n1 x1) (h2 : SRow w (.slice a2 n2 c2) n2 f2) (h3 : FRow w (.slice a3 n3 c3) n3 x3) (hn : ∀ i, i < n2 → Fl.nan (f2 i).a = false ∧ Fl.nan (f2 i).b = false) :
    Calls Tryz.prog 54 #[.agg #[.int .i64 s1, .int .i64 s2, .int .i64 s3, .slice a1 n1 c1, .slice a2 n2 c2, .slice a3 n3 c3]] w fun e w' => e = .returned (.bool (ordF x1 n1 && ordS f2 n2 && ordF x3 n3)) ∧ Old w w' := by
  have hk2 := Fl.dfold_ok _ (Fl.cdl f2 n2) rfl (Fl.cdl_RV f2 n2 h2.ws)
  have hl2 : (Fl.dfold (Fl.cdl f2 n2)).length ≤ n2 := by have := hk2.2.2; have := Fl.cdl_len f2 n2; omega
  have hl1 := Fl.sortL_len x1 n1
  have hl3 := Fl.sortL_len x3 n3
  have HT1 := hid (fun (W : World) v (h : FOwn w.heap.size W v (Fl.sortL x1 n1)) => h.row (sortL_W x1 n1 h1.ws) (by omega))
  have HT3 := hid (fun (W : World) v (h : FOwn w.heap.size W v (Fl.sortL x3 n3)) => h.row (sortL_W x3 n3 h3.ws) (by omega))
  have HT2 := hid (show ∀ (W : World) v, OwnS w.heap.size W v ((Fl.dfold (Fl.cdl f2 n2)).map Fl.spo) → SRow W v (Fl.dfold (Fl.cdl f2 n2)).length (atS ((Fl.dfold (Fl.cdl f2 n2)).map Fl.spo)) from fun W v h => by
    have q := h.row (fun s hs => by obtain ⟨r, hr, rfl⟩ := List.mem_map.1 hs; exact Fl.spo_W (hk2.1.2 r hr)) (by rw [List.length_map]; omega)
    rw [List.length_map] at q
    exact q)
  have HF := hid (fun (W : World) (u : Old w W) => form_any s1 s2 s3 a1 a2 a3 n1 n2 n3 c1 c2 c3 x1 x3 f2 b1 b2 b3 W (h1.old u) (h2.old u) (h3.old u))
  have R1 := hid h1
  have R2 := hid h2
  have R3 := hid h3
  have HNn := hid hn
  have HO1 := hid (show ordF x1 n1 = (decide (n1 = (Fl.sortL x1 n1).length) && Fl.sameU x1 (atN (Fl.sortL x1 n1)) n1) from rfl)
  have HO3 := hid (show ordF x3 n3 = (decide (n3 = (Fl.sortL x3 n3).length) && Fl.sameU x3 (atN (Fl.sortL x3 n3)) n3) from rfl)
  have HO2 := hid (show ordS f2 n2 = (decide (n2 = (Fl.dfold (Fl.cdl f2 n2)).length) && Fl.spU f2 (atS ((Fl.dfold (Fl.cdl f2 n2)).map Fl.spo)) n2) from rfl)
  clear h1 h2 h3 hn hk2 hl1 hl2 hl3
  generalize ordF x1 n1 = o1 at *
  generalize ordF x3 n3 = o3 at *
  generalize ordS f2 n2 = o2 at *
  generalize Fl.sortL x1 n1 = L1 at *
  generalize Fl.sortL x3 n3 = L3 at *
  generalize Fl.dfold (Fl.cdl f2 n2) = D at *
  go_enter Tryz.func54, Tryz.ntmps54
  go_upto_region 1 with fail
  generalize hw1 : w.alloc (.cells #[.int .i64 s1, .int .i64 s2, .int .i64 s3, .slice a1 n1 c1, .slice a2 n2 c2, .slice a3 n3 c3] 31) = w1 at *
  generalize hsb : w.heap.size = sb at *
  obtain ⟨hS, hV⟩ := sub_new w s1 s2 s3 _ _ _ w1 hw1 sb hsb
  have HV := hid hV
  have HS := hid hS
  have HSZ := hid (show sb ≤ w1.heap.size by have := hV.size; omega)
  obtain ⟨t0, t1, t2, t3, t4, t5⟩ := hS
  clear hw1 hV hsb
  go_upto_region 2 with (first | (go_at_call 80; refine (HF.out _ HV.out).mono ?_; rintro e w5 ⟨p1, p2, p3, q1, q2, q3, rfl, g1, g2, g3, u5⟩; have U5 := hid u5; have G1 := hid (g1.mono' HSZ.out); have G2 := hid (g2.mono' HSZ.out); have G3 := hid (g3.mono' HSZ.out); clear g1 g2 g3 u5))
  generalize hw2 : w5.alloc (.cells #[.int .i64 s1, .int .i64 s2, .int .i64 s3, .slice p1 L1.length q1, .slice p2 D.length q2, .slice p3 L3.length q3] 31) = w2 at *
  generalize hfb : w5.heap.size = fb at *
  obtain ⟨hS2, hV2⟩ := sub_new w5 s1 s2 s3 _ _ _ w2 hw2 fb hfb
  have HV2 := hid ((HV.out.trans U5.out).trans hV2)
  have F1 := hid (HT1.out _ _ (G1.out.old hV2))
  have F2 := hid (HT2.out _ _ (G2.out.old hV2))
  have F3 := hid (HT3.out _ _ (G3.out.old hV2))
  obtain ⟨y0, y1, y2, y3, y4, y5⟩ := SubAt.old (U5.out.trans hV2) HS.out
  obtain ⟨z0, z1, z2, z3, z4, z5⟩ := hS2
  have HB := hid (show SubAt sb s1 s2 s3 (.slice a1 n1 c1) (.slice a2 n2 c2) (.slice a3 n3 c3) w2 ∧ SubAt fb s1 s2 s3 (.slice p1 L1.length q1) (.slice p2 D.length q2) (.slice p3 L3.length q3) w2 from ⟨⟨y0, y1, y2, y3, y4, y5⟩, z0, z1, z2, z3, z4, z5⟩)
  clear hw2 hfb hV2 t0 t1 t2 t3 t4 t5 G1 G2 G3 HF HT1 HT2 HT3 HS
  have E1 := hid (fun (W : World) (u : Old w2 W) => equalF_any _ _ n1 L1.length x1 (atN L1) W (R1.out.old (HV2.out.trans u)) (F1.out.old u))
  have E3 := hid (fun (W : World) (u : Old w2 W) => equalF_any _ _ n3 L3.length x3 (atN L3) W (R3.out.old (HV2.out.trans u)) (F3.out.old u))
  have E2 := hid (fun (W : World) (u : Old w2 W) => equalS_any _ _ n2 D.length f2 (atS (D.map Fl.spo)) W (R2.out.old (HV2.out.trans u)) (F2.out.old u) HNn.out)
  rw [← HO1.out] at E1
  rw [← HO2.out] at E2
  rw [← HO3.out] at E3
  clear HO1 HO2 HO3 R1 R2 R3 F1 F2 F3 HNn
  cases o1
  · go_wp2_with (first | (go_at_call_of 81 (Value.slice a1 n1 c1); refine (E1.out _ (Old.refl _)).mono ?_; rintro e x5 ⟨rfl, u6⟩; have U6 := hid u6; clear u6))
    go_ret
    exact ⟨rfl, HV2.out.trans U6.out⟩
  · cases o2
    · go_wp2_with (first | (go_at_call_of 81 (Value.slice a1 n1 c1); refine (E1.out _ (Old.refl _)).mono ?_; rintro e x5 ⟨rfl, u6⟩; have U6 := hid u6; clear u6; obtain ⟨⟨_, _, _, _, y4', y5'⟩, _, _, _, _, z4', z5'⟩ := And.intro (SubAt.old U6.out HB.out.1) (SubAt.old U6.out HB.out.2)) | (go_at_call 83; refine (E2.out _ U6.out).mono ?_; rintro e x6 ⟨rfl, u7⟩; have U7 := hid (U6.out.trans u7); clear u7))
      go_ret
      exact ⟨rfl, HV2.out.trans U7.out⟩
    · go_wp2_with (first | (go_at_call_of 81 (Value.slice a1 n1 c1); refine (E1.out _ (Old.refl _)).mono ?_; rintro e x5 ⟨rfl, u6⟩; have U6 := hid u6; clear u6; obtain ⟨⟨_, _, _, _, y4', y5'⟩, _, _, _, _, z4', z5'⟩ := And.intro (SubAt.old U6.out HB.out.1) (SubAt.old U6.out HB.out.2)) | (go_at_call 83; refine (E2.out _ U6.out).mono ?_; rintro e x6 ⟨rfl, u7⟩; have U7 := hid (U6.out.trans u7); clear u7; obtain ⟨⟨_, _, _, _, _, y5''⟩, _, _, _, _, _, z5''⟩ := And.intro (SubAt.old U7.out HB.out.1) (SubAt.old U7.out HB.out.2)) | (go_at_call_of 81 (Value.slice a3 n3 c3); refine (E3.out _ U7.out).mono ?_; rintro e x7 ⟨rfl, u8⟩; have U8 := hid (U7.out.trans u8); clear u8))
      go_ret
      exact ⟨ret_b (by simp), HV2.out.trans U8.out⟩
set_option maxHeartbeats 4000000 in
set_option maxRecDepth 20000 in
theorem check_any (s1 s2 s3 : Int) (a1 a2 a3 : Option Addr) (n1 n2 n3 c1 c2 c3 : Nat) (x1 x3 : Nat → Nat) (f2 : Nat → Sp) (b1 : n1 ≤ 17592186044000) (b2 : n2 ≤ 5864062014805) (b3 : n3 ≤ 17592186044000) (w : World) (h1 : FRow w (.slice a1 n1 c1) n1 x1) (h2 : SRow w (.slice a2 n2 c2) n2 f2) (h3 : FRow w (.slice a3 n3 c3) n3 x3) :
    Calls Tryz.prog 27 #[.agg #[.int .i64 s1, .int .i64 s2, .int .i64 s3, .slice a1 n1 c1, .slice a2 n2 c2, .slice a3 n3 c3]] w fun e w' => e = .returned (.int .i64 (chkV s1 s2 s3 n1 n2 n3 x1 x3 f2)) ∧ Old w w' := by
  have HO := hid (fun (hz : Fl.anyG (fun i => Fl.csE (f2 i).a (f2 i).b (f2 i).p (f2 i).q) n2 = false) (W : World) (u : Old w W) => ordered_any s1 s2 s3 a1 a2 a3 n1 n2 n3 c1 c2 c3 x1 x3 f2 b1 b2 b3 W (h1.old u) (h2.old u) (h3.old u) (fun i hi => csE_nan (anyG_each hz i hi)))
  have HM := hid (fun (W : World) (u : Old w W) => misnamed_any s1 s2 s3 (.slice a1 n1 c1) (.slice a2 n2 c2) (.slice a3 n3 c3) W)
  have HC := hid (fun (W : World) (u : Old w W) => crowded_any s1 s2 s3 a1 a2 a3 n1 n2 n3 c1 c2 c3 W)
  have HK := hid (fun (W : World) (u : Old w W) => keyless_any s1 s2 s3 (.slice a1 n1 c1) (.slice a2 n2 c2) (.slice a3 n3 c3) n1 n3 x1 x3 W (h1.old u) (h3.old u))
  have HZ := hid (fun (W : World) (u : Old w W) => empties_any (.slice a2 n2 c2) n2 f2 W (h2.old u))
  unfold chkV
  generalize misB s1 s2 s3 = m at *
  generalize crowdB n1 n2 n3 = c at *
  generalize (Fl.anyG (fun i => Fl.nan (x1 i)) n1 || Fl.anyG (fun i => Fl.nan (x3 i)) n3) = k at *
  generalize Fl.anyG (fun i => Fl.csE (f2 i).a (f2 i).b (f2 i).p (f2 i).q) n2 = z at *
  generalize (ordF x1 n1 && ordS f2 n2 && ordF x3 n3) = o at *
  clear h1 h2 h3
  go_enter Tryz.func27, Tryz.ntmps27
  go_upto_region 1 with fail
  generalize hw1 : w.alloc (.cells #[.int .i64 s1, .int .i64 s2, .int .i64 s3, .slice a1 n1 c1, .slice a2 n2 c2, .slice a3 n3 c3] 31) = w1 at *
  generalize hsb : w.heap.size = sb at *
  obtain ⟨hS, hV⟩ := sub_new w s1 s2 s3 _ _ _ w1 hw1 sb hsb
  have HV := hid hV
  have HS := hid hS
  obtain ⟨t0, t1, t2, t3, t4, t5⟩ := hS
  clear hw1 hV hsb
  cases m
  · go_upto_region 3 with (first | (go_at_call 49; refine (HM.out _ HV.out).mono ?_; rintro e w2 ⟨rfl, u2⟩; have U2 := hid (HV.out.trans u2); have B2 := hid (SubAt.old u2 HS.out); clear u2))
    clear t0 t1 t2 t3 t4 t5 HS HM
    obtain ⟨t0, t1, t2, t3, t4, t5⟩ := B2.out
    cases c
    · go_upto_region 5 with (first | (go_at_call 50; refine (HC.out _ U2.out).mono ?_; rintro e w3 ⟨rfl, u3⟩; have U3 := hid (U2.out.trans u3); have B3 := hid (SubAt.old u3 B2.out); clear u3))
      clear t0 t1 t2 t3 t4 t5 B2 HC
      obtain ⟨t0, t1, t2, t3, t4, t5⟩ := B3.out
      cases k
      · go_upto_region 7 with (first | (go_at_call 51; refine (HK.out _ U3.out).mono ?_; rintro e w4 ⟨rfl, u4⟩; have U4 := hid (U3.out.trans u4); have B4 := hid (SubAt.old u4 B3.out); clear u4))
        clear t0 t1 t2 t3 t4 t5 B3 HK
        obtain ⟨t0, t1, t2, t3, t4, t5⟩ := B4.out
        cases z
        · have HO2 := hid (HO.out rfl)
          clear HO
          go_upto_region 9 with (first | (go_at_call 52; refine (HZ.out _ U4.out).mono ?_; rintro e w5 ⟨rfl, u5⟩; have U5 := hid (U4.out.trans u5); have B5 := hid (SubAt.old u5 B4.out); clear u5))
          clear t0 t1 t2 t3 t4 t5 B4 HZ
          obtain ⟨t0, t1, t2, t3, t4, t5⟩ := B5.out
          cases o
          · go_wp2_with (first | (go_at_call 54; refine (HO2.out _ U5.out).mono ?_; rintro e w6 ⟨rfl, u6⟩; have U6 := hid (U5.out.trans u6); clear u6))
            go_ret
            exact ⟨rfl, U6.out⟩
          · go_wp2_with (first | (go_at_call 54; refine (HO2.out _ U5.out).mono ?_; rintro e w6 ⟨rfl, u6⟩; have U6 := hid (U5.out.trans u6); clear u6))
            go_ret
            exact ⟨rfl, U6.out⟩
        · clear HO
          go_wp2_with (first | (go_at_call 52; refine (HZ.out _ U4.out).mono ?_; rintro e w5 ⟨rfl, u5⟩; have U5 := hid (U4.out.trans u5); clear u5))
          go_ret
          exact ⟨rfl, U5.out⟩
      · clear HO
        go_wp2_with (first | (go_at_call 51; refine (HK.out _ U3.out).mono ?_; rintro e w4 ⟨rfl, u4⟩; have U4 := hid (U3.out.trans u4); clear u4))
        go_ret
        exact ⟨rfl, U4.out⟩
    · clear HO
      go_wp2_with (first | (go_at_call 50; refine (HC.out _ U2.out).mono ?_; rintro e w3 ⟨rfl, u3⟩; have U3 := hid (U2.out.trans u3); clear u3))
      go_ret
      exact ⟨rfl, U3.out⟩
  · clear HO
    go_wp2_with (first | (go_at_call 49; refine (HM.out _ HV.out).mono ?_; rintro e w2 ⟨rfl, u2⟩; have U2 := hid (HV.out.trans u2); clear u2))
    go_ret
    exact ⟨rfl, U2.out⟩
end Go.Proofs.YtbkbnfgjkefcmaaGreat
namespace Go.Proofs.YtbkbnfgjkefcmaaGreat
open Go.RowKit Go.Lib
set_option linter.unusedVariables false
set_option linter.unusedSimpArgs false
set_option maxRecDepth 20000
theorem ent_rsort (args : Array Value) (w : World) : (callFunc 41 args).run Tryz.prog w = .ok (.enter 41 args) w := by kernel_rfl
theorem ent_rsk (args : Array Value) (w : World) : (callFunc 40 args).run Tryz.prog w = .ok (.enter 40 args) w := by kernel_rfl
theorem ent_rnorm (args : Array Value) (w : World) : (callFunc 44 args).run Tryz.prog w = .ok (.enter 44 args) w := by kernel_rfl
theorem ent_rspans (args : Array Value) (w : World) : (callFunc 43 args).run Tryz.prog w = .ok (.enter 43 args) w := by kernel_rfl
theorem ent_rsame (args : Array Value) (w : World) : (callFunc 42 args).run Tryz.prog w = .ok (.enter 42 args) w := by kernel_rfl
theorem empty_cs (a b : Nat) (ha : Fl.W a) (hb : Fl.W b) (p q : Bool) : decide (Fl.rH a b p q < Fl.rL a b p q) = Fl.csE a b p q := by
  have hf := Fl.cs_isForm a b p q ha hb
  unfold Fl.rH Fl.rL
  cases he : Fl.csE a b p q
  · rw [he] at hf
    have := (hf.2.2.2 rfl).2.2.2.2
    simp; omega
  · simp
attribute [local go_sem] run_bits run_frombits run_store_float eqF
set_option maxHeartbeats 8000000 in
set_option maxRecDepth 20000 in
theorem refCheck_rest (s1 s2 s3 : Int) (a1 a2 a3 : Option Addr) (n1 n2 n3 c1 c2 c3 : Nat) (x1 x3 : Nat → Nat) (f2 : Nat → Sp) (w : World) (hm : misB s1 s2 s3 = false) (hc : crowdB n1 n2 n3 = false)
    (h1 : FRow w (.slice a1 n1 c1) n1 x1) (h2 : SRow w (.slice a2 n2 c2) n2 f2) (h3 : FRow w (.slice a3 n3 c3) n3 x3) :
    Calls Tryz.prog 20 #[.agg #[.int .i64 s1, .int .i64 s2, .int .i64 s3, .slice a1 n1 c1, .slice a2 n2 c2, .slice a3 n3 c3]] w fun e w' => e = .returned (.int .i64 (chkO false false (Fl.anyG (fun i => Fl.nan (x1 i)) n1 || Fl.anyG (fun i => Fl.nan (x3 i)) n3) (Fl.anyG (fun i => Fl.csE (f2 i).a (f2 i).b (f2 i).p (f2 i).q) n2) (ordF x1 n1 && ordS f2 n2 && ordF x3 n3))) ∧ Old w w' := by
  have h4 : ¬ s1 < 1 ∧ ¬ 1099511627776 < s1 ∧ ¬ s2 < 1 ∧ ¬ 1099511627776 < s2 ∧ ¬ s3 < 0 ∧ ¬ 1099511627776 < s3 := by
    unfold misB outB at hm; simp at hm; omega
  obtain ⟨t1, t2, t3, t4, t5, t6⟩ := h4
  have h5 : ¬ 16 < n1 ∧ ¬ 8 < n2 ∧ ¬ 16 < n3 := by unfold crowdB at hc; simp at hc; omega
  have b1 : n1 ≤ 16 := by omega
  have b2 : n2 ≤ 8 := by omega
  have b3 : n3 ≤ 16 := by omega
  have v1 : ¬ (16 : Int) < (n1 : Int) := by omega
  have v2 : ¬ (8 : Int) < (n2 : Int) := by omega
  have v3 : ¬ (16 : Int) < (n3 : Int) := by omega
  have hk2 := Fl.dfold_ok _ (Fl.cdl f2 n2) rfl (Fl.cdl_RV f2 n2 h2.ws)
  have hl2 : (Fl.dfold (Fl.cdl f2 n2)).length ≤ n2 := by have := hk2.2.2; have := Fl.cdl_len f2 n2; omega
  have hl1 := Fl.sortL_len x1 n1
  have hl3 := Fl.sortL_len x3 n3
  have HT1 := hid (fun (B : Nat) (W : World) v (h : FOwn B W v (Fl.sortL x1 n1)) => h.row (sortL_W x1 n1 h1.ws) (by omega))
  have HT3 := hid (fun (B : Nat) (W : World) v (h : FOwn B W v (Fl.sortL x3 n3)) => h.row (sortL_W x3 n3 h3.ws) (by omega))
  have HT2 := hid (show ∀ (B : Nat) (W : World) v, OwnS B W v ((Fl.dfold (Fl.cdl f2 n2)).map Fl.spo) → SRow W v (Fl.dfold (Fl.cdl f2 n2)).length (atS ((Fl.dfold (Fl.cdl f2 n2)).map Fl.spo)) from fun B W v h => by
    have q := h.row (fun s hs => by obtain ⟨r, hr, rfl⟩ := List.mem_map.1 hs; exact Fl.spo_W (hk2.1.2 r hr)) (by rw [List.length_map]; omega)
    rw [List.length_map] at q
    exact q)
  have HX2 := hid (fun v B W (h : OwnG B W v (Fl.dfold (Fl.cdl f2 n2))) => spans_any v B _ W h hk2.1.2 (by omega))
  have K1 := hid (fun W (hW : Old w W) => refNans_any _ _ _ W (h1.old hW))
  have K3 := hid (fun W (hW : Old w W) => refNans_any _ _ _ W (h3.old hW))
  have HSo1 := hid (fun (W : World) (u : Old w W) => sortR_any (.slice a1 n1 c1) n1 x1 (by omega) W (h1.old u))
  have HSo3 := hid (fun (W : World) (u : Old w W) => sortR_any (.slice a3 n3 c3) n3 x3 (by omega) W (h3.old u))
  have HNm := hid (fun (W : World) (u : Old w W) => refNorm_any (.slice a2 n2 c2) n2 f2 (by omega) W (h2.old u))
  have R1 := hid h1
  have R2 := hid h2
  have R3 := hid h3
  have HO1 := hid (show ordF x1 n1 = (decide (n1 = (Fl.sortL x1 n1).length) && Fl.sameU x1 (atN (Fl.sortL x1 n1)) n1) from rfl)
  have HO3 := hid (show ordF x3 n3 = (decide (n3 = (Fl.sortL x3 n3).length) && Fl.sameU x3 (atN (Fl.sortL x3 n3)) n3) from rfl)
  have HO2 := hid (show ordS f2 n2 = (decide (n2 = (Fl.dfold (Fl.cdl f2 n2)).length) && Fl.spU f2 (atS ((Fl.dfold (Fl.cdl f2 n2)).map Fl.spo)) n2) from rfl)
  have HZt := hid (fun i (hi : i < n2) (e : Fl.csE (f2 i).a (f2 i).b (f2 i).p (f2 i).q = true) => Fl.anyG_true (fun i => Fl.csE (f2 i).a (f2 i).b (f2 i).p (f2 i).q) n2 i hi e)
  have HZs := hid (Fl.anyG_step (fun i => Fl.csE (f2 i).a (f2 i).b (f2 i).p (f2 i).q))
  have HZd := hid (show Fl.anyG (fun i => Fl.csE (f2 i).a (f2 i).b (f2 i).p (f2 i).q) 0 = false from rfl)
  generalize hzg : Fl.anyG (fun i => Fl.csE (f2 i).a (f2 i).b (f2 i).p (f2 i).q) = zg at *
  clear hzg
  generalize hk1 : Fl.anyG (fun i => Fl.nan (x1 i)) n1 = k1 at *
  generalize hk3 : Fl.anyG (fun i => Fl.nan (x3 i)) n3 = k3 at *
  clear hk1 hk3 hm hc h5 h1 h2 h3 hk2 hl1 hl2 hl3 b1 b2 b3
  generalize ordF x1 n1 = o1 at *
  generalize ordF x3 n3 = o3 at *
  generalize ordS f2 n2 = o2 at *
  generalize Fl.sortL x1 n1 = L1 at *
  generalize Fl.sortL x3 n3 = L3 at *
  generalize Fl.dfold (Fl.cdl f2 n2) = D at *
  go_enter Tryz.func20, Tryz.ntmps20
  go_upto_region 1 with fail
  generalize hw1 : w.alloc (.cells #[.int .i64 s1, .int .i64 s2, .int .i64 s3, .slice a1 n1 c1, .slice a2 n2 c2, .slice a3 n3 c3] 31) = w1 at *
  generalize hsb : w.heap.size = sb at *
  obtain ⟨hS, hV⟩ := sub_new w s1 s2 s3 _ _ _ w1 hw1 sb hsb
  have HV := hid hV
  have HS := hid hS
  obtain ⟨f0, f1, f2', f3, f4, f5⟩ := hS
  clear hw1 hV hsb
  cases k1
  · cases k3
    · go_upto_region 7 with (first | (go_at_call_of 37 (Value.slice a1 n1 c1); refine (K1.out _ HV.out).mono ?_; rintro o w5 ⟨rfl, u5⟩; have U5 := hid (HV.out.trans u5); have B5 := hid (SubAt.old u5 HS.out); obtain ⟨_, _, _, g3, g4, g5⟩ := B5.out; clear u5) | (go_at_call_of 37 (Value.slice a3 n3 c3); refine (K3.out _ U5.out).mono ?_; rintro o w6 ⟨rfl, u6⟩; have U6 := hid (U5.out.trans u6); have B6 := hid (SubAt.old u6 B5.out); clear u6))
      clear f0 f1 f2' f3 f4 f5 g3 g4 g5 B5 U5 HS HV K1 K3 t1 t2 t3 t4 t5 t6 v1 v2 v3
      go_wp2
      go_loopw [3] (fun i wr => ∃ j : Nat, j ≤ n2 ∧ i = .int .i64 (j : Nat) ∧ zg j = false ∧ Old w6 wr) (fun i _ => n2 - (intOf i).toNat)
      case atStart => exact ⟨0, Nat.zero_le _, rfl, HZd.out, Old.refl _⟩
      case round =>
        obtain ⟨j, hj, rfl, hz, hu⟩ := hrel
        have HU := hid (U6.out.trans hu)
        have HU6 := hid hu
        have HZ := hid hz
        have BR := hid (SubAt.old hu B6.out)
        clear hz hu
        obtain ⟨g0, g1, g2, g3, g4, g5⟩ := BR.out
        by_cases hlt : j < n2
        · obtain ⟨_, a, c, hv, hcx⟩ := R2.out.old HU.out
          simp only [Value.slice.injEq] at hv
          obtain ⟨rfl, _, rfl⟩ := hv
          obtain ⟨b, off, ha, hWa, hWb, x0, x1', x2, x3'⟩ := hcx j hlt
          subst ha
          have HO := hid (fun W => rOf_any (f2 j).a (f2 j).b hWa hWb (f2 j).p (f2 j).q W)
          have HE0 := fun W => rEmpty_any (Fl.rL (f2 j).a (f2 j).b (f2 j).p (f2 j).q) (Fl.rH (f2 j).a (f2 j).b (f2 j).p (f2 j).q) W
          rw [empty_cs _ _ hWa hWb] at HE0
          have HE := hid HE0
          have l1 : (0 : Int) ≤ (j : Int) := by omega
          have l2 : (j : Int) < (n2 : Int) := by omega
          have HZt2 := hid (HZt.out j hlt)
          have HZs2 := hid (HZs.out j HZ.out)
          clear HE0 hcx hWa hWb
          generalize Fl.csE (f2 j).a (f2 j).b (f2 j).p (f2 j).q = ce at *
          generalize Fl.rL (f2 j).a (f2 j).b (f2 j).p (f2 j).q = RL at *
          generalize Fl.rH (f2 j).a (f2 j).b (f2 j).p (f2 j).q = RH at *
          generalize (f2 j).a = sa at *
          generalize (f2 j).b = sb' at *
          generalize (f2 j).p = sp at *
          generalize (f2 j).q = sq at *
          cases ce
          · have HZ2 := hid (HZs2.out rfl)
            clear HZs2 HZt2
            go_wp2_with (first | (go_at_call 39; refine (HO.out _).mono ?_; rintro o w7 ⟨rfl, u7⟩; have U7 := hid u7.old; clear u7) | (go_at_call 38; refine (HE.out _).mono ?_; rintro o w8 ⟨rfl, u8⟩; have U8 := hid (U7.out.trans u8.old); clear u8))
            go_roundw
            case rel => exact ⟨j + 1, hlt, by go_num, HZ2.out, HU6.out.trans U8.out⟩
            case measure => simp [intOf]; omega
          · have HZ2 := hid (HZt2.out rfl)
            clear HZs2 HZt2
            go_wp2_with (first | (go_at_call 39; refine (HO.out _).mono ?_; rintro o w7 ⟨rfl, u7⟩; have U7 := hid u7.old; clear u7) | (go_at_call 38; refine (HE.out _).mono ?_; rintro o w8 ⟨rfl, u8⟩; have U8 := hid (U7.out.trans u8.old); clear u8))
            go_ret
            exact ⟨by rw [HZ2.out]; rfl, HU.out.trans U8.out⟩
        · obtain rfl : j = n2 := by omega
          go_upto_region 12 with fail
          clear g0 g1 g2 g3 g4 g5 HZt HZs HZd
          cases o1
          · refine wp_region_noPanic ?_
            refine wp_region_held_drew (S := SubAt sb s1 s2 s3 (.slice a1 n1 c1) (.slice a2 j c2) (.slice a3 n3 c3)) (by kernel_rfl) ?_ (fun hHeld => ?_)
            · exact SubAt.old ((Old.refl wr).drew) BR.out
            (try simp only [Act.put]); (try simp only [List.setIfInBounds_toArray]); (try simp only [List.set_cons_succ]); (try simp only [List.set_cons_zero])
            clear hHeld
            refine wpAnyH_take (i := 0) (oi := { dst := some 70, op := Op.fieldAddr 31 (Operand.tmp 1) 3, type := 0, pos := "ref.go:48", after := #[], guard := none }) (v := ?vk1) rfl (by kernel_rfl) (by kernel_rfl) (by kernel_rfl) (fun _ _ _ h => h) (Or.inl ⟨by rfl, ?hk1⟩) (SubAt.old ((Old.refl wr).drew) BR.out) ?rk1
            case hk1 => (intro wz hSw; (try dsimp only at hSw); go_simp; try with_reducible rfl)
            (try simp only [Act.put]); (try simp only [List.setIfInBounds_toArray]); (try simp only [List.set_cons_succ]); (try simp only [List.set_cons_zero])
            refine wpAnyH_take (i := 1) (oi := { dst := some 71, op := Op.load 28 (Operand.tmp 70), type := 28, pos := "ref.go:48", after := #[{ on := 0, ground := Ground.data }], guard := none }) (v := ?vk2) rfl (by kernel_rfl) (by kernel_rfl) (by kernel_rfl) (fun _ _ _ h => h) (Or.inl ⟨by rfl, ?hk2⟩) (SubAt.old ((Old.refl wr).drew) BR.out) ?rk2
            case hk2 => (intro wz hSw; (try dsimp only at hSw); go_simp; try with_reducible rfl)
            (try simp only [Act.put]); (try simp only [List.setIfInBounds_toArray]); (try simp only [List.set_cons_succ]); (try simp only [List.set_cons_zero])
            refine wpAnyH_take (i := 2) (oi := { dst := some 72, op := Op.fieldAddr 31 (Operand.tmp 1) 3, type := 0, pos := "ref.go:48", after := #[], guard := none }) (v := ?vk3) rfl (by kernel_rfl) (by kernel_rfl) (by kernel_rfl) (fun _ _ _ h => h) (Or.inl ⟨by rfl, ?hk3⟩) (SubAt.old ((Old.refl wr).drew) BR.out) ?rk3
            case hk3 => (intro wz hSw; (try dsimp only at hSw); go_simp; try with_reducible rfl)
            (try simp only [Act.put]); (try simp only [List.setIfInBounds_toArray]); (try simp only [List.set_cons_succ]); (try simp only [List.set_cons_zero])
            refine wpAnyH_take (i := 3) (oi := { dst := some 73, op := Op.load 28 (Operand.tmp 72), type := 28, pos := "ref.go:48", after := #[{ on := 2, ground := Ground.data }], guard := none }) (v := ?vk4) rfl (by kernel_rfl) (by kernel_rfl) (by kernel_rfl) (fun _ _ _ h => h) (Or.inl ⟨by rfl, ?hk4⟩) (SubAt.old ((Old.refl wr).drew) BR.out) ?rk4
            case hk4 => (intro wz hSw; (try dsimp only at hSw); go_simp; try with_reducible rfl)
            (try simp only [Act.put]); (try simp only [List.setIfInBounds_toArray]); (try simp only [List.set_cons_succ]); (try simp only [List.set_cons_zero])
            refine wpAnyH_ready (rs := [4]) (by kernel_rfl) (by simp) ?_
            refine AllReadyH.cons (o := { dst := some 74, op := Op.call { callee := Callee.value (Operand.func 41), args := #[Operand.tmp 73], argTypes := #[28] }, type := 28, pos := "ref.go:48", after := #[{ on := 3, ground := Ground.data }], guard := none }) rfl (fun K hK => ?_) AllReadyH.nil
            refine wantCall1 ?_ 41 (.tmp 73) #[28] ?_ (.slice a1 n1 c1) ?_ ?_ (ent_rsort _ _) ?_
            · rfl
            · rfl
            · rfl
            · rfl
            refine (HSo1.out _ (HU.out.trans ((Old.refl wr).drew))).mono ?_
            rintro o x5 ⟨va, rfl, ra, ua⟩
            have U5 := ((Old.refl wr).drew).trans ua
            have HKa := hid (fun (W : World) (u : Old x5 W) => sameKeysG _ _ n1 L1.length x1 (atN L1) W (R1.out.old ((HU.out.trans U5).trans u)) ((HT1.out _ _ _ ra).old u))
            rw [← HO1.out] at HKa
            refine ⟨_, rfl, ?_⟩
            refine hK.out _ _ (SubAt.old U5 BR.out) (fun _ => ?_)
            clear hK K
            (try simp only [Act.put]); (try simp only [List.setIfInBounds_toArray]); (try simp only [List.set_cons_succ]); (try simp only [List.set_cons_zero])
            refine wpAnyH_ready (rs := [5]) (by kernel_rfl) (by simp) ?_
            refine AllReadyH.cons (o := { dst := some 75, op := Op.call { callee := Callee.value (Operand.func 40), args := #[Operand.tmp 71, Operand.tmp 74], argTypes := #[28, 28] }, type := 4, pos := "ref.go:48", after := #[{ on := 1, ground := Ground.data }, { on := 4, ground := Ground.data }, { on := 4, ground := Ground.chain }], guard := none }) rfl (fun K hK => ?_) AllReadyH.nil
            refine wantCall2 ?_ 40 (.tmp 71) (.tmp 74) #[28, 28] ?_ (.slice a1 n1 c1) (va) ?_ ?_ ?_ (ent_rsk _ _) ?_
            · rfl
            · rfl
            · rfl
            · rfl
            · rfl
            refine (HKa.out _ (Old.refl _)).mono ?_
            rintro o x6 ⟨rfl, b6⟩
            have U6 := U5.trans b6
            refine ⟨_, rfl, ?_⟩
            refine hK.out _ _ (SubAt.old U6 BR.out) (fun _ => ?_)
            clear hK K
            (try simp only [Act.put]); (try simp only [List.setIfInBounds_toArray]); (try simp only [List.set_cons_succ]); (try simp only [List.set_cons_zero])
            refine wpAnyH_take (i := 6) (oi := { dst := some 76, op := Op.unOp UnOp.not 4 (Operand.tmp 75), type := 4, pos := "ref.go:48", after := #[{ on := 5, ground := Ground.data }], guard := none }) (v := ?vk7) rfl (by kernel_rfl) (by kernel_rfl) (by kernel_rfl) (fun _ _ _ h => h) (Or.inl ⟨by rfl, ?hk7⟩) (SubAt.old U6 BR.out) ?rk7
            case hk7 => (intro wz hSw; (try dsimp only at hSw); go_simp; try with_reducible rfl)
            (try simp only [Act.put]); (try simp only [List.setIfInBounds_toArray]); (try simp only [List.set_cons_succ]); (try simp only [List.set_cons_zero])
            refine wpAnyH_take (i := 7) (oi := { dst := some 77, op := Op.move (Operand.tmp 76), type := 4, pos := "ref.go:48", after := #[{ on := 6, ground := Ground.data }, { on := 5, ground := Ground.chain }], guard := none }) (v := ?vk8) rfl (by kernel_rfl) (by kernel_rfl) (by kernel_rfl) (fun _ _ _ h => h) (Or.inl ⟨by rfl, ?hk8⟩) (SubAt.old U6 BR.out) ?rk8
            case hk8 => (intro wz hSw; (try dsimp only at hSw); go_simp; try with_reducible rfl)
            (try simp only [Act.put]); (try simp only [List.setIfInBounds_toArray]); (try simp only [List.set_cons_succ]); (try simp only [List.set_cons_zero])
            refine wpAnyH_take (i := 8) (oi := { dst := some 78, op := Op.fieldAddr 31 (Operand.tmp 1) 5, type := 0, pos := "ref.go:48", after := #[{ on := 7, ground := Ground.guard }], guard := some (7, false) }) (v := undef) rfl (by kernel_rfl) (by kernel_rfl) (by kernel_rfl) (fun _ _ _ h => h) (Or.inr ⟨by rfl, rfl⟩) (SubAt.old U6 BR.out) ?_
            (try simp only [Act.put]); (try simp only [List.setIfInBounds_toArray]); (try simp only [List.set_cons_succ]); (try simp only [List.set_cons_zero])
            refine wpAnyH_take (i := 9) (oi := { dst := some 79, op := Op.load 28 (Operand.tmp 78), type := 28, pos := "ref.go:48", after := #[{ on := 8, ground := Ground.data }, { on := 7, ground := Ground.guard }], guard := some (7, false) }) (v := undef) rfl (by kernel_rfl) (by kernel_rfl) (by kernel_rfl) (fun _ _ _ h => h) (Or.inr ⟨by rfl, rfl⟩) (SubAt.old U6 BR.out) ?_
            (try simp only [Act.put]); (try simp only [List.setIfInBounds_toArray]); (try simp only [List.set_cons_succ]); (try simp only [List.set_cons_zero])
            refine wpAnyH_take (i := 10) (oi := { dst := some 80, op := Op.fieldAddr 31 (Operand.tmp 1) 5, type := 0, pos := "ref.go:48", after := #[{ on := 7, ground := Ground.guard }], guard := some (7, false) }) (v := undef) rfl (by kernel_rfl) (by kernel_rfl) (by kernel_rfl) (fun _ _ _ h => h) (Or.inr ⟨by rfl, rfl⟩) (SubAt.old U6 BR.out) ?_
            (try simp only [Act.put]); (try simp only [List.setIfInBounds_toArray]); (try simp only [List.set_cons_succ]); (try simp only [List.set_cons_zero])
            refine wpAnyH_take (i := 11) (oi := { dst := some 81, op := Op.load 28 (Operand.tmp 80), type := 28, pos := "ref.go:48", after := #[{ on := 10, ground := Ground.data }, { on := 7, ground := Ground.guard }], guard := some (7, false) }) (v := undef) rfl (by kernel_rfl) (by kernel_rfl) (by kernel_rfl) (fun _ _ _ h => h) (Or.inr ⟨by rfl, rfl⟩) (SubAt.old U6 BR.out) ?_
            (try simp only [Act.put]); (try simp only [List.setIfInBounds_toArray]); (try simp only [List.set_cons_succ]); (try simp only [List.set_cons_zero])
            refine wpAnyH_take (i := 12) (oi := { dst := some 82, op := Op.call { callee := Callee.value (Operand.func 41), args := #[Operand.tmp 81], argTypes := #[28] }, type := 28, pos := "ref.go:48", after := #[{ on := 11, ground := Ground.data }, { on := 7, ground := Ground.chain }, { on := 7, ground := Ground.guard }], guard := some (7, false) }) (v := undef) rfl (by kernel_rfl) (by kernel_rfl) (by kernel_rfl) (fun _ _ _ h => h) (Or.inr ⟨by rfl, rfl⟩) (SubAt.old U6 BR.out) ?_
            (try simp only [Act.put]); (try simp only [List.setIfInBounds_toArray]); (try simp only [List.set_cons_succ]); (try simp only [List.set_cons_zero])
            refine wpAnyH_take (i := 13) (oi := { dst := some 83, op := Op.call { callee := Callee.value (Operand.func 40), args := #[Operand.tmp 79, Operand.tmp 82], argTypes := #[28, 28] }, type := 4, pos := "ref.go:48", after := #[{ on := 9, ground := Ground.data }, { on := 12, ground := Ground.data }, { on := 12, ground := Ground.chain }, { on := 7, ground := Ground.guard }], guard := some (7, false) }) (v := undef) rfl (by kernel_rfl) (by kernel_rfl) (by kernel_rfl) (fun _ _ _ h => h) (Or.inr ⟨by rfl, rfl⟩) (SubAt.old U6 BR.out) ?_
            (try simp only [Act.put]); (try simp only [List.setIfInBounds_toArray]); (try simp only [List.set_cons_succ]); (try simp only [List.set_cons_zero])
            refine wpAnyH_take (i := 14) (oi := { dst := some 84, op := Op.unOp UnOp.not 4 (Operand.tmp 83), type := 4, pos := "ref.go:48", after := #[{ on := 13, ground := Ground.data }, { on := 7, ground := Ground.guard }], guard := some (7, false) }) (v := undef) rfl (by kernel_rfl) (by kernel_rfl) (by kernel_rfl) (fun _ _ _ h => h) (Or.inr ⟨by rfl, rfl⟩) (SubAt.old U6 BR.out) ?_
            (try simp only [Act.put]); (try simp only [List.setIfInBounds_toArray]); (try simp only [List.set_cons_succ]); (try simp only [List.set_cons_zero])
            refine wpAnyH_take (i := 15) (oi := { dst := some 85, op := Op.pick (Operand.tmp 77) (Operand.const (Value.bool true)) (Operand.tmp 84), type := 4, pos := "ref.go:48", after := #[{ on := 7, ground := Ground.data }, { on := 14, ground := Ground.data }], guard := none }) (v := ?vk9) rfl (by kernel_rfl) (by kernel_rfl) (by kernel_rfl) (fun _ _ _ h => h) (Or.inl ⟨by rfl, ?hk9⟩) (SubAt.old U6 BR.out) ?rk9
            case hk9 => (intro wz hSw; (try dsimp only at hSw); go_simp; try with_reducible rfl)
            (try simp only [Act.put]); (try simp only [List.setIfInBounds_toArray]); (try simp only [List.set_cons_succ]); (try simp only [List.set_cons_zero])
            refine wpAnyH_take (i := 16) (oi := { dst := some 86, op := Op.move (Operand.tmp 85), type := 4, pos := "ref.go:48", after := #[{ on := 15, ground := Ground.data }, { on := 13, ground := Ground.chain }], guard := none }) (v := ?vk10) rfl (by kernel_rfl) (by kernel_rfl) (by kernel_rfl) (fun _ _ _ h => h) (Or.inl ⟨by rfl, ?hk10⟩) (SubAt.old U6 BR.out) ?rk10
            case hk10 => (intro wz hSw; (try dsimp only at hSw); go_simp; try with_reducible rfl)
            (try simp only [Act.put]); (try simp only [List.setIfInBounds_toArray]); (try simp only [List.set_cons_succ]); (try simp only [List.set_cons_zero])
            refine wpAnyH_take (i := 17) (oi := { dst := some 87, op := Op.fieldAddr 31 (Operand.tmp 1) 4, type := 0, pos := "ref.go:48", after := #[{ on := 16, ground := Ground.guard }], guard := some (16, false) }) (v := undef) rfl (by kernel_rfl) (by kernel_rfl) (by kernel_rfl) (fun _ _ _ h => h) (Or.inr ⟨by rfl, rfl⟩) (SubAt.old U6 BR.out) ?_
            (try simp only [Act.put]); (try simp only [List.setIfInBounds_toArray]); (try simp only [List.set_cons_succ]); (try simp only [List.set_cons_zero])
            refine wpAnyH_take (i := 18) (oi := { dst := some 88, op := Op.load 29 (Operand.tmp 87), type := 29, pos := "ref.go:48", after := #[{ on := 17, ground := Ground.data }, { on := 16, ground := Ground.guard }], guard := some (16, false) }) (v := undef) rfl (by kernel_rfl) (by kernel_rfl) (by kernel_rfl) (fun _ _ _ h => h) (Or.inr ⟨by rfl, rfl⟩) (SubAt.old U6 BR.out) ?_
            (try simp only [Act.put]); (try simp only [List.setIfInBounds_toArray]); (try simp only [List.set_cons_succ]); (try simp only [List.set_cons_zero])
            refine wpAnyH_take (i := 19) (oi := { dst := some 89, op := Op.fieldAddr 31 (Operand.tmp 1) 4, type := 0, pos := "ref.go:48", after := #[{ on := 16, ground := Ground.guard }], guard := some (16, false) }) (v := undef) rfl (by kernel_rfl) (by kernel_rfl) (by kernel_rfl) (fun _ _ _ h => h) (Or.inr ⟨by rfl, rfl⟩) (SubAt.old U6 BR.out) ?_
            (try simp only [Act.put]); (try simp only [List.setIfInBounds_toArray]); (try simp only [List.set_cons_succ]); (try simp only [List.set_cons_zero])
            refine wpAnyH_take (i := 20) (oi := { dst := some 90, op := Op.load 29 (Operand.tmp 89), type := 29, pos := "ref.go:48", after := #[{ on := 19, ground := Ground.data }, { on := 16, ground := Ground.guard }], guard := some (16, false) }) (v := undef) rfl (by kernel_rfl) (by kernel_rfl) (by kernel_rfl) (fun _ _ _ h => h) (Or.inr ⟨by rfl, rfl⟩) (SubAt.old U6 BR.out) ?_
            (try simp only [Act.put]); (try simp only [List.setIfInBounds_toArray]); (try simp only [List.set_cons_succ]); (try simp only [List.set_cons_zero])
            refine wpAnyH_take (i := 21) (oi := { dst := some 91, op := Op.call { callee := Callee.value (Operand.func 44), args := #[Operand.tmp 90], argTypes := #[29] }, type := 72, pos := "ref.go:48", after := #[{ on := 20, ground := Ground.data }, { on := 16, ground := Ground.chain }, { on := 16, ground := Ground.guard }], guard := some (16, false) }) (v := undef) rfl (by kernel_rfl) (by kernel_rfl) (by kernel_rfl) (fun _ _ _ h => h) (Or.inr ⟨by rfl, rfl⟩) (SubAt.old U6 BR.out) ?_
            (try simp only [Act.put]); (try simp only [List.setIfInBounds_toArray]); (try simp only [List.set_cons_succ]); (try simp only [List.set_cons_zero])
            refine wpAnyH_take (i := 22) (oi := { dst := some 92, op := Op.call { callee := Callee.value (Operand.func 43), args := #[Operand.tmp 91], argTypes := #[72] }, type := 29, pos := "ref.go:48", after := #[{ on := 21, ground := Ground.data }, { on := 21, ground := Ground.chain }, { on := 16, ground := Ground.guard }], guard := some (16, false) }) (v := undef) rfl (by kernel_rfl) (by kernel_rfl) (by kernel_rfl) (fun _ _ _ h => h) (Or.inr ⟨by rfl, rfl⟩) (SubAt.old U6 BR.out) ?_
            (try simp only [Act.put]); (try simp only [List.setIfInBounds_toArray]); (try simp only [List.set_cons_succ]); (try simp only [List.set_cons_zero])
            refine wpAnyH_take (i := 23) (oi := { dst := some 93, op := Op.call { callee := Callee.value (Operand.func 42), args := #[Operand.tmp 88, Operand.tmp 92], argTypes := #[29, 29] }, type := 4, pos := "ref.go:48", after := #[{ on := 18, ground := Ground.data }, { on := 22, ground := Ground.data }, { on := 22, ground := Ground.chain }, { on := 16, ground := Ground.guard }], guard := some (16, false) }) (v := undef) rfl (by kernel_rfl) (by kernel_rfl) (by kernel_rfl) (fun _ _ _ h => h) (Or.inr ⟨by rfl, rfl⟩) (SubAt.old U6 BR.out) ?_
            (try simp only [Act.put]); (try simp only [List.setIfInBounds_toArray]); (try simp only [List.set_cons_succ]); (try simp only [List.set_cons_zero])
            refine wpAnyH_take (i := 24) (oi := { dst := some 94, op := Op.unOp UnOp.not 4 (Operand.tmp 93), type := 4, pos := "ref.go:48", after := #[{ on := 23, ground := Ground.data }, { on := 16, ground := Ground.guard }], guard := some (16, false) }) (v := undef) rfl (by kernel_rfl) (by kernel_rfl) (by kernel_rfl) (fun _ _ _ h => h) (Or.inr ⟨by rfl, rfl⟩) (SubAt.old U6 BR.out) ?_
            (try simp only [Act.put]); (try simp only [List.setIfInBounds_toArray]); (try simp only [List.set_cons_succ]); (try simp only [List.set_cons_zero])
            refine wpAnyH_take (i := 25) (oi := { dst := some 95, op := Op.pick (Operand.tmp 86) (Operand.const (Value.bool true)) (Operand.tmp 94), type := 4, pos := "ref.go:48", after := #[{ on := 16, ground := Ground.data }, { on := 24, ground := Ground.data }], guard := none }) (v := ?vk11) rfl (by kernel_rfl) (by kernel_rfl) (by kernel_rfl) (fun _ _ _ h => h) (Or.inl ⟨by rfl, ?hk11⟩) (SubAt.old U6 BR.out) ?rk11
            case hk11 => (intro wz hSw; (try dsimp only at hSw); go_simp; try with_reducible rfl)
            (try simp only [Act.put]); (try simp only [List.setIfInBounds_toArray]); (try simp only [List.set_cons_succ]); (try simp only [List.set_cons_zero])
            refine wpAnyH_done (by kernel_rfl) ?_ _
            refine NoPanic.normal ?_
            have U9 := hid U6
            go_wp2
            go_ret
            exact ⟨by rw [HZ.out]; first | rfl | (rw [Bool.and_false]; rfl), HU.out.trans U9.out⟩
          · cases o3
            · refine wp_region_noPanic ?_
              refine wp_region_held_drew (S := SubAt sb s1 s2 s3 (.slice a1 n1 c1) (.slice a2 j c2) (.slice a3 n3 c3)) (by kernel_rfl) ?_ (fun hHeld => ?_)
              · exact SubAt.old ((Old.refl wr).drew) BR.out
              (try simp only [Act.put]); (try simp only [List.setIfInBounds_toArray]); (try simp only [List.set_cons_succ]); (try simp only [List.set_cons_zero])
              clear hHeld
              refine wpAnyH_take (i := 0) (oi := { dst := some 70, op := Op.fieldAddr 31 (Operand.tmp 1) 3, type := 0, pos := "ref.go:48", after := #[], guard := none }) (v := ?vk12) rfl (by kernel_rfl) (by kernel_rfl) (by kernel_rfl) (fun _ _ _ h => h) (Or.inl ⟨by rfl, ?hk12⟩) (SubAt.old ((Old.refl wr).drew) BR.out) ?rk12
              case hk12 => (intro wz hSw; (try dsimp only at hSw); go_simp; try with_reducible rfl)
              (try simp only [Act.put]); (try simp only [List.setIfInBounds_toArray]); (try simp only [List.set_cons_succ]); (try simp only [List.set_cons_zero])
              refine wpAnyH_take (i := 1) (oi := { dst := some 71, op := Op.load 28 (Operand.tmp 70), type := 28, pos := "ref.go:48", after := #[{ on := 0, ground := Ground.data }], guard := none }) (v := ?vk13) rfl (by kernel_rfl) (by kernel_rfl) (by kernel_rfl) (fun _ _ _ h => h) (Or.inl ⟨by rfl, ?hk13⟩) (SubAt.old ((Old.refl wr).drew) BR.out) ?rk13
              case hk13 => (intro wz hSw; (try dsimp only at hSw); go_simp; try with_reducible rfl)
              (try simp only [Act.put]); (try simp only [List.setIfInBounds_toArray]); (try simp only [List.set_cons_succ]); (try simp only [List.set_cons_zero])
              refine wpAnyH_take (i := 2) (oi := { dst := some 72, op := Op.fieldAddr 31 (Operand.tmp 1) 3, type := 0, pos := "ref.go:48", after := #[], guard := none }) (v := ?vk14) rfl (by kernel_rfl) (by kernel_rfl) (by kernel_rfl) (fun _ _ _ h => h) (Or.inl ⟨by rfl, ?hk14⟩) (SubAt.old ((Old.refl wr).drew) BR.out) ?rk14
              case hk14 => (intro wz hSw; (try dsimp only at hSw); go_simp; try with_reducible rfl)
              (try simp only [Act.put]); (try simp only [List.setIfInBounds_toArray]); (try simp only [List.set_cons_succ]); (try simp only [List.set_cons_zero])
              refine wpAnyH_take (i := 3) (oi := { dst := some 73, op := Op.load 28 (Operand.tmp 72), type := 28, pos := "ref.go:48", after := #[{ on := 2, ground := Ground.data }], guard := none }) (v := ?vk15) rfl (by kernel_rfl) (by kernel_rfl) (by kernel_rfl) (fun _ _ _ h => h) (Or.inl ⟨by rfl, ?hk15⟩) (SubAt.old ((Old.refl wr).drew) BR.out) ?rk15
              case hk15 => (intro wz hSw; (try dsimp only at hSw); go_simp; try with_reducible rfl)
              (try simp only [Act.put]); (try simp only [List.setIfInBounds_toArray]); (try simp only [List.set_cons_succ]); (try simp only [List.set_cons_zero])
              refine wpAnyH_ready (rs := [4]) (by kernel_rfl) (by simp) ?_
              refine AllReadyH.cons (o := { dst := some 74, op := Op.call { callee := Callee.value (Operand.func 41), args := #[Operand.tmp 73], argTypes := #[28] }, type := 28, pos := "ref.go:48", after := #[{ on := 3, ground := Ground.data }], guard := none }) rfl (fun K hK => ?_) AllReadyH.nil
              refine wantCall1 ?_ 41 (.tmp 73) #[28] ?_ (.slice a1 n1 c1) ?_ ?_ (ent_rsort _ _) ?_
              · rfl
              · rfl
              · rfl
              · rfl
              refine (HSo1.out _ (HU.out.trans ((Old.refl wr).drew))).mono ?_
              rintro o x16 ⟨va, rfl, ra, ua⟩
              have U16 := ((Old.refl wr).drew).trans ua
              have HKa := hid (fun (W : World) (u : Old x16 W) => sameKeysG _ _ n1 L1.length x1 (atN L1) W (R1.out.old ((HU.out.trans U16).trans u)) ((HT1.out _ _ _ ra).old u))
              rw [← HO1.out] at HKa
              refine ⟨_, rfl, ?_⟩
              refine hK.out _ _ (SubAt.old U16 BR.out) (fun _ => ?_)
              clear hK K
              (try simp only [Act.put]); (try simp only [List.setIfInBounds_toArray]); (try simp only [List.set_cons_succ]); (try simp only [List.set_cons_zero])
              refine wpAnyH_ready (rs := [5]) (by kernel_rfl) (by simp) ?_
              refine AllReadyH.cons (o := { dst := some 75, op := Op.call { callee := Callee.value (Operand.func 40), args := #[Operand.tmp 71, Operand.tmp 74], argTypes := #[28, 28] }, type := 4, pos := "ref.go:48", after := #[{ on := 1, ground := Ground.data }, { on := 4, ground := Ground.data }, { on := 4, ground := Ground.chain }], guard := none }) rfl (fun K hK => ?_) AllReadyH.nil
              refine wantCall2 ?_ 40 (.tmp 71) (.tmp 74) #[28, 28] ?_ (.slice a1 n1 c1) (va) ?_ ?_ ?_ (ent_rsk _ _) ?_
              · rfl
              · rfl
              · rfl
              · rfl
              · rfl
              refine (HKa.out _ (Old.refl _)).mono ?_
              rintro o x17 ⟨rfl, b17⟩
              have U17 := U16.trans b17
              refine ⟨_, rfl, ?_⟩
              refine hK.out _ _ (SubAt.old U17 BR.out) (fun _ => ?_)
              clear hK K
              (try simp only [Act.put]); (try simp only [List.setIfInBounds_toArray]); (try simp only [List.set_cons_succ]); (try simp only [List.set_cons_zero])
              refine wpAnyH_take (i := 6) (oi := { dst := some 76, op := Op.unOp UnOp.not 4 (Operand.tmp 75), type := 4, pos := "ref.go:48", after := #[{ on := 5, ground := Ground.data }], guard := none }) (v := ?vk18) rfl (by kernel_rfl) (by kernel_rfl) (by kernel_rfl) (fun _ _ _ h => h) (Or.inl ⟨by rfl, ?hk18⟩) (SubAt.old U17 BR.out) ?rk18
              case hk18 => (intro wz hSw; (try dsimp only at hSw); go_simp; try with_reducible rfl)
              (try simp only [Act.put]); (try simp only [List.setIfInBounds_toArray]); (try simp only [List.set_cons_succ]); (try simp only [List.set_cons_zero])
              refine wpAnyH_take (i := 7) (oi := { dst := some 77, op := Op.move (Operand.tmp 76), type := 4, pos := "ref.go:48", after := #[{ on := 6, ground := Ground.data }, { on := 5, ground := Ground.chain }], guard := none }) (v := ?vk19) rfl (by kernel_rfl) (by kernel_rfl) (by kernel_rfl) (fun _ _ _ h => h) (Or.inl ⟨by rfl, ?hk19⟩) (SubAt.old U17 BR.out) ?rk19
              case hk19 => (intro wz hSw; (try dsimp only at hSw); go_simp; try with_reducible rfl)
              (try simp only [Act.put]); (try simp only [List.setIfInBounds_toArray]); (try simp only [List.set_cons_succ]); (try simp only [List.set_cons_zero])
              refine wpAnyH_take (i := 8) (oi := { dst := some 78, op := Op.fieldAddr 31 (Operand.tmp 1) 5, type := 0, pos := "ref.go:48", after := #[{ on := 7, ground := Ground.guard }], guard := some (7, false) }) (v := ?vk20) rfl (by kernel_rfl) (by kernel_rfl) (by kernel_rfl) (fun _ _ _ h => h) (Or.inl ⟨by rfl, ?hk20⟩) (SubAt.old U17 BR.out) ?rk20
              case hk20 => (intro wz hSw; (try dsimp only at hSw); go_simp; try with_reducible rfl)
              (try simp only [Act.put]); (try simp only [List.setIfInBounds_toArray]); (try simp only [List.set_cons_succ]); (try simp only [List.set_cons_zero])
              refine wpAnyH_take (i := 9) (oi := { dst := some 79, op := Op.load 28 (Operand.tmp 78), type := 28, pos := "ref.go:48", after := #[{ on := 8, ground := Ground.data }, { on := 7, ground := Ground.guard }], guard := some (7, false) }) (v := ?vk21) rfl (by kernel_rfl) (by kernel_rfl) (by kernel_rfl) (fun _ _ _ h => h) (Or.inl ⟨by rfl, ?hk21⟩) (SubAt.old U17 BR.out) ?rk21
              case hk21 => (intro wz hSw; (try dsimp only at hSw); go_simp; try with_reducible rfl)
              (try simp only [Act.put]); (try simp only [List.setIfInBounds_toArray]); (try simp only [List.set_cons_succ]); (try simp only [List.set_cons_zero])
              refine wpAnyH_take (i := 10) (oi := { dst := some 80, op := Op.fieldAddr 31 (Operand.tmp 1) 5, type := 0, pos := "ref.go:48", after := #[{ on := 7, ground := Ground.guard }], guard := some (7, false) }) (v := ?vk22) rfl (by kernel_rfl) (by kernel_rfl) (by kernel_rfl) (fun _ _ _ h => h) (Or.inl ⟨by rfl, ?hk22⟩) (SubAt.old U17 BR.out) ?rk22
              case hk22 => (intro wz hSw; (try dsimp only at hSw); go_simp; try with_reducible rfl)
              (try simp only [Act.put]); (try simp only [List.setIfInBounds_toArray]); (try simp only [List.set_cons_succ]); (try simp only [List.set_cons_zero])
              refine wpAnyH_take (i := 11) (oi := { dst := some 81, op := Op.load 28 (Operand.tmp 80), type := 28, pos := "ref.go:48", after := #[{ on := 10, ground := Ground.data }, { on := 7, ground := Ground.guard }], guard := some (7, false) }) (v := ?vk23) rfl (by kernel_rfl) (by kernel_rfl) (by kernel_rfl) (fun _ _ _ h => h) (Or.inl ⟨by rfl, ?hk23⟩) (SubAt.old U17 BR.out) ?rk23
              case hk23 => (intro wz hSw; (try dsimp only at hSw); go_simp; try with_reducible rfl)
              (try simp only [Act.put]); (try simp only [List.setIfInBounds_toArray]); (try simp only [List.set_cons_succ]); (try simp only [List.set_cons_zero])
              refine wpAnyH_ready (rs := [12]) (by kernel_rfl) (by simp) ?_
              refine AllReadyH.cons (o := { dst := some 82, op := Op.call { callee := Callee.value (Operand.func 41), args := #[Operand.tmp 81], argTypes := #[28] }, type := 28, pos := "ref.go:48", after := #[{ on := 11, ground := Ground.data }, { on := 7, ground := Ground.chain }, { on := 7, ground := Ground.guard }], guard := some (7, false) }) rfl (fun K hK => ?_) AllReadyH.nil
              refine wantCall1 ?_ 41 (.tmp 81) #[28] ?_ (.slice a3 n3 c3) ?_ ?_ (ent_rsort _ _) ?_
              · rfl
              · rfl
              · rfl
              · rfl
              refine (HSo3.out _ (HU.out.trans U17)).mono ?_
              rintro o x24 ⟨vd, rfl, rd, ud⟩
              have U24 := U17.trans ud
              have HKd := hid (fun (W : World) (u : Old x24 W) => sameKeysG _ _ n3 L3.length x3 (atN L3) W (R3.out.old ((HU.out.trans U24).trans u)) ((HT3.out _ _ _ rd).old u))
              rw [← HO3.out] at HKd
              refine ⟨_, rfl, ?_⟩
              refine hK.out _ _ (SubAt.old U24 BR.out) (fun _ => ?_)
              clear hK K
              (try simp only [Act.put]); (try simp only [List.setIfInBounds_toArray]); (try simp only [List.set_cons_succ]); (try simp only [List.set_cons_zero])
              refine wpAnyH_ready (rs := [13]) (by kernel_rfl) (by simp) ?_
              refine AllReadyH.cons (o := { dst := some 83, op := Op.call { callee := Callee.value (Operand.func 40), args := #[Operand.tmp 79, Operand.tmp 82], argTypes := #[28, 28] }, type := 4, pos := "ref.go:48", after := #[{ on := 9, ground := Ground.data }, { on := 12, ground := Ground.data }, { on := 12, ground := Ground.chain }, { on := 7, ground := Ground.guard }], guard := some (7, false) }) rfl (fun K hK => ?_) AllReadyH.nil
              refine wantCall2 ?_ 40 (.tmp 79) (.tmp 82) #[28, 28] ?_ (.slice a3 n3 c3) (vd) ?_ ?_ ?_ (ent_rsk _ _) ?_
              · rfl
              · rfl
              · rfl
              · rfl
              · rfl
              refine (HKd.out _ (Old.refl _)).mono ?_
              rintro o x25 ⟨rfl, b25⟩
              have U25 := U24.trans b25
              refine ⟨_, rfl, ?_⟩
              refine hK.out _ _ (SubAt.old U25 BR.out) (fun _ => ?_)
              clear hK K
              (try simp only [Act.put]); (try simp only [List.setIfInBounds_toArray]); (try simp only [List.set_cons_succ]); (try simp only [List.set_cons_zero])
              refine wpAnyH_take (i := 14) (oi := { dst := some 84, op := Op.unOp UnOp.not 4 (Operand.tmp 83), type := 4, pos := "ref.go:48", after := #[{ on := 13, ground := Ground.data }, { on := 7, ground := Ground.guard }], guard := some (7, false) }) (v := ?vk26) rfl (by kernel_rfl) (by kernel_rfl) (by kernel_rfl) (fun _ _ _ h => h) (Or.inl ⟨by rfl, ?hk26⟩) (SubAt.old U25 BR.out) ?rk26
              case hk26 => (intro wz hSw; (try dsimp only at hSw); go_simp; try with_reducible rfl)
              (try simp only [Act.put]); (try simp only [List.setIfInBounds_toArray]); (try simp only [List.set_cons_succ]); (try simp only [List.set_cons_zero])
              refine wpAnyH_take (i := 15) (oi := { dst := some 85, op := Op.pick (Operand.tmp 77) (Operand.const (Value.bool true)) (Operand.tmp 84), type := 4, pos := "ref.go:48", after := #[{ on := 7, ground := Ground.data }, { on := 14, ground := Ground.data }], guard := none }) (v := ?vk27) rfl (by kernel_rfl) (by kernel_rfl) (by kernel_rfl) (fun _ _ _ h => h) (Or.inl ⟨by rfl, ?hk27⟩) (SubAt.old U25 BR.out) ?rk27
              case hk27 => (intro wz hSw; (try dsimp only at hSw); go_simp; try with_reducible rfl)
              (try simp only [Act.put]); (try simp only [List.setIfInBounds_toArray]); (try simp only [List.set_cons_succ]); (try simp only [List.set_cons_zero])
              refine wpAnyH_take (i := 16) (oi := { dst := some 86, op := Op.move (Operand.tmp 85), type := 4, pos := "ref.go:48", after := #[{ on := 15, ground := Ground.data }, { on := 13, ground := Ground.chain }], guard := none }) (v := ?vk28) rfl (by kernel_rfl) (by kernel_rfl) (by kernel_rfl) (fun _ _ _ h => h) (Or.inl ⟨by rfl, ?hk28⟩) (SubAt.old U25 BR.out) ?rk28
              case hk28 => (intro wz hSw; (try dsimp only at hSw); go_simp; try with_reducible rfl)
              (try simp only [Act.put]); (try simp only [List.setIfInBounds_toArray]); (try simp only [List.set_cons_succ]); (try simp only [List.set_cons_zero])
              refine wpAnyH_take (i := 17) (oi := { dst := some 87, op := Op.fieldAddr 31 (Operand.tmp 1) 4, type := 0, pos := "ref.go:48", after := #[{ on := 16, ground := Ground.guard }], guard := some (16, false) }) (v := undef) rfl (by kernel_rfl) (by kernel_rfl) (by kernel_rfl) (fun _ _ _ h => h) (Or.inr ⟨by rfl, rfl⟩) (SubAt.old U25 BR.out) ?_
              (try simp only [Act.put]); (try simp only [List.setIfInBounds_toArray]); (try simp only [List.set_cons_succ]); (try simp only [List.set_cons_zero])
              refine wpAnyH_take (i := 18) (oi := { dst := some 88, op := Op.load 29 (Operand.tmp 87), type := 29, pos := "ref.go:48", after := #[{ on := 17, ground := Ground.data }, { on := 16, ground := Ground.guard }], guard := some (16, false) }) (v := undef) rfl (by kernel_rfl) (by kernel_rfl) (by kernel_rfl) (fun _ _ _ h => h) (Or.inr ⟨by rfl, rfl⟩) (SubAt.old U25 BR.out) ?_
              (try simp only [Act.put]); (try simp only [List.setIfInBounds_toArray]); (try simp only [List.set_cons_succ]); (try simp only [List.set_cons_zero])
              refine wpAnyH_take (i := 19) (oi := { dst := some 89, op := Op.fieldAddr 31 (Operand.tmp 1) 4, type := 0, pos := "ref.go:48", after := #[{ on := 16, ground := Ground.guard }], guard := some (16, false) }) (v := undef) rfl (by kernel_rfl) (by kernel_rfl) (by kernel_rfl) (fun _ _ _ h => h) (Or.inr ⟨by rfl, rfl⟩) (SubAt.old U25 BR.out) ?_
              (try simp only [Act.put]); (try simp only [List.setIfInBounds_toArray]); (try simp only [List.set_cons_succ]); (try simp only [List.set_cons_zero])
              refine wpAnyH_take (i := 20) (oi := { dst := some 90, op := Op.load 29 (Operand.tmp 89), type := 29, pos := "ref.go:48", after := #[{ on := 19, ground := Ground.data }, { on := 16, ground := Ground.guard }], guard := some (16, false) }) (v := undef) rfl (by kernel_rfl) (by kernel_rfl) (by kernel_rfl) (fun _ _ _ h => h) (Or.inr ⟨by rfl, rfl⟩) (SubAt.old U25 BR.out) ?_
              (try simp only [Act.put]); (try simp only [List.setIfInBounds_toArray]); (try simp only [List.set_cons_succ]); (try simp only [List.set_cons_zero])
              refine wpAnyH_take (i := 21) (oi := { dst := some 91, op := Op.call { callee := Callee.value (Operand.func 44), args := #[Operand.tmp 90], argTypes := #[29] }, type := 72, pos := "ref.go:48", after := #[{ on := 20, ground := Ground.data }, { on := 16, ground := Ground.chain }, { on := 16, ground := Ground.guard }], guard := some (16, false) }) (v := undef) rfl (by kernel_rfl) (by kernel_rfl) (by kernel_rfl) (fun _ _ _ h => h) (Or.inr ⟨by rfl, rfl⟩) (SubAt.old U25 BR.out) ?_
              (try simp only [Act.put]); (try simp only [List.setIfInBounds_toArray]); (try simp only [List.set_cons_succ]); (try simp only [List.set_cons_zero])
              refine wpAnyH_take (i := 22) (oi := { dst := some 92, op := Op.call { callee := Callee.value (Operand.func 43), args := #[Operand.tmp 91], argTypes := #[72] }, type := 29, pos := "ref.go:48", after := #[{ on := 21, ground := Ground.data }, { on := 21, ground := Ground.chain }, { on := 16, ground := Ground.guard }], guard := some (16, false) }) (v := undef) rfl (by kernel_rfl) (by kernel_rfl) (by kernel_rfl) (fun _ _ _ h => h) (Or.inr ⟨by rfl, rfl⟩) (SubAt.old U25 BR.out) ?_
              (try simp only [Act.put]); (try simp only [List.setIfInBounds_toArray]); (try simp only [List.set_cons_succ]); (try simp only [List.set_cons_zero])
              refine wpAnyH_take (i := 23) (oi := { dst := some 93, op := Op.call { callee := Callee.value (Operand.func 42), args := #[Operand.tmp 88, Operand.tmp 92], argTypes := #[29, 29] }, type := 4, pos := "ref.go:48", after := #[{ on := 18, ground := Ground.data }, { on := 22, ground := Ground.data }, { on := 22, ground := Ground.chain }, { on := 16, ground := Ground.guard }], guard := some (16, false) }) (v := undef) rfl (by kernel_rfl) (by kernel_rfl) (by kernel_rfl) (fun _ _ _ h => h) (Or.inr ⟨by rfl, rfl⟩) (SubAt.old U25 BR.out) ?_
              (try simp only [Act.put]); (try simp only [List.setIfInBounds_toArray]); (try simp only [List.set_cons_succ]); (try simp only [List.set_cons_zero])
              refine wpAnyH_take (i := 24) (oi := { dst := some 94, op := Op.unOp UnOp.not 4 (Operand.tmp 93), type := 4, pos := "ref.go:48", after := #[{ on := 23, ground := Ground.data }, { on := 16, ground := Ground.guard }], guard := some (16, false) }) (v := undef) rfl (by kernel_rfl) (by kernel_rfl) (by kernel_rfl) (fun _ _ _ h => h) (Or.inr ⟨by rfl, rfl⟩) (SubAt.old U25 BR.out) ?_
              (try simp only [Act.put]); (try simp only [List.setIfInBounds_toArray]); (try simp only [List.set_cons_succ]); (try simp only [List.set_cons_zero])
              refine wpAnyH_take (i := 25) (oi := { dst := some 95, op := Op.pick (Operand.tmp 86) (Operand.const (Value.bool true)) (Operand.tmp 94), type := 4, pos := "ref.go:48", after := #[{ on := 16, ground := Ground.data }, { on := 24, ground := Ground.data }], guard := none }) (v := ?vk29) rfl (by kernel_rfl) (by kernel_rfl) (by kernel_rfl) (fun _ _ _ h => h) (Or.inl ⟨by rfl, ?hk29⟩) (SubAt.old U25 BR.out) ?rk29
              case hk29 => (intro wz hSw; (try dsimp only at hSw); go_simp; try with_reducible rfl)
              (try simp only [Act.put]); (try simp only [List.setIfInBounds_toArray]); (try simp only [List.set_cons_succ]); (try simp only [List.set_cons_zero])
              refine wpAnyH_done (by kernel_rfl) ?_ _
              refine NoPanic.normal ?_
              have U9 := hid U25
              go_wp2
              go_ret
              exact ⟨by rw [HZ.out]; first | rfl | (rw [Bool.and_false]; rfl), HU.out.trans U9.out⟩
            · cases o2
              · refine wp_region_noPanic ?_
                refine wp_region_held_drew (S := SubAt sb s1 s2 s3 (.slice a1 n1 c1) (.slice a2 j c2) (.slice a3 n3 c3)) (by kernel_rfl) ?_ (fun hHeld => ?_)
                · exact SubAt.old ((Old.refl wr).drew) BR.out
                (try simp only [Act.put]); (try simp only [List.setIfInBounds_toArray]); (try simp only [List.set_cons_succ]); (try simp only [List.set_cons_zero])
                clear hHeld
                refine wpAnyH_take (i := 0) (oi := { dst := some 70, op := Op.fieldAddr 31 (Operand.tmp 1) 3, type := 0, pos := "ref.go:48", after := #[], guard := none }) (v := ?vk30) rfl (by kernel_rfl) (by kernel_rfl) (by kernel_rfl) (fun _ _ _ h => h) (Or.inl ⟨by rfl, ?hk30⟩) (SubAt.old ((Old.refl wr).drew) BR.out) ?rk30
                case hk30 => (intro wz hSw; (try dsimp only at hSw); go_simp; try with_reducible rfl)
                (try simp only [Act.put]); (try simp only [List.setIfInBounds_toArray]); (try simp only [List.set_cons_succ]); (try simp only [List.set_cons_zero])
                refine wpAnyH_take (i := 1) (oi := { dst := some 71, op := Op.load 28 (Operand.tmp 70), type := 28, pos := "ref.go:48", after := #[{ on := 0, ground := Ground.data }], guard := none }) (v := ?vk31) rfl (by kernel_rfl) (by kernel_rfl) (by kernel_rfl) (fun _ _ _ h => h) (Or.inl ⟨by rfl, ?hk31⟩) (SubAt.old ((Old.refl wr).drew) BR.out) ?rk31
                case hk31 => (intro wz hSw; (try dsimp only at hSw); go_simp; try with_reducible rfl)
                (try simp only [Act.put]); (try simp only [List.setIfInBounds_toArray]); (try simp only [List.set_cons_succ]); (try simp only [List.set_cons_zero])
                refine wpAnyH_take (i := 2) (oi := { dst := some 72, op := Op.fieldAddr 31 (Operand.tmp 1) 3, type := 0, pos := "ref.go:48", after := #[], guard := none }) (v := ?vk32) rfl (by kernel_rfl) (by kernel_rfl) (by kernel_rfl) (fun _ _ _ h => h) (Or.inl ⟨by rfl, ?hk32⟩) (SubAt.old ((Old.refl wr).drew) BR.out) ?rk32
                case hk32 => (intro wz hSw; (try dsimp only at hSw); go_simp; try with_reducible rfl)
                (try simp only [Act.put]); (try simp only [List.setIfInBounds_toArray]); (try simp only [List.set_cons_succ]); (try simp only [List.set_cons_zero])
                refine wpAnyH_take (i := 3) (oi := { dst := some 73, op := Op.load 28 (Operand.tmp 72), type := 28, pos := "ref.go:48", after := #[{ on := 2, ground := Ground.data }], guard := none }) (v := ?vk33) rfl (by kernel_rfl) (by kernel_rfl) (by kernel_rfl) (fun _ _ _ h => h) (Or.inl ⟨by rfl, ?hk33⟩) (SubAt.old ((Old.refl wr).drew) BR.out) ?rk33
                case hk33 => (intro wz hSw; (try dsimp only at hSw); go_simp; try with_reducible rfl)
                (try simp only [Act.put]); (try simp only [List.setIfInBounds_toArray]); (try simp only [List.set_cons_succ]); (try simp only [List.set_cons_zero])
                refine wpAnyH_ready (rs := [4]) (by kernel_rfl) (by simp) ?_
                refine AllReadyH.cons (o := { dst := some 74, op := Op.call { callee := Callee.value (Operand.func 41), args := #[Operand.tmp 73], argTypes := #[28] }, type := 28, pos := "ref.go:48", after := #[{ on := 3, ground := Ground.data }], guard := none }) rfl (fun K hK => ?_) AllReadyH.nil
                refine wantCall1 ?_ 41 (.tmp 73) #[28] ?_ (.slice a1 n1 c1) ?_ ?_ (ent_rsort _ _) ?_
                · rfl
                · rfl
                · rfl
                · rfl
                refine (HSo1.out _ (HU.out.trans ((Old.refl wr).drew))).mono ?_
                rintro o x34 ⟨va, rfl, ra, ua⟩
                have U34 := ((Old.refl wr).drew).trans ua
                have HKa := hid (fun (W : World) (u : Old x34 W) => sameKeysG _ _ n1 L1.length x1 (atN L1) W (R1.out.old ((HU.out.trans U34).trans u)) ((HT1.out _ _ _ ra).old u))
                rw [← HO1.out] at HKa
                refine ⟨_, rfl, ?_⟩
                refine hK.out _ _ (SubAt.old U34 BR.out) (fun _ => ?_)
                clear hK K
                (try simp only [Act.put]); (try simp only [List.setIfInBounds_toArray]); (try simp only [List.set_cons_succ]); (try simp only [List.set_cons_zero])
                refine wpAnyH_ready (rs := [5]) (by kernel_rfl) (by simp) ?_
                refine AllReadyH.cons (o := { dst := some 75, op := Op.call { callee := Callee.value (Operand.func 40), args := #[Operand.tmp 71, Operand.tmp 74], argTypes := #[28, 28] }, type := 4, pos := "ref.go:48", after := #[{ on := 1, ground := Ground.data }, { on := 4, ground := Ground.data }, { on := 4, ground := Ground.chain }], guard := none }) rfl (fun K hK => ?_) AllReadyH.nil
                refine wantCall2 ?_ 40 (.tmp 71) (.tmp 74) #[28, 28] ?_ (.slice a1 n1 c1) (va) ?_ ?_ ?_ (ent_rsk _ _) ?_
                · rfl
                · rfl
                · rfl
                · rfl
                · rfl
                refine (HKa.out _ (Old.refl _)).mono ?_
                rintro o x35 ⟨rfl, b35⟩
                have U35 := U34.trans b35
                refine ⟨_, rfl, ?_⟩
                refine hK.out _ _ (SubAt.old U35 BR.out) (fun _ => ?_)
                clear hK K
                (try simp only [Act.put]); (try simp only [List.setIfInBounds_toArray]); (try simp only [List.set_cons_succ]); (try simp only [List.set_cons_zero])
                refine wpAnyH_take (i := 6) (oi := { dst := some 76, op := Op.unOp UnOp.not 4 (Operand.tmp 75), type := 4, pos := "ref.go:48", after := #[{ on := 5, ground := Ground.data }], guard := none }) (v := ?vk36) rfl (by kernel_rfl) (by kernel_rfl) (by kernel_rfl) (fun _ _ _ h => h) (Or.inl ⟨by rfl, ?hk36⟩) (SubAt.old U35 BR.out) ?rk36
                case hk36 => (intro wz hSw; (try dsimp only at hSw); go_simp; try with_reducible rfl)
                (try simp only [Act.put]); (try simp only [List.setIfInBounds_toArray]); (try simp only [List.set_cons_succ]); (try simp only [List.set_cons_zero])
                refine wpAnyH_take (i := 7) (oi := { dst := some 77, op := Op.move (Operand.tmp 76), type := 4, pos := "ref.go:48", after := #[{ on := 6, ground := Ground.data }, { on := 5, ground := Ground.chain }], guard := none }) (v := ?vk37) rfl (by kernel_rfl) (by kernel_rfl) (by kernel_rfl) (fun _ _ _ h => h) (Or.inl ⟨by rfl, ?hk37⟩) (SubAt.old U35 BR.out) ?rk37
                case hk37 => (intro wz hSw; (try dsimp only at hSw); go_simp; try with_reducible rfl)
                (try simp only [Act.put]); (try simp only [List.setIfInBounds_toArray]); (try simp only [List.set_cons_succ]); (try simp only [List.set_cons_zero])
                refine wpAnyH_take (i := 8) (oi := { dst := some 78, op := Op.fieldAddr 31 (Operand.tmp 1) 5, type := 0, pos := "ref.go:48", after := #[{ on := 7, ground := Ground.guard }], guard := some (7, false) }) (v := ?vk38) rfl (by kernel_rfl) (by kernel_rfl) (by kernel_rfl) (fun _ _ _ h => h) (Or.inl ⟨by rfl, ?hk38⟩) (SubAt.old U35 BR.out) ?rk38
                case hk38 => (intro wz hSw; (try dsimp only at hSw); go_simp; try with_reducible rfl)
                (try simp only [Act.put]); (try simp only [List.setIfInBounds_toArray]); (try simp only [List.set_cons_succ]); (try simp only [List.set_cons_zero])
                refine wpAnyH_take (i := 9) (oi := { dst := some 79, op := Op.load 28 (Operand.tmp 78), type := 28, pos := "ref.go:48", after := #[{ on := 8, ground := Ground.data }, { on := 7, ground := Ground.guard }], guard := some (7, false) }) (v := ?vk39) rfl (by kernel_rfl) (by kernel_rfl) (by kernel_rfl) (fun _ _ _ h => h) (Or.inl ⟨by rfl, ?hk39⟩) (SubAt.old U35 BR.out) ?rk39
                case hk39 => (intro wz hSw; (try dsimp only at hSw); go_simp; try with_reducible rfl)
                (try simp only [Act.put]); (try simp only [List.setIfInBounds_toArray]); (try simp only [List.set_cons_succ]); (try simp only [List.set_cons_zero])
                refine wpAnyH_take (i := 10) (oi := { dst := some 80, op := Op.fieldAddr 31 (Operand.tmp 1) 5, type := 0, pos := "ref.go:48", after := #[{ on := 7, ground := Ground.guard }], guard := some (7, false) }) (v := ?vk40) rfl (by kernel_rfl) (by kernel_rfl) (by kernel_rfl) (fun _ _ _ h => h) (Or.inl ⟨by rfl, ?hk40⟩) (SubAt.old U35 BR.out) ?rk40
                case hk40 => (intro wz hSw; (try dsimp only at hSw); go_simp; try with_reducible rfl)
                (try simp only [Act.put]); (try simp only [List.setIfInBounds_toArray]); (try simp only [List.set_cons_succ]); (try simp only [List.set_cons_zero])
                refine wpAnyH_take (i := 11) (oi := { dst := some 81, op := Op.load 28 (Operand.tmp 80), type := 28, pos := "ref.go:48", after := #[{ on := 10, ground := Ground.data }, { on := 7, ground := Ground.guard }], guard := some (7, false) }) (v := ?vk41) rfl (by kernel_rfl) (by kernel_rfl) (by kernel_rfl) (fun _ _ _ h => h) (Or.inl ⟨by rfl, ?hk41⟩) (SubAt.old U35 BR.out) ?rk41
                case hk41 => (intro wz hSw; (try dsimp only at hSw); go_simp; try with_reducible rfl)
                (try simp only [Act.put]); (try simp only [List.setIfInBounds_toArray]); (try simp only [List.set_cons_succ]); (try simp only [List.set_cons_zero])
                refine wpAnyH_ready (rs := [12]) (by kernel_rfl) (by simp) ?_
                refine AllReadyH.cons (o := { dst := some 82, op := Op.call { callee := Callee.value (Operand.func 41), args := #[Operand.tmp 81], argTypes := #[28] }, type := 28, pos := "ref.go:48", after := #[{ on := 11, ground := Ground.data }, { on := 7, ground := Ground.chain }, { on := 7, ground := Ground.guard }], guard := some (7, false) }) rfl (fun K hK => ?_) AllReadyH.nil
                refine wantCall1 ?_ 41 (.tmp 81) #[28] ?_ (.slice a3 n3 c3) ?_ ?_ (ent_rsort _ _) ?_
                · rfl
                · rfl
                · rfl
                · rfl
                refine (HSo3.out _ (HU.out.trans U35)).mono ?_
                rintro o x42 ⟨vd, rfl, rd, ud⟩
                have U42 := U35.trans ud
                have HKd := hid (fun (W : World) (u : Old x42 W) => sameKeysG _ _ n3 L3.length x3 (atN L3) W (R3.out.old ((HU.out.trans U42).trans u)) ((HT3.out _ _ _ rd).old u))
                rw [← HO3.out] at HKd
                refine ⟨_, rfl, ?_⟩
                refine hK.out _ _ (SubAt.old U42 BR.out) (fun _ => ?_)
                clear hK K
                (try simp only [Act.put]); (try simp only [List.setIfInBounds_toArray]); (try simp only [List.set_cons_succ]); (try simp only [List.set_cons_zero])
                refine wpAnyH_ready (rs := [13]) (by kernel_rfl) (by simp) ?_
                refine AllReadyH.cons (o := { dst := some 83, op := Op.call { callee := Callee.value (Operand.func 40), args := #[Operand.tmp 79, Operand.tmp 82], argTypes := #[28, 28] }, type := 4, pos := "ref.go:48", after := #[{ on := 9, ground := Ground.data }, { on := 12, ground := Ground.data }, { on := 12, ground := Ground.chain }, { on := 7, ground := Ground.guard }], guard := some (7, false) }) rfl (fun K hK => ?_) AllReadyH.nil
                refine wantCall2 ?_ 40 (.tmp 79) (.tmp 82) #[28, 28] ?_ (.slice a3 n3 c3) (vd) ?_ ?_ ?_ (ent_rsk _ _) ?_
                · rfl
                · rfl
                · rfl
                · rfl
                · rfl
                refine (HKd.out _ (Old.refl _)).mono ?_
                rintro o x43 ⟨rfl, b43⟩
                have U43 := U42.trans b43
                refine ⟨_, rfl, ?_⟩
                refine hK.out _ _ (SubAt.old U43 BR.out) (fun _ => ?_)
                clear hK K
                (try simp only [Act.put]); (try simp only [List.setIfInBounds_toArray]); (try simp only [List.set_cons_succ]); (try simp only [List.set_cons_zero])
                refine wpAnyH_take (i := 14) (oi := { dst := some 84, op := Op.unOp UnOp.not 4 (Operand.tmp 83), type := 4, pos := "ref.go:48", after := #[{ on := 13, ground := Ground.data }, { on := 7, ground := Ground.guard }], guard := some (7, false) }) (v := ?vk44) rfl (by kernel_rfl) (by kernel_rfl) (by kernel_rfl) (fun _ _ _ h => h) (Or.inl ⟨by rfl, ?hk44⟩) (SubAt.old U43 BR.out) ?rk44
                case hk44 => (intro wz hSw; (try dsimp only at hSw); go_simp; try with_reducible rfl)
                (try simp only [Act.put]); (try simp only [List.setIfInBounds_toArray]); (try simp only [List.set_cons_succ]); (try simp only [List.set_cons_zero])
                refine wpAnyH_take (i := 15) (oi := { dst := some 85, op := Op.pick (Operand.tmp 77) (Operand.const (Value.bool true)) (Operand.tmp 84), type := 4, pos := "ref.go:48", after := #[{ on := 7, ground := Ground.data }, { on := 14, ground := Ground.data }], guard := none }) (v := ?vk45) rfl (by kernel_rfl) (by kernel_rfl) (by kernel_rfl) (fun _ _ _ h => h) (Or.inl ⟨by rfl, ?hk45⟩) (SubAt.old U43 BR.out) ?rk45
                case hk45 => (intro wz hSw; (try dsimp only at hSw); go_simp; try with_reducible rfl)
                (try simp only [Act.put]); (try simp only [List.setIfInBounds_toArray]); (try simp only [List.set_cons_succ]); (try simp only [List.set_cons_zero])
                refine wpAnyH_take (i := 16) (oi := { dst := some 86, op := Op.move (Operand.tmp 85), type := 4, pos := "ref.go:48", after := #[{ on := 15, ground := Ground.data }, { on := 13, ground := Ground.chain }], guard := none }) (v := ?vk46) rfl (by kernel_rfl) (by kernel_rfl) (by kernel_rfl) (fun _ _ _ h => h) (Or.inl ⟨by rfl, ?hk46⟩) (SubAt.old U43 BR.out) ?rk46
                case hk46 => (intro wz hSw; (try dsimp only at hSw); go_simp; try with_reducible rfl)
                (try simp only [Act.put]); (try simp only [List.setIfInBounds_toArray]); (try simp only [List.set_cons_succ]); (try simp only [List.set_cons_zero])
                refine wpAnyH_take (i := 17) (oi := { dst := some 87, op := Op.fieldAddr 31 (Operand.tmp 1) 4, type := 0, pos := "ref.go:48", after := #[{ on := 16, ground := Ground.guard }], guard := some (16, false) }) (v := ?vk47) rfl (by kernel_rfl) (by kernel_rfl) (by kernel_rfl) (fun _ _ _ h => h) (Or.inl ⟨by rfl, ?hk47⟩) (SubAt.old U43 BR.out) ?rk47
                case hk47 => (intro wz hSw; (try dsimp only at hSw); go_simp; try with_reducible rfl)
                (try simp only [Act.put]); (try simp only [List.setIfInBounds_toArray]); (try simp only [List.set_cons_succ]); (try simp only [List.set_cons_zero])
                refine wpAnyH_take (i := 18) (oi := { dst := some 88, op := Op.load 29 (Operand.tmp 87), type := 29, pos := "ref.go:48", after := #[{ on := 17, ground := Ground.data }, { on := 16, ground := Ground.guard }], guard := some (16, false) }) (v := ?vk48) rfl (by kernel_rfl) (by kernel_rfl) (by kernel_rfl) (fun _ _ _ h => h) (Or.inl ⟨by rfl, ?hk48⟩) (SubAt.old U43 BR.out) ?rk48
                case hk48 => (intro wz hSw; (try dsimp only at hSw); go_simp; try with_reducible rfl)
                (try simp only [Act.put]); (try simp only [List.setIfInBounds_toArray]); (try simp only [List.set_cons_succ]); (try simp only [List.set_cons_zero])
                refine wpAnyH_take (i := 19) (oi := { dst := some 89, op := Op.fieldAddr 31 (Operand.tmp 1) 4, type := 0, pos := "ref.go:48", after := #[{ on := 16, ground := Ground.guard }], guard := some (16, false) }) (v := ?vk49) rfl (by kernel_rfl) (by kernel_rfl) (by kernel_rfl) (fun _ _ _ h => h) (Or.inl ⟨by rfl, ?hk49⟩) (SubAt.old U43 BR.out) ?rk49
                case hk49 => (intro wz hSw; (try dsimp only at hSw); go_simp; try with_reducible rfl)
                (try simp only [Act.put]); (try simp only [List.setIfInBounds_toArray]); (try simp only [List.set_cons_succ]); (try simp only [List.set_cons_zero])
                refine wpAnyH_take (i := 20) (oi := { dst := some 90, op := Op.load 29 (Operand.tmp 89), type := 29, pos := "ref.go:48", after := #[{ on := 19, ground := Ground.data }, { on := 16, ground := Ground.guard }], guard := some (16, false) }) (v := ?vk50) rfl (by kernel_rfl) (by kernel_rfl) (by kernel_rfl) (fun _ _ _ h => h) (Or.inl ⟨by rfl, ?hk50⟩) (SubAt.old U43 BR.out) ?rk50
                case hk50 => (intro wz hSw; (try dsimp only at hSw); go_simp; try with_reducible rfl)
                (try simp only [Act.put]); (try simp only [List.setIfInBounds_toArray]); (try simp only [List.set_cons_succ]); (try simp only [List.set_cons_zero])
                refine wpAnyH_ready (rs := [21]) (by kernel_rfl) (by simp) ?_
                refine AllReadyH.cons (o := { dst := some 91, op := Op.call { callee := Callee.value (Operand.func 44), args := #[Operand.tmp 90], argTypes := #[29] }, type := 72, pos := "ref.go:48", after := #[{ on := 20, ground := Ground.data }, { on := 16, ground := Ground.chain }, { on := 16, ground := Ground.guard }], guard := some (16, false) }) rfl (fun K hK => ?_) AllReadyH.nil
                refine wantCall1 ?_ 44 (.tmp 90) #[29] ?_ (.slice a2 j c2) ?_ ?_ (ent_rnorm _ _) ?_
                · rfl
                · rfl
                · rfl
                · rfl
                refine (HNm.out _ (HU.out.trans U43)).mono ?_
                rintro o x51 ⟨vf, rfl, rf, uf⟩
                have U51 := U43.trans uf
                have HSf := hid (fun (W : World) (u : Old x51 W) => HX2.out vf _ W (rf.old u))
                refine ⟨_, rfl, ?_⟩
                refine hK.out _ _ (SubAt.old U51 BR.out) (fun _ => ?_)
                clear hK K
                (try simp only [Act.put]); (try simp only [List.setIfInBounds_toArray]); (try simp only [List.set_cons_succ]); (try simp only [List.set_cons_zero])
                refine wpAnyH_ready (rs := [22]) (by kernel_rfl) (by simp) ?_
                refine AllReadyH.cons (o := { dst := some 92, op := Op.call { callee := Callee.value (Operand.func 43), args := #[Operand.tmp 91], argTypes := #[72] }, type := 29, pos := "ref.go:48", after := #[{ on := 21, ground := Ground.data }, { on := 21, ground := Ground.chain }, { on := 16, ground := Ground.guard }], guard := some (16, false) }) rfl (fun K hK => ?_) AllReadyH.nil
                refine wantCall1 ?_ 43 (.tmp 91) #[72] ?_ (vf) ?_ ?_ (ent_rspans _ _) ?_
                · rfl
                · rfl
                · rfl
                · rfl
                refine (HSf.out _ (Old.refl _)).mono ?_
                rintro o x52 ⟨vg, rfl, rg, ug⟩
                have U52 := U51.trans ug
                have HSg := hid (fun (W : World) (u : Old x52 W) => sameSpansG _ _ j D.length f2 (atS (D.map Fl.spo)) W (R2.out.old ((HU.out.trans U52).trans u)) ((HT2.out _ _ _ rg).old u))
                rw [← HO2.out] at HSg
                refine ⟨_, rfl, ?_⟩
                refine hK.out _ _ (SubAt.old U52 BR.out) (fun _ => ?_)
                clear hK K
                (try simp only [Act.put]); (try simp only [List.setIfInBounds_toArray]); (try simp only [List.set_cons_succ]); (try simp only [List.set_cons_zero])
                refine wpAnyH_ready (rs := [23]) (by kernel_rfl) (by simp) ?_
                refine AllReadyH.cons (o := { dst := some 93, op := Op.call { callee := Callee.value (Operand.func 42), args := #[Operand.tmp 88, Operand.tmp 92], argTypes := #[29, 29] }, type := 4, pos := "ref.go:48", after := #[{ on := 18, ground := Ground.data }, { on := 22, ground := Ground.data }, { on := 22, ground := Ground.chain }, { on := 16, ground := Ground.guard }], guard := some (16, false) }) rfl (fun K hK => ?_) AllReadyH.nil
                refine wantCall2 ?_ 42 (.tmp 88) (.tmp 92) #[29, 29] ?_ (.slice a2 j c2) (vg) ?_ ?_ ?_ (ent_rsame _ _) ?_
                · rfl
                · rfl
                · rfl
                · rfl
                · rfl
                refine (HSg.out _ (Old.refl _)).mono ?_
                rintro o x53 ⟨rfl, b53⟩
                have U53 := U52.trans b53
                refine ⟨_, rfl, ?_⟩
                refine hK.out _ _ (SubAt.old U53 BR.out) (fun _ => ?_)
                clear hK K
                (try simp only [Act.put]); (try simp only [List.setIfInBounds_toArray]); (try simp only [List.set_cons_succ]); (try simp only [List.set_cons_zero])
                refine wpAnyH_take (i := 24) (oi := { dst := some 94, op := Op.unOp UnOp.not 4 (Operand.tmp 93), type := 4, pos := "ref.go:48", after := #[{ on := 23, ground := Ground.data }, { on := 16, ground := Ground.guard }], guard := some (16, false) }) (v := ?vk54) rfl (by kernel_rfl) (by kernel_rfl) (by kernel_rfl) (fun _ _ _ h => h) (Or.inl ⟨by rfl, ?hk54⟩) (SubAt.old U53 BR.out) ?rk54
                case hk54 => (intro wz hSw; (try dsimp only at hSw); go_simp; try with_reducible rfl)
                (try simp only [Act.put]); (try simp only [List.setIfInBounds_toArray]); (try simp only [List.set_cons_succ]); (try simp only [List.set_cons_zero])
                refine wpAnyH_take (i := 25) (oi := { dst := some 95, op := Op.pick (Operand.tmp 86) (Operand.const (Value.bool true)) (Operand.tmp 94), type := 4, pos := "ref.go:48", after := #[{ on := 16, ground := Ground.data }, { on := 24, ground := Ground.data }], guard := none }) (v := ?vk55) rfl (by kernel_rfl) (by kernel_rfl) (by kernel_rfl) (fun _ _ _ h => h) (Or.inl ⟨by rfl, ?hk55⟩) (SubAt.old U53 BR.out) ?rk55
                case hk55 => (intro wz hSw; (try dsimp only at hSw); go_simp; try with_reducible rfl)
                (try simp only [Act.put]); (try simp only [List.setIfInBounds_toArray]); (try simp only [List.set_cons_succ]); (try simp only [List.set_cons_zero])
                refine wpAnyH_done (by kernel_rfl) ?_ _
                refine NoPanic.normal ?_
                have U9 := hid U53
                go_wp2
                go_ret
                exact ⟨by rw [HZ.out]; first | rfl | (rw [Bool.and_false]; rfl), HU.out.trans U9.out⟩
              · refine wp_region_noPanic ?_
                refine wp_region_held_drew (S := SubAt sb s1 s2 s3 (.slice a1 n1 c1) (.slice a2 j c2) (.slice a3 n3 c3)) (by kernel_rfl) ?_ (fun hHeld => ?_)
                · exact SubAt.old ((Old.refl wr).drew) BR.out
                (try simp only [Act.put]); (try simp only [List.setIfInBounds_toArray]); (try simp only [List.set_cons_succ]); (try simp only [List.set_cons_zero])
                clear hHeld
                refine wpAnyH_take (i := 0) (oi := { dst := some 70, op := Op.fieldAddr 31 (Operand.tmp 1) 3, type := 0, pos := "ref.go:48", after := #[], guard := none }) (v := ?vk56) rfl (by kernel_rfl) (by kernel_rfl) (by kernel_rfl) (fun _ _ _ h => h) (Or.inl ⟨by rfl, ?hk56⟩) (SubAt.old ((Old.refl wr).drew) BR.out) ?rk56
                case hk56 => (intro wz hSw; (try dsimp only at hSw); go_simp; try with_reducible rfl)
                (try simp only [Act.put]); (try simp only [List.setIfInBounds_toArray]); (try simp only [List.set_cons_succ]); (try simp only [List.set_cons_zero])
                refine wpAnyH_take (i := 1) (oi := { dst := some 71, op := Op.load 28 (Operand.tmp 70), type := 28, pos := "ref.go:48", after := #[{ on := 0, ground := Ground.data }], guard := none }) (v := ?vk57) rfl (by kernel_rfl) (by kernel_rfl) (by kernel_rfl) (fun _ _ _ h => h) (Or.inl ⟨by rfl, ?hk57⟩) (SubAt.old ((Old.refl wr).drew) BR.out) ?rk57
                case hk57 => (intro wz hSw; (try dsimp only at hSw); go_simp; try with_reducible rfl)
                (try simp only [Act.put]); (try simp only [List.setIfInBounds_toArray]); (try simp only [List.set_cons_succ]); (try simp only [List.set_cons_zero])
                refine wpAnyH_take (i := 2) (oi := { dst := some 72, op := Op.fieldAddr 31 (Operand.tmp 1) 3, type := 0, pos := "ref.go:48", after := #[], guard := none }) (v := ?vk58) rfl (by kernel_rfl) (by kernel_rfl) (by kernel_rfl) (fun _ _ _ h => h) (Or.inl ⟨by rfl, ?hk58⟩) (SubAt.old ((Old.refl wr).drew) BR.out) ?rk58
                case hk58 => (intro wz hSw; (try dsimp only at hSw); go_simp; try with_reducible rfl)
                (try simp only [Act.put]); (try simp only [List.setIfInBounds_toArray]); (try simp only [List.set_cons_succ]); (try simp only [List.set_cons_zero])
                refine wpAnyH_take (i := 3) (oi := { dst := some 73, op := Op.load 28 (Operand.tmp 72), type := 28, pos := "ref.go:48", after := #[{ on := 2, ground := Ground.data }], guard := none }) (v := ?vk59) rfl (by kernel_rfl) (by kernel_rfl) (by kernel_rfl) (fun _ _ _ h => h) (Or.inl ⟨by rfl, ?hk59⟩) (SubAt.old ((Old.refl wr).drew) BR.out) ?rk59
                case hk59 => (intro wz hSw; (try dsimp only at hSw); go_simp; try with_reducible rfl)
                (try simp only [Act.put]); (try simp only [List.setIfInBounds_toArray]); (try simp only [List.set_cons_succ]); (try simp only [List.set_cons_zero])
                refine wpAnyH_ready (rs := [4]) (by kernel_rfl) (by simp) ?_
                refine AllReadyH.cons (o := { dst := some 74, op := Op.call { callee := Callee.value (Operand.func 41), args := #[Operand.tmp 73], argTypes := #[28] }, type := 28, pos := "ref.go:48", after := #[{ on := 3, ground := Ground.data }], guard := none }) rfl (fun K hK => ?_) AllReadyH.nil
                refine wantCall1 ?_ 41 (.tmp 73) #[28] ?_ (.slice a1 n1 c1) ?_ ?_ (ent_rsort _ _) ?_
                · rfl
                · rfl
                · rfl
                · rfl
                refine (HSo1.out _ (HU.out.trans ((Old.refl wr).drew))).mono ?_
                rintro o x60 ⟨va, rfl, ra, ua⟩
                have U60 := ((Old.refl wr).drew).trans ua
                have HKa := hid (fun (W : World) (u : Old x60 W) => sameKeysG _ _ n1 L1.length x1 (atN L1) W (R1.out.old ((HU.out.trans U60).trans u)) ((HT1.out _ _ _ ra).old u))
                rw [← HO1.out] at HKa
                refine ⟨_, rfl, ?_⟩
                refine hK.out _ _ (SubAt.old U60 BR.out) (fun _ => ?_)
                clear hK K
                (try simp only [Act.put]); (try simp only [List.setIfInBounds_toArray]); (try simp only [List.set_cons_succ]); (try simp only [List.set_cons_zero])
                refine wpAnyH_ready (rs := [5]) (by kernel_rfl) (by simp) ?_
                refine AllReadyH.cons (o := { dst := some 75, op := Op.call { callee := Callee.value (Operand.func 40), args := #[Operand.tmp 71, Operand.tmp 74], argTypes := #[28, 28] }, type := 4, pos := "ref.go:48", after := #[{ on := 1, ground := Ground.data }, { on := 4, ground := Ground.data }, { on := 4, ground := Ground.chain }], guard := none }) rfl (fun K hK => ?_) AllReadyH.nil
                refine wantCall2 ?_ 40 (.tmp 71) (.tmp 74) #[28, 28] ?_ (.slice a1 n1 c1) (va) ?_ ?_ ?_ (ent_rsk _ _) ?_
                · rfl
                · rfl
                · rfl
                · rfl
                · rfl
                refine (HKa.out _ (Old.refl _)).mono ?_
                rintro o x61 ⟨rfl, b61⟩
                have U61 := U60.trans b61
                refine ⟨_, rfl, ?_⟩
                refine hK.out _ _ (SubAt.old U61 BR.out) (fun _ => ?_)
                clear hK K
                (try simp only [Act.put]); (try simp only [List.setIfInBounds_toArray]); (try simp only [List.set_cons_succ]); (try simp only [List.set_cons_zero])
                refine wpAnyH_take (i := 6) (oi := { dst := some 76, op := Op.unOp UnOp.not 4 (Operand.tmp 75), type := 4, pos := "ref.go:48", after := #[{ on := 5, ground := Ground.data }], guard := none }) (v := ?vk62) rfl (by kernel_rfl) (by kernel_rfl) (by kernel_rfl) (fun _ _ _ h => h) (Or.inl ⟨by rfl, ?hk62⟩) (SubAt.old U61 BR.out) ?rk62
                case hk62 => (intro wz hSw; (try dsimp only at hSw); go_simp; try with_reducible rfl)
                (try simp only [Act.put]); (try simp only [List.setIfInBounds_toArray]); (try simp only [List.set_cons_succ]); (try simp only [List.set_cons_zero])
                refine wpAnyH_take (i := 7) (oi := { dst := some 77, op := Op.move (Operand.tmp 76), type := 4, pos := "ref.go:48", after := #[{ on := 6, ground := Ground.data }, { on := 5, ground := Ground.chain }], guard := none }) (v := ?vk63) rfl (by kernel_rfl) (by kernel_rfl) (by kernel_rfl) (fun _ _ _ h => h) (Or.inl ⟨by rfl, ?hk63⟩) (SubAt.old U61 BR.out) ?rk63
                case hk63 => (intro wz hSw; (try dsimp only at hSw); go_simp; try with_reducible rfl)
                (try simp only [Act.put]); (try simp only [List.setIfInBounds_toArray]); (try simp only [List.set_cons_succ]); (try simp only [List.set_cons_zero])
                refine wpAnyH_take (i := 8) (oi := { dst := some 78, op := Op.fieldAddr 31 (Operand.tmp 1) 5, type := 0, pos := "ref.go:48", after := #[{ on := 7, ground := Ground.guard }], guard := some (7, false) }) (v := ?vk64) rfl (by kernel_rfl) (by kernel_rfl) (by kernel_rfl) (fun _ _ _ h => h) (Or.inl ⟨by rfl, ?hk64⟩) (SubAt.old U61 BR.out) ?rk64
                case hk64 => (intro wz hSw; (try dsimp only at hSw); go_simp; try with_reducible rfl)
                (try simp only [Act.put]); (try simp only [List.setIfInBounds_toArray]); (try simp only [List.set_cons_succ]); (try simp only [List.set_cons_zero])
                refine wpAnyH_take (i := 9) (oi := { dst := some 79, op := Op.load 28 (Operand.tmp 78), type := 28, pos := "ref.go:48", after := #[{ on := 8, ground := Ground.data }, { on := 7, ground := Ground.guard }], guard := some (7, false) }) (v := ?vk65) rfl (by kernel_rfl) (by kernel_rfl) (by kernel_rfl) (fun _ _ _ h => h) (Or.inl ⟨by rfl, ?hk65⟩) (SubAt.old U61 BR.out) ?rk65
                case hk65 => (intro wz hSw; (try dsimp only at hSw); go_simp; try with_reducible rfl)
                (try simp only [Act.put]); (try simp only [List.setIfInBounds_toArray]); (try simp only [List.set_cons_succ]); (try simp only [List.set_cons_zero])
                refine wpAnyH_take (i := 10) (oi := { dst := some 80, op := Op.fieldAddr 31 (Operand.tmp 1) 5, type := 0, pos := "ref.go:48", after := #[{ on := 7, ground := Ground.guard }], guard := some (7, false) }) (v := ?vk66) rfl (by kernel_rfl) (by kernel_rfl) (by kernel_rfl) (fun _ _ _ h => h) (Or.inl ⟨by rfl, ?hk66⟩) (SubAt.old U61 BR.out) ?rk66
                case hk66 => (intro wz hSw; (try dsimp only at hSw); go_simp; try with_reducible rfl)
                (try simp only [Act.put]); (try simp only [List.setIfInBounds_toArray]); (try simp only [List.set_cons_succ]); (try simp only [List.set_cons_zero])
                refine wpAnyH_take (i := 11) (oi := { dst := some 81, op := Op.load 28 (Operand.tmp 80), type := 28, pos := "ref.go:48", after := #[{ on := 10, ground := Ground.data }, { on := 7, ground := Ground.guard }], guard := some (7, false) }) (v := ?vk67) rfl (by kernel_rfl) (by kernel_rfl) (by kernel_rfl) (fun _ _ _ h => h) (Or.inl ⟨by rfl, ?hk67⟩) (SubAt.old U61 BR.out) ?rk67
                case hk67 => (intro wz hSw; (try dsimp only at hSw); go_simp; try with_reducible rfl)
                (try simp only [Act.put]); (try simp only [List.setIfInBounds_toArray]); (try simp only [List.set_cons_succ]); (try simp only [List.set_cons_zero])
                refine wpAnyH_ready (rs := [12]) (by kernel_rfl) (by simp) ?_
                refine AllReadyH.cons (o := { dst := some 82, op := Op.call { callee := Callee.value (Operand.func 41), args := #[Operand.tmp 81], argTypes := #[28] }, type := 28, pos := "ref.go:48", after := #[{ on := 11, ground := Ground.data }, { on := 7, ground := Ground.chain }, { on := 7, ground := Ground.guard }], guard := some (7, false) }) rfl (fun K hK => ?_) AllReadyH.nil
                refine wantCall1 ?_ 41 (.tmp 81) #[28] ?_ (.slice a3 n3 c3) ?_ ?_ (ent_rsort _ _) ?_
                · rfl
                · rfl
                · rfl
                · rfl
                refine (HSo3.out _ (HU.out.trans U61)).mono ?_
                rintro o x68 ⟨vd, rfl, rd, ud⟩
                have U68 := U61.trans ud
                have HKd := hid (fun (W : World) (u : Old x68 W) => sameKeysG _ _ n3 L3.length x3 (atN L3) W (R3.out.old ((HU.out.trans U68).trans u)) ((HT3.out _ _ _ rd).old u))
                rw [← HO3.out] at HKd
                refine ⟨_, rfl, ?_⟩
                refine hK.out _ _ (SubAt.old U68 BR.out) (fun _ => ?_)
                clear hK K
                (try simp only [Act.put]); (try simp only [List.setIfInBounds_toArray]); (try simp only [List.set_cons_succ]); (try simp only [List.set_cons_zero])
                refine wpAnyH_ready (rs := [13]) (by kernel_rfl) (by simp) ?_
                refine AllReadyH.cons (o := { dst := some 83, op := Op.call { callee := Callee.value (Operand.func 40), args := #[Operand.tmp 79, Operand.tmp 82], argTypes := #[28, 28] }, type := 4, pos := "ref.go:48", after := #[{ on := 9, ground := Ground.data }, { on := 12, ground := Ground.data }, { on := 12, ground := Ground.chain }, { on := 7, ground := Ground.guard }], guard := some (7, false) }) rfl (fun K hK => ?_) AllReadyH.nil
                refine wantCall2 ?_ 40 (.tmp 79) (.tmp 82) #[28, 28] ?_ (.slice a3 n3 c3) (vd) ?_ ?_ ?_ (ent_rsk _ _) ?_
                · rfl
                · rfl
                · rfl
                · rfl
                · rfl
                refine (HKd.out _ (Old.refl _)).mono ?_
                rintro o x69 ⟨rfl, b69⟩
                have U69 := U68.trans b69
                refine ⟨_, rfl, ?_⟩
                refine hK.out _ _ (SubAt.old U69 BR.out) (fun _ => ?_)
                clear hK K
                (try simp only [Act.put]); (try simp only [List.setIfInBounds_toArray]); (try simp only [List.set_cons_succ]); (try simp only [List.set_cons_zero])
                refine wpAnyH_take (i := 14) (oi := { dst := some 84, op := Op.unOp UnOp.not 4 (Operand.tmp 83), type := 4, pos := "ref.go:48", after := #[{ on := 13, ground := Ground.data }, { on := 7, ground := Ground.guard }], guard := some (7, false) }) (v := ?vk70) rfl (by kernel_rfl) (by kernel_rfl) (by kernel_rfl) (fun _ _ _ h => h) (Or.inl ⟨by rfl, ?hk70⟩) (SubAt.old U69 BR.out) ?rk70
                case hk70 => (intro wz hSw; (try dsimp only at hSw); go_simp; try with_reducible rfl)
                (try simp only [Act.put]); (try simp only [List.setIfInBounds_toArray]); (try simp only [List.set_cons_succ]); (try simp only [List.set_cons_zero])
                refine wpAnyH_take (i := 15) (oi := { dst := some 85, op := Op.pick (Operand.tmp 77) (Operand.const (Value.bool true)) (Operand.tmp 84), type := 4, pos := "ref.go:48", after := #[{ on := 7, ground := Ground.data }, { on := 14, ground := Ground.data }], guard := none }) (v := ?vk71) rfl (by kernel_rfl) (by kernel_rfl) (by kernel_rfl) (fun _ _ _ h => h) (Or.inl ⟨by rfl, ?hk71⟩) (SubAt.old U69 BR.out) ?rk71
                case hk71 => (intro wz hSw; (try dsimp only at hSw); go_simp; try with_reducible rfl)
                (try simp only [Act.put]); (try simp only [List.setIfInBounds_toArray]); (try simp only [List.set_cons_succ]); (try simp only [List.set_cons_zero])
                refine wpAnyH_take (i := 16) (oi := { dst := some 86, op := Op.move (Operand.tmp 85), type := 4, pos := "ref.go:48", after := #[{ on := 15, ground := Ground.data }, { on := 13, ground := Ground.chain }], guard := none }) (v := ?vk72) rfl (by kernel_rfl) (by kernel_rfl) (by kernel_rfl) (fun _ _ _ h => h) (Or.inl ⟨by rfl, ?hk72⟩) (SubAt.old U69 BR.out) ?rk72
                case hk72 => (intro wz hSw; (try dsimp only at hSw); go_simp; try with_reducible rfl)
                (try simp only [Act.put]); (try simp only [List.setIfInBounds_toArray]); (try simp only [List.set_cons_succ]); (try simp only [List.set_cons_zero])
                refine wpAnyH_take (i := 17) (oi := { dst := some 87, op := Op.fieldAddr 31 (Operand.tmp 1) 4, type := 0, pos := "ref.go:48", after := #[{ on := 16, ground := Ground.guard }], guard := some (16, false) }) (v := ?vk73) rfl (by kernel_rfl) (by kernel_rfl) (by kernel_rfl) (fun _ _ _ h => h) (Or.inl ⟨by rfl, ?hk73⟩) (SubAt.old U69 BR.out) ?rk73
                case hk73 => (intro wz hSw; (try dsimp only at hSw); go_simp; try with_reducible rfl)
                (try simp only [Act.put]); (try simp only [List.setIfInBounds_toArray]); (try simp only [List.set_cons_succ]); (try simp only [List.set_cons_zero])
                refine wpAnyH_take (i := 18) (oi := { dst := some 88, op := Op.load 29 (Operand.tmp 87), type := 29, pos := "ref.go:48", after := #[{ on := 17, ground := Ground.data }, { on := 16, ground := Ground.guard }], guard := some (16, false) }) (v := ?vk74) rfl (by kernel_rfl) (by kernel_rfl) (by kernel_rfl) (fun _ _ _ h => h) (Or.inl ⟨by rfl, ?hk74⟩) (SubAt.old U69 BR.out) ?rk74
                case hk74 => (intro wz hSw; (try dsimp only at hSw); go_simp; try with_reducible rfl)
                (try simp only [Act.put]); (try simp only [List.setIfInBounds_toArray]); (try simp only [List.set_cons_succ]); (try simp only [List.set_cons_zero])
                refine wpAnyH_take (i := 19) (oi := { dst := some 89, op := Op.fieldAddr 31 (Operand.tmp 1) 4, type := 0, pos := "ref.go:48", after := #[{ on := 16, ground := Ground.guard }], guard := some (16, false) }) (v := ?vk75) rfl (by kernel_rfl) (by kernel_rfl) (by kernel_rfl) (fun _ _ _ h => h) (Or.inl ⟨by rfl, ?hk75⟩) (SubAt.old U69 BR.out) ?rk75
                case hk75 => (intro wz hSw; (try dsimp only at hSw); go_simp; try with_reducible rfl)
                (try simp only [Act.put]); (try simp only [List.setIfInBounds_toArray]); (try simp only [List.set_cons_succ]); (try simp only [List.set_cons_zero])
                refine wpAnyH_take (i := 20) (oi := { dst := some 90, op := Op.load 29 (Operand.tmp 89), type := 29, pos := "ref.go:48", after := #[{ on := 19, ground := Ground.data }, { on := 16, ground := Ground.guard }], guard := some (16, false) }) (v := ?vk76) rfl (by kernel_rfl) (by kernel_rfl) (by kernel_rfl) (fun _ _ _ h => h) (Or.inl ⟨by rfl, ?hk76⟩) (SubAt.old U69 BR.out) ?rk76
                case hk76 => (intro wz hSw; (try dsimp only at hSw); go_simp; try with_reducible rfl)
                (try simp only [Act.put]); (try simp only [List.setIfInBounds_toArray]); (try simp only [List.set_cons_succ]); (try simp only [List.set_cons_zero])
                refine wpAnyH_ready (rs := [21]) (by kernel_rfl) (by simp) ?_
                refine AllReadyH.cons (o := { dst := some 91, op := Op.call { callee := Callee.value (Operand.func 44), args := #[Operand.tmp 90], argTypes := #[29] }, type := 72, pos := "ref.go:48", after := #[{ on := 20, ground := Ground.data }, { on := 16, ground := Ground.chain }, { on := 16, ground := Ground.guard }], guard := some (16, false) }) rfl (fun K hK => ?_) AllReadyH.nil
                refine wantCall1 ?_ 44 (.tmp 90) #[29] ?_ (.slice a2 j c2) ?_ ?_ (ent_rnorm _ _) ?_
                · rfl
                · rfl
                · rfl
                · rfl
                refine (HNm.out _ (HU.out.trans U69)).mono ?_
                rintro o x77 ⟨vf, rfl, rf, uf⟩
                have U77 := U69.trans uf
                have HSf := hid (fun (W : World) (u : Old x77 W) => HX2.out vf _ W (rf.old u))
                refine ⟨_, rfl, ?_⟩
                refine hK.out _ _ (SubAt.old U77 BR.out) (fun _ => ?_)
                clear hK K
                (try simp only [Act.put]); (try simp only [List.setIfInBounds_toArray]); (try simp only [List.set_cons_succ]); (try simp only [List.set_cons_zero])
                refine wpAnyH_ready (rs := [22]) (by kernel_rfl) (by simp) ?_
                refine AllReadyH.cons (o := { dst := some 92, op := Op.call { callee := Callee.value (Operand.func 43), args := #[Operand.tmp 91], argTypes := #[72] }, type := 29, pos := "ref.go:48", after := #[{ on := 21, ground := Ground.data }, { on := 21, ground := Ground.chain }, { on := 16, ground := Ground.guard }], guard := some (16, false) }) rfl (fun K hK => ?_) AllReadyH.nil
                refine wantCall1 ?_ 43 (.tmp 91) #[72] ?_ (vf) ?_ ?_ (ent_rspans _ _) ?_
                · rfl
                · rfl
                · rfl
                · rfl
                refine (HSf.out _ (Old.refl _)).mono ?_
                rintro o x78 ⟨vg, rfl, rg, ug⟩
                have U78 := U77.trans ug
                have HSg := hid (fun (W : World) (u : Old x78 W) => sameSpansG _ _ j D.length f2 (atS (D.map Fl.spo)) W (R2.out.old ((HU.out.trans U78).trans u)) ((HT2.out _ _ _ rg).old u))
                rw [← HO2.out] at HSg
                refine ⟨_, rfl, ?_⟩
                refine hK.out _ _ (SubAt.old U78 BR.out) (fun _ => ?_)
                clear hK K
                (try simp only [Act.put]); (try simp only [List.setIfInBounds_toArray]); (try simp only [List.set_cons_succ]); (try simp only [List.set_cons_zero])
                refine wpAnyH_ready (rs := [23]) (by kernel_rfl) (by simp) ?_
                refine AllReadyH.cons (o := { dst := some 93, op := Op.call { callee := Callee.value (Operand.func 42), args := #[Operand.tmp 88, Operand.tmp 92], argTypes := #[29, 29] }, type := 4, pos := "ref.go:48", after := #[{ on := 18, ground := Ground.data }, { on := 22, ground := Ground.data }, { on := 22, ground := Ground.chain }, { on := 16, ground := Ground.guard }], guard := some (16, false) }) rfl (fun K hK => ?_) AllReadyH.nil
                refine wantCall2 ?_ 42 (.tmp 88) (.tmp 92) #[29, 29] ?_ (.slice a2 j c2) (vg) ?_ ?_ ?_ (ent_rsame _ _) ?_
                · rfl
                · rfl
                · rfl
                · rfl
                · rfl
                refine (HSg.out _ (Old.refl _)).mono ?_
                rintro o x79 ⟨rfl, b79⟩
                have U79 := U78.trans b79
                refine ⟨_, rfl, ?_⟩
                refine hK.out _ _ (SubAt.old U79 BR.out) (fun _ => ?_)
                clear hK K
                (try simp only [Act.put]); (try simp only [List.setIfInBounds_toArray]); (try simp only [List.set_cons_succ]); (try simp only [List.set_cons_zero])
                refine wpAnyH_take (i := 24) (oi := { dst := some 94, op := Op.unOp UnOp.not 4 (Operand.tmp 93), type := 4, pos := "ref.go:48", after := #[{ on := 23, ground := Ground.data }, { on := 16, ground := Ground.guard }], guard := some (16, false) }) (v := ?vk80) rfl (by kernel_rfl) (by kernel_rfl) (by kernel_rfl) (fun _ _ _ h => h) (Or.inl ⟨by rfl, ?hk80⟩) (SubAt.old U79 BR.out) ?rk80
                case hk80 => (intro wz hSw; (try dsimp only at hSw); go_simp; try with_reducible rfl)
                (try simp only [Act.put]); (try simp only [List.setIfInBounds_toArray]); (try simp only [List.set_cons_succ]); (try simp only [List.set_cons_zero])
                refine wpAnyH_take (i := 25) (oi := { dst := some 95, op := Op.pick (Operand.tmp 86) (Operand.const (Value.bool true)) (Operand.tmp 94), type := 4, pos := "ref.go:48", after := #[{ on := 16, ground := Ground.data }, { on := 24, ground := Ground.data }], guard := none }) (v := ?vk81) rfl (by kernel_rfl) (by kernel_rfl) (by kernel_rfl) (fun _ _ _ h => h) (Or.inl ⟨by rfl, ?hk81⟩) (SubAt.old U79 BR.out) ?rk81
                case hk81 => (intro wz hSw; (try dsimp only at hSw); go_simp; try with_reducible rfl)
                (try simp only [Act.put]); (try simp only [List.setIfInBounds_toArray]); (try simp only [List.set_cons_succ]); (try simp only [List.set_cons_zero])
                refine wpAnyH_done (by kernel_rfl) ?_ _
                refine NoPanic.normal ?_
                have U9 := hid U79
                go_wp2
                go_ret
                exact ⟨by rw [HZ.out]; first | rfl | (rw [Bool.and_false]; rfl), HU.out.trans U9.out⟩
    · go_wp2_with (first | (go_at_call_of 37 (Value.slice a1 n1 c1); refine (K1.out _ HV.out).mono ?_; rintro o w5 ⟨rfl, u5⟩; have U5 := hid (HV.out.trans u5); have B5 := hid (SubAt.old u5 HS.out); obtain ⟨_, _, _, g3, g4, g5⟩ := B5.out; clear u5) | (go_at_call_of 37 (Value.slice a3 n3 c3); refine (K3.out _ U5.out).mono ?_; rintro o w6 ⟨rfl, u6⟩; have U6 := hid (U5.out.trans u6); have B6 := hid (SubAt.old u6 B5.out); clear u6))
      go_ret
      exact ⟨rfl, U6.out⟩
  · go_wp2_with (first | (go_at_call_of 37 (Value.slice a1 n1 c1); refine (K1.out _ HV.out).mono ?_; rintro o w5 ⟨rfl, u5⟩; have U5 := hid (HV.out.trans u5); have B5 := hid (SubAt.old u5 HS.out); obtain ⟨_, _, _, g3, g4, g5⟩ := B5.out; clear u5))
    go_ret
    exact ⟨rfl, U5.out⟩
theorem refChk_any (s1 s2 s3 : Int) (a1 a2 a3 : Option Addr) (n1 n2 n3 c1 c2 c3 : Nat) (x1 x3 : Nat → Nat) (f2 : Nat → Sp) (w : World)
    (h1 : FRow w (.slice a1 n1 c1) n1 x1) (h2 : SRow w (.slice a2 n2 c2) n2 f2) (h3 : FRow w (.slice a3 n3 c3) n3 x3) :
    Calls Tryz.prog 20 #[.agg #[.int .i64 s1, .int .i64 s2, .int .i64 s3, .slice a1 n1 c1, .slice a2 n2 c2, .slice a3 n3 c3]] w fun e w' => e = .returned (.int .i64 (chkV s1 s2 s3 n1 n2 n3 x1 x3 f2)) ∧ Old w w' := by
  cases hm : misB s1 s2 s3
  · cases hc : crowdB n1 n2 n3
    · have q := refCheck_rest s1 s2 s3 a1 a2 a3 n1 n2 n3 c1 c2 c3 x1 x3 f2 w hm hc h1 h2 h3
      unfold chkV
      rw [hm, hc]
      exact q
    · have q := refCheck_early s1 s2 s3 a1 a2 a3 n1 n2 n3 c1 c2 c3 w (.inr ⟨hm, hc⟩)
      unfold chkV
      rw [hm, hc]
      rw [hm] at q
      exact q
  · have q := refCheck_early s1 s2 s3 a1 a2 a3 n1 n2 n3 c1 c2 c3 w (.inl hm)
    unfold chkV
    rw [hm]
    rw [hm] at q
    exact q
end Go.Proofs.YtbkbnfgjkefcmaaGreat
namespace Go.Proofs.YtbkbnfgjkefcmaaGreat
open Go.ChangeShapes Go.WideShapes Go.ChangeAt Go.RowKit Go.Joins
set_option linter.unusedVariables false
theorem wbF {a : Nat} (h : (Lit.float .f64 a).wf = true) : Fl.W a := by simp [Lit.wf] at h; exact h
theorem trodF {H : Type} {enc : TypeId × Value → H} {P : Program} {w : World} {base : Nat} {spare : Nat → Bool} {held : Bool} {fuel : Nat} {t : TypeId} {cs : List Value} {x : DataW H × List MemPlace} (ht : P.underlying t = some (.float .f64)) (h : DataW.trod enc P w base spare held fuel t cs = some x) : ∃ n, cs = [.float .f64 n] ∧ x = (.lit (.float .f64 n), []) ∧ (Lit.float .f64 n).wf = true := by
  cases fuel with
  | zero => simp [DataW.trod] at h
  | succ n =>
    unfold DataW.trod at h
    rw [ht] at h
    split at h <;> simp_all
set_option maxRecDepth 20000
theorem cellsF : Tryz.prog.cellsOf 43 = 1 := by kernel_rfl
theorem cellsB : Tryz.prog.cellsOf 4 = 1 := by kernel_rfl
theorem cellsSp : Tryz.prog.cellsOf 67 = 4 := by kernel_rfl
theorem cellsEach {w : World} {base : Nat} {a : Addr} {n : Nat} {cs : List Value} (h : w.cells? base a n = some cs) (i : Nat) (hi : i < n) : w.cell? (a.add i) = cs[i]? := by
  unfold World.cells? at h
  split at h
  · exact mapM_some_get h i i (by simp [hi])
  · cases h
theorem trod_sp {H : Type} {enc : TypeId × Value → H} {w : World} {fuel : Nat} {cs : List Value} {y : DataW H × List MemPlace} (h : DataW.trod enc Tryz.prog w 0 (fun _ => true) true fuel 67 cs = some y) :
    ∃ s : Sp, cs = [.float .f64 s.a, .float .f64 s.b, .bool s.p, .bool s.q] ∧ Fl.W s.a ∧ Fl.W s.b := by
  obtain ⟨xs, n, _, _, hl, hlen, hf⟩ := DataW.trod_struct Tryz.underlying67 h
  rw [cellsSp] at hl
  match cs, hl with
  | [c0, c1, c2, c3], _ =>
    match xs, hlen with
    | [y0, y1, y2, y3], _ =>
      have h0 := hf 0 _ rfl
      have h1 := hf 1 _ rfl
      have h2 := hf 2 _ rfl
      have h3 := hf 3 _ rfl
      simp [cellsF, cellsB] at h0 h1 h2 h3
      obtain ⟨a0, e0, _, q0⟩ := trodF Tryz.underlying43 h0
      obtain ⟨a1, e1, _, q1⟩ := trodF Tryz.underlying43 h1
      obtain ⟨a2, e2, _⟩ := DataW.trod_bool Tryz.underlying4 h2
      obtain ⟨a3, e3, _⟩ := DataW.trod_bool Tryz.underlying4 h3
      simp at e0 e1 e2 e3
      subst e0 e1 e2 e3
      exact ⟨⟨a0, a1, a2, a3⟩, rfl, wbF q0, wbF q1⟩
theorem trod_srow {H : Type} {enc : TypeId × Value → H} {w : World} {fuel : Nat} {v : Value} {y : DataW H × List MemPlace} (h : DataW.trod enc Tryz.prog w 0 (fun _ => true) true fuel 29 [v] = some y) : ∃ a n c f, v = .slice a n c ∧ SRow w v n f := by
  rcases DataW.trod_slice Tryz.underlying29 h with ⟨hcs, _⟩ | ⟨a, len, cap, elems, rest, m, _, hcs, _, hb, hl, hm, hlen, hel, _, _⟩
  · simp at hcs; subst hcs
    exact ⟨none, 0, 0, fun _ => ⟨0, 0, false, false⟩, rfl, by omega, none, 0, rfl, fun i hi => by omega⟩
  · simp at hcs; subst hcs
    have hml : len ≤ 9223372036854775807 := by unfold maxLen at hm; omega
    by_cases hz : len = 0
    · subst hz; exact ⟨_, _, _, fun _ => ⟨0, 0, false, false⟩, rfl, hml, _, _, rfl, fun i hi => by omega⟩
    · have each : ∀ i, i < len → ∃ s : Sp, (∀ j, j < 4 → w.cell? ((a.add (i * 4)).add j) = ([.float .f64 s.a, .float .f64 s.b, .bool s.p, .bool s.q] : List Value)[j]?) ∧ Fl.W s.a ∧ Fl.W s.b := by
        intro i hi
        have h1 := hel i hi
        have h2 : elems[i]? = some (elems[i]'(by omega)) := List.getElem?_eq_getElem (by omega)
        rw [h2, cellsSp, Option.bind_eq_some_iff] at h1
        obtain ⟨cs', hcs, hy'⟩ := h1
        obtain ⟨s, rfl, hs⟩ := trod_sp hy'
        exact ⟨s, fun j hj => cellsEach hcs j hj, hs⟩
      obtain ⟨b, off, spot⟩ := a
      obtain ⟨s0, h0, _⟩ := each 0 (by omega)
      have hspot : spot = none := by simpa [Addr.add] using World.cell?_spot (h0 0 (by omega))
      subst hspot
      have each2 : ∀ i, ∃ s : Sp, i < len → Fl.W s.a ∧ Fl.W s.b ∧ w.cell? ⟨b, off + i * 4, none⟩ = some (.float .f64 s.a) ∧ w.cell? ⟨b, off + i * 4 + 1, none⟩ = some (.float .f64 s.b) ∧ w.cell? ⟨b, off + i * 4 + 2, none⟩ = some (.bool s.p) ∧ w.cell? ⟨b, off + i * 4 + 3, none⟩ = some (.bool s.q) := by
        intro i
        by_cases hi : i < len
        · obtain ⟨s, q1, q2, q3⟩ := each i hi
          simp only [Go.WideShapes.add_plain] at q1
          exact ⟨s, fun _ => ⟨q2, q3, q1 0 (by omega), q1 1 (by omega), q1 2 (by omega), q1 3 (by omega)⟩⟩
        · exact ⟨s0, fun h => absurd h hi⟩
      exact ⟨_, len, cap, fun i => Classical.choose (each2 i), rfl, hml, _, _, rfl, fun i hi => ⟨b, off, rfl, Classical.choose_spec (each2 i) hi⟩⟩
theorem trod_frow {H : Type} {enc : TypeId × Value → H} {w : World} {fuel : Nat} {v : Value} {y : DataW H × List MemPlace} (h : DataW.trod enc Tryz.prog w 0 (fun _ => true) true fuel 28 [v] = some y) : ∃ a n c x, v = .slice a n c ∧ FRow w v n x := by
  rcases DataW.trod_slice Tryz.underlying28 h with ⟨hcs, _⟩ | ⟨a, len, cap, elems, rest, m, _, hcs, _, hb, hl, hm, hlen, hel, _, _⟩
  · simp at hcs; subst hcs
    exact ⟨none, 0, 0, fun _ => 0, rfl, by omega, none, 0, rfl, fun i hi => by omega⟩
  · simp at hcs; subst hcs
    have hml : len ≤ 9223372036854775807 := by unfold maxLen at hm; omega
    by_cases hz : len = 0
    · subst hz; exact ⟨_, _, _, fun _ => 0, rfl, hml, _, _, rfl, fun i hi => by omega⟩
    · have each : ∀ i, i < len → ∃ n, w.cell? (a.add i) = some (.float .f64 n) ∧ Fl.W n := by
        intro i hi
        have h1 := hel i hi
        have h2 : elems[i]? = some (elems[i]'(by omega)) := List.getElem?_eq_getElem (by omega)
        rw [h2, cellsF, Nat.mul_one, Option.bind_eq_some_iff] at h1
        obtain ⟨cs', hcs, hy'⟩ := h1
        obtain ⟨n, rfl, _, hw⟩ := trodF Tryz.underlying43 hy'
        exact ⟨n, cell_of_cells?_one hcs, wbF hw⟩
      obtain ⟨b, off, spot⟩ := a
      obtain ⟨n0, h0, _⟩ := each 0 (by omega)
      have hspot : spot = none := by simpa [Addr.add] using World.cell?_spot h0
      subst hspot
      refine ⟨_, len, cap, fun i => match w.cell? ⟨b, off + i, none⟩ with | some (.float _ n) => n | _ => 0, rfl, hml, _, _, rfl, fun i hi => ⟨b, off, rfl, ?_⟩⟩
      obtain ⟨n, hn, hw⟩ := each i hi
      rw [Go.WideShapes.add_plain] at hn
      simp only [hn]
      exact ⟨hw, trivial⟩
theorem cellsSub : Tryz.prog.cellsOf 31 = 6 := by kernel_rfl
theorem cellsI : Tryz.prog.cellsOf 2 = 1 ∧ Tryz.prog.cellsOf 28 = 1 ∧ Tryz.prog.cellsOf 29 = 1 := by refine ⟨?_, ?_, ?_⟩ <;> kernel_rfl
theorem bytesSpan : Tryz.prog.bytesOf 67 = 24 := by kernel_rfl
theorem bytesF : Tryz.prog.bytesOf 43 = 8 := by kernel_rfl
theorem len_row {H : Type} {enc : TypeId × Value → H} {P : Program} {w : World} {base : Nat} {spare : Nat → Bool} {held : Bool} {fuel : Nat} {t e : TypeId} {a : Option Addr} {n c : Nat} {y : DataW H × List MemPlace} (ht : P.underlying t = some (.slice e)) (h : DataW.trod enc P w base spare held fuel t [.slice a n c] = some y) : n = 0 ∨ ∃ els sp, y.1 = .slice els sp ∧ els.length = n := by
  rcases DataW.trod_slice ht h with ⟨hcs, _⟩ | ⟨a', len, cap, elems, rest, m, _, hcs, hx, hb, hl, hm, hlen, hel, _, _⟩
  · simp at hcs; exact .inl hcs.2.1
  · simp at hcs
    obtain ⟨_, hln, _⟩ := hcs
    subst hx
    exact .inr ⟨_, _, rfl, by simp [hlen, hln]⟩
theorem row_fits {H : Type} {P : Program} {t e : TypeId} {d : DataW H} {n k : Nat} (ht : P.underlying t = some (.slice e)) (hk : P.bytesOf e = k) (h : n = 0 ∨ ∃ els sp, d = .slice els sp ∧ els.length = n) (hz : ∀ x ∈ d.weights P t, x ≤ reachBytes) : n * k ≤ reachBytes := by
  rcases h with rfl | ⟨els, sp, rfl, rfl⟩
  · simp
  · have := hz ((els.length + sp.length) * P.bytesOf e) (by simp [DataW.weights, ht])
    rw [hk, Nat.add_mul] at this
    omega
/-- A submission. -/
def SubB (w : World) (v : Value) : Prop := ∃ (s1 s2 s3 : Int) (a1 a2 a3 : Option Addr) (n1 n2 n3 c1 c2 c3 : Nat) (x1 x3 : Nat → Nat) (f2 : Nat → Sp), v = .agg #[.int .i64 s1, .int .i64 s2, .int .i64 s3, .slice a1 n1 c1, .slice a2 n2 c2, .slice a3 n3 c3] ∧ (FRow w (.slice a1 n1 c1) n1 x1 ∧ SRow w (.slice a2 n2 c2) n2 f2 ∧ FRow w (.slice a3 n3 c3) n3 x3) ∧ n1 ≤ 17592186044000 ∧ n2 ≤ 5864062014805 ∧ n3 ≤ 17592186044000
theorem open_subB {H : Type} {enc : TypeId × Value → H} {w : World} {base : Nat} {v : Value} {d : DataW H} {ps : List MemPlace} (hv : Value.okWide Tryz.prog w .any base 31 v) (h : DataW.Trod enc Tryz.prog w 0 (fun _ => true) true 31 v d ps) (hz : ∀ k ∈ d.weights Tryz.prog 31, k ≤ reachBytes) : SubB w v := by
  obtain ⟨cs, rfl, hsz⟩ := okWide_struct Tryz.underlying31 hv
  rw [cellsSub] at hsz
  obtain ⟨l⟩ := cs
  match l, hsz with
  | [c0, c1, c2, c3, c4, c5], _ =>
    obtain ⟨fuel, hf0⟩ := h
    obtain ⟨xs, n, _, hd, hl, hlen, hf⟩ := DataW.trod_struct Tryz.underlying31 hf0
    match xs, hlen, hd with
    | [y0, y1, y2, y3, y4, y5], _, hd =>
      have h0 := hf 0 _ rfl
      have h1 := hf 1 _ rfl
      have h2 := hf 2 _ rfl
      have h3 := hf 3 _ rfl
      have h4 := hf 4 _ rfl
      have h5 := hf 5 _ rfl
      simp [cellsI, Value.cells] at h0 h1 h2 h3 h4 h5
      obtain ⟨a0, e0, _, q0⟩ := DataW.trod_int Tryz.underlying2 h0
      obtain ⟨a1, e1, _, q1⟩ := DataW.trod_int Tryz.underlying2 h1
      obtain ⟨a2, e2, _, q2⟩ := DataW.trod_int Tryz.underlying2 h2
      obtain ⟨p1, n1, k1, x1, rfl, r1⟩ := trod_frow h3
      obtain ⟨p2, n2, k2, f2, rfl, r2⟩ := trod_srow h4
      obtain ⟨p3, n3, k3, x3, rfl, r3⟩ := trod_frow h5
      simp at e0 e1 e2
      subst e0 e1 e2
      have hdd : d = .agg [y0.1, y1.1, y2.1, y3.1, y4.1, y5.1] := congrArg Prod.fst hd
      have hw : ∀ (j : Nat) (t : TypeId) (z : DataW H), ([2, 2, 2, 28, 29, 28] : List TypeId)[j]? = some t → [y0.1, y1.1, y2.1, y3.1, y4.1, y5.1][j]? = some z → ∀ x ∈ z.weights Tryz.prog t, x ≤ reachBytes := by
        intro j t z ht hz' x hx
        refine hz x ?_
        rw [hdd]
        simp only [DataW.weights, Tryz.underlying31]
        exact DataW.weights_mem_each ht hz' x hx
      have g1 := row_fits Tryz.underlying28 bytesF (len_row Tryz.underlying28 h3) (hw 3 _ _ rfl rfl)
      have g2 := row_fits Tryz.underlying29 bytesSpan (len_row Tryz.underlying29 h4) (hw 4 _ _ rfl rfl)
      have g3 := row_fits Tryz.underlying28 bytesF (len_row Tryz.underlying28 h5) (hw 5 _ _ rfl rfl)
      simp only [reachBytes] at g1 g2 g3
      exact ⟨a0, a1, a2, p1, p2, p3, n1, n2, n3, k1, k2, k3, x1, x3, f2, rfl, ⟨r1, r2, r3⟩, by omega, by omega, by omega⟩
end Go.Proofs.YtbkbnfgjkefcmaaGreat
