/- Rows of numbers and of spans asked by a function: is one NaN, empty, wrong; conditions: the rows lie in memory. -/
import Derived.Test.YtbkbnfgjkefcmaaGreatNd
namespace Go.Proofs.YtbkbnfgjkefcmaaGreat
open Go.RowKit
set_option linter.unusedVariables false
attribute [local go_sem] run_bits run_frombits run_store_float eqF
/-- A row of numbers, somewhere. -/
def FRow (w : World) (v : Value) (n : Nat) (x : Nat → Nat) : Prop := n ≤ 9223372036854775807 ∧ ∃ a c, v = .slice a n c ∧ ∀ i, i < n → ∃ b off, a = some ⟨b, off, none⟩ ∧ Fl.W (x i) ∧ w.cell? ⟨b, off + i, none⟩ = some (.float .f64 (x i))
theorem FRow.old {w w' : World} {v : Value} {n : Nat} {x : Nat → Nat} (h : FRow w v n x) (u : Old w w') : FRow w' v n x := by
  obtain ⟨hm, a, c, hv, hc⟩ := h
  exact ⟨hm, a, c, hv, fun i hi => by obtain ⟨b, off, q1, q2, q3⟩ := hc i hi; exact ⟨b, off, q1, q2, u.keep q3⟩⟩
set_option maxHeartbeats 1000000 in
set_option maxRecDepth 20000 in
theorem index_nan (v : Value) (n : Nat) (f : Nat → Nat) (g : Nat → Bool) (w : World) (hv : FRow w v n f) (hf : ∀ i, i < n → ∀ W, Old w W → Calls Tryz.prog 76 #[.float .f64 (f i)] W fun e w' => e = .returned (.bool (g i)) ∧ Old W w') :
    Calls Tryz.prog 62 #[v, .func (.func 76) #[] #[]] w fun e w' => ∃ r : Int, e = .returned (.int .i64 r) ∧ decide (0 ≤ r) = Fl.anyG g n ∧ Old w w' := by
  obtain ⟨hm, a, c, rfl, hc⟩ := hv
  have HC := hid hc
  have HF := hid hf
  have hmm := hm
  clear hc hf hm
  go_enter Tryz.func62, Tryz.ntmps62
  go_wp2
  go_loopw [8] (fun i wr => ∃ k : Nat, k ≤ n ∧ i = .int .i64 (k : Nat) ∧ Fl.anyG g k = false ∧ Old w wr) (fun i _ => n - (intOf i).toNat)
  case atStart => exact ⟨0, Nat.zero_le _, rfl, rfl, Old.refl _⟩
  case round =>
    obtain ⟨k, hk, rfl, h0, hu⟩ := hrel
    by_cases hlt : k < n
    · obtain ⟨b, off, ha, hW, c0⟩ := HC.out k hlt
      subst ha
      have x0 := hu.keep c0
      have HK := hid (HF.out k hlt)
      have l1 : (0 : Int) ≤ (k : Int) := by omega
      have l2 : (k : Int) < (n : Int) := by omega
      have H0 := hid h0
      clear c0 h0 HF HC
      generalize f k = X at *
      cases hg : g k
      · rw [hg] at HK
        have HS := hid (Fl.anyG_step g k H0.out hg)
        clear hg
        go_wp2_with (go_at_call 76; refine (HK.out _ hu).mono ?_; rintro o w5 ⟨rfl, u5⟩)
        go_roundw
        case rel => exact ⟨k + 1, hlt, by go_num, HS.out, Old.trans hu u5⟩
        case measure => simp [intOf]; omega
      · have HT := hid (Fl.anyG_true g n k hlt hg)
        rw [hg] at HK
        clear hg
        go_wp2_with (go_at_call 76; refine (HK.out _ hu).mono ?_; rintro o w5 ⟨rfl, u5⟩)
        go_ret
        exact ⟨_, rfl, by rw [HT.out]; simp, Old.trans hu u5⟩
    · obtain rfl : k = n := by omega
      have H0 := hid h0
      clear h0
      go_wp2
      go_ret
      exact ⟨_, rfl, by rw [H0.out]; rfl, hu⟩
set_option maxHeartbeats 400000 in
set_option maxRecDepth 20000 in
theorem contains_nan (v : Value) (n : Nat) (f : Nat → Nat) (g : Nat → Bool) (w : World) (hv : FRow w v n f) (hf : ∀ i, i < n → ∀ W, Old w W → Calls Tryz.prog 76 #[.float .f64 (f i)] W fun e w' => e = .returned (.bool (g i)) ∧ Old W w') :
    Calls Tryz.prog 35 #[v, .func (.func 76) #[] #[]] w fun e w' => e = .returned (.bool (Fl.anyG g n)) ∧ Old w w' := by
  have HI := hid (index_nan v n f g w hv hf)
  clear hv hf
  go_enter Tryz.func35, Tryz.ntmps35
  go_wp2_with (go_at_call 62; refine HI.out.mono ?_; rintro o w5 ⟨r, rfl, hr, u5⟩; have HR := hid hr; clear hr)
  go_ret
  exact ⟨ret_b (by rw [← HR.out]), u5⟩
set_option maxHeartbeats 1000000 in
set_option maxRecDepth 20000 in
theorem index_emp (v : Value) (n : Nat) (f : Nat → Sp) (g : Nat → Bool) (w : World) (hv : SRow w v n f) (hf : ∀ i, i < n → ∀ W, Old w W → Calls Tryz.prog 53 #[.agg #[.float .f64 (f i).a, .float .f64 (f i).b, .bool (f i).p, .bool (f i).q]] W fun e w' => e = .returned (.bool (g i)) ∧ Old W w') :
    Calls Tryz.prog 77 #[v, .func (.func 53) #[] #[]] w fun e w' => ∃ r : Int, e = .returned (.int .i64 r) ∧ decide (0 ≤ r) = Fl.anyG g n ∧ Old w w' := by
  obtain ⟨hm, a, c, rfl, hc⟩ := hv
  have HC := hid hc
  have HF := hid hf
  have hmm := hm
  clear hc hf hm
  go_enter Tryz.func77, Tryz.ntmps77
  go_wp2
  go_loopw [8] (fun i wr => ∃ k : Nat, k ≤ n ∧ i = .int .i64 (k : Nat) ∧ Fl.anyG g k = false ∧ Old w wr) (fun i _ => n - (intOf i).toNat)
  case atStart => exact ⟨0, Nat.zero_le _, rfl, rfl, Old.refl _⟩
  case round =>
    obtain ⟨k, hk, rfl, h0, hu⟩ := hrel
    by_cases hlt : k < n
    · obtain ⟨b, off, ha, hW1, hW2, c0, c1, c2, c3⟩ := HC.out k hlt
      subst ha
      have x0 := hu.keep c0
      have x1 := hu.keep c1
      have x2 := hu.keep c2
      have x3 := hu.keep c3
      have HK := hid (HF.out k hlt)
      have l1 : (0 : Int) ≤ (k : Int) := by omega
      have l2 : (k : Int) < (n : Int) := by omega
      have H0 := hid h0
      clear c0 c1 c2 c3 h0 HF HC
      generalize (f k).a = a1 at *
      generalize (f k).b = b1 at *
      generalize (f k).p = p1 at *
      generalize (f k).q = q1 at *
      cases hg : g k
      · rw [hg] at HK
        have HS := hid (Fl.anyG_step g k H0.out hg)
        clear hg
        go_wp2_with (go_at_call 53; refine (HK.out _ hu).mono ?_; rintro o w5 ⟨rfl, u5⟩)
        go_roundw
        case rel => exact ⟨k + 1, hlt, by go_num, HS.out, Old.trans hu u5⟩
        case measure => simp [intOf]; omega
      · have HT := hid (Fl.anyG_true g n k hlt hg)
        rw [hg] at HK
        clear hg
        go_wp2_with (go_at_call 53; refine (HK.out _ hu).mono ?_; rintro o w5 ⟨rfl, u5⟩)
        go_ret
        exact ⟨_, rfl, by rw [HT.out]; simp, Old.trans hu u5⟩
    · obtain rfl : k = n := by omega
      have H0 := hid h0
      clear h0
      go_wp2
      go_ret
      exact ⟨_, rfl, by rw [H0.out]; rfl, hu⟩
set_option maxHeartbeats 400000 in
set_option maxRecDepth 20000 in
theorem contains_emp (v : Value) (n : Nat) (f : Nat → Sp) (g : Nat → Bool) (w : World) (hv : SRow w v n f) (hf : ∀ i, i < n → ∀ W, Old w W → Calls Tryz.prog 53 #[.agg #[.float .f64 (f i).a, .float .f64 (f i).b, .bool (f i).p, .bool (f i).q]] W fun e w' => e = .returned (.bool (g i)) ∧ Old W w') :
    Calls Tryz.prog 52 #[v, .func (.func 53) #[] #[]] w fun e w' => e = .returned (.bool (Fl.anyG g n)) ∧ Old w w' := by
  have HI := hid (index_emp v n f g w hv hf)
  clear hv hf
  go_enter Tryz.func52, Tryz.ntmps52
  go_wp2_with (go_at_call 77; refine HI.out.mono ?_; rintro o w5 ⟨r, rfl, hr, u5⟩; have HR := hid hr; clear hr)
  go_ret
  exact ⟨ret_b (by rw [← HR.out]), u5⟩
set_option maxHeartbeats 400000 in
set_option maxRecDepth 20000 in
theorem nans_any (v : Value) (n : Nat) (x : Nat → Nat) (w : World) (hv : FRow w v n x) :
    Calls Tryz.prog 35 #[v, .func (.func 76) #[] #[]] w fun e w' => e = .returned (.bool (Fl.anyG (fun i => Fl.nan (x i)) n)) ∧ Old w w' := by
  have hv2 := hv
  obtain ⟨_, _, _, _, hc⟩ := hv2
  exact contains_nan v n x _ w hv fun i hi W hW => by
    obtain ⟨_, _, _, h1, _⟩ := hc i hi
    exact (isNaN_any (x i) h1 W).mono fun e w' h => ⟨h.1, by rw [h.2]; exact Old.refl _⟩
set_option maxHeartbeats 400000 in
set_option maxRecDepth 20000 in
theorem empties_any (v : Value) (n : Nat) (f : Nat → Sp) (w : World) (hv : SRow w v n f) :
    Calls Tryz.prog 52 #[v, .func (.func 53) #[] #[]] w fun e w' => e = .returned (.bool (Fl.anyG (fun i => Fl.csE (f i).a (f i).b (f i).p (f i).q) n)) ∧ Old w w' := by
  have hv2 := hv
  obtain ⟨_, _, _, _, hc⟩ := hv2
  exact contains_emp v n f _ w hv fun i hi W hW => by
    obtain ⟨_, _, _, h1, h2, _⟩ := hc i hi
    exact (empty_any _ _ h1 h2 _ _ W).mono fun e w' h => ⟨h.1, h.2.old⟩

end Go.Proofs.YtbkbnfgjkefcmaaGreat
