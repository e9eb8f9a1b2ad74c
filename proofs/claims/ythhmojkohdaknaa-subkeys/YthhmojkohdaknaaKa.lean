/- Whether a submission reads or writes a key, by the program and by the document; conditions: its rows lie in memory. -/
import Derived.Test.YthhmojkohdaknaaSd
import Derived.Test.YthhmojkohdaknaaRf
namespace Go.Proofs.Ythhmojkohdaknaa
open Go.RowKit
set_option linter.unusedVariables false
attribute [local go_sem] run_bits run_frombits run_store_float eqF
namespace Fl
def feq (x k : Nat) : Bool := FloatKind.f64.format.order x k == some .eq
def anyG (g : Nat → Bool) : Nat → Bool | 0 => false | n + 1 => anyG g n || g n
theorem anyG_true (g : Nat → Bool) : ∀ n i, i < n → g i = true → anyG g n = true
  | n + 1, i, h, e => by
    unfold anyG
    by_cases hi : i = n
    · subst hi; rw [e]; simp
    · rw [anyG_true g n i (by omega) e]; rfl
theorem anyG_step (g : Nat → Bool) (k : Nat) (h : anyG g k = false) (e : g k = false) : anyG g (k + 1) = false := by
  show (anyG g k || g k) = false
  rw [h, e]; rfl
end Fl
/-- A row of numbers. -/
def FRow (w : World) (v : Value) (n : Nat) (x : Nat → Nat) : Prop := n ≤ 9223372036854775807 ∧ ∃ a c, v = .slice a n c ∧ ∀ i, i < n → ∃ b off, a = some ⟨b, off, none⟩ ∧ Fl.W (x i) ∧ w.cell? ⟨b, off + i, none⟩ = some (.float .f64 (x i))
theorem FRow.up {w w' : World} {v : Value} {n : Nat} {x : Nat → Nat} (h : FRow w v n x) (u : Up w w') : FRow w' v n x := by
  obtain ⟨hm, a, c, hv, hc⟩ := h
  exact ⟨hm, a, c, hv, fun i hi => by obtain ⟨b, off, q1, q2, q3⟩ := hc i hi; exact ⟨b, off, q1, q2, u.keep q3⟩⟩
structure Sp where
  a : Nat
  b : Nat
  p : Bool
  q : Bool
/-- A row of spans. -/
def SRow (w : World) (v : Value) (n : Nat) (f : Nat → Sp) : Prop := n ≤ 9223372036854775807 ∧ ∃ a c, v = .slice a n c ∧ ∀ i, i < n → ∃ b off, a = some ⟨b, off, none⟩ ∧ Fl.W (f i).a ∧ Fl.W (f i).b ∧ w.cell? ⟨b, off + i * 4, none⟩ = some (.float .f64 (f i).a) ∧ w.cell? ⟨b, off + i * 4 + 1, none⟩ = some (.float .f64 (f i).b) ∧ w.cell? ⟨b, off + i * 4 + 2, none⟩ = some (.bool (f i).p) ∧ w.cell? ⟨b, off + i * 4 + 3, none⟩ = some (.bool (f i).q)
theorem SRow.up {w w' : World} {v : Value} {n : Nat} {f : Nat → Sp} (h : SRow w v n f) (u : Up w w') : SRow w' v n f := by
  obtain ⟨hm, a, c, hv, hc⟩ := h
  exact ⟨hm, a, c, hv, fun i hi => by obtain ⟨b, off, q1, q2, q3, c0, c1, c2, c3⟩ := hc i hi; exact ⟨b, off, q1, q2, q3, u.keep c0, u.keep c1, u.keep c2, u.keep c3⟩⟩
def Fl.hasS (s : Sp) (k : Nat) : Bool := Fl.hasF (Fl.csU s.a s.b s.p s.q) (Fl.csV s.a s.b s.p s.q) (Fl.csE s.a s.b s.p s.q) k
set_option maxHeartbeats 400000 in
theorem among1_any (x k m : Nat) (w : World) (h : w.cell? ⟨m, 0, none⟩ = some (.float .f64 k)) :
    Calls Try.prog 18 #[.float .f64 x, .pointer (some ⟨m, 0, none⟩)] w fun e w' => e = .returned (.bool (Fl.feq x k)) ∧ Up w w' := by
  have B := hid (show Fl.feq x k = (FloatKind.f64.format.order x k == some .eq) from rfl)
  go_enter Try.func18, Try.ntmps18
  go_wp2
  go_ret
  exact ⟨ret_b (by rw [B.out]), Up.refl _⟩
set_option maxHeartbeats 1000000 in
theorem index_a (v : Value) (n : Nat) (x : Nat → Nat) (g : Nat → Bool) (cp : Value) (w : World) (hv : FRow w v n x) (hf : ∀ i, i < n → ∀ W, Up w W → Calls Try.prog 18 #[.float .f64 (x i), cp] W fun e w' => e = .returned (.bool (g i)) ∧ Up W w') :
    Calls Try.prog 20 #[v, .func (.func 18) #[] #[cp]] w fun e w' => ∃ r : Int, e = .returned (.int .i64 r) ∧ decide (0 ≤ r) = Fl.anyG g n ∧ Up w w' := by
  obtain ⟨hm, a, c, rfl, hc⟩ := hv
  have HC := hid hc
  have HF := hid hf
  have hmm := hm
  clear hc hf hm
  go_enter Try.func20, Try.ntmps20
  go_wp2
  go_loopw [8] (fun i wr => ∃ k : Nat, k ≤ n ∧ i = .int .i64 (k : Nat) ∧ Fl.anyG g k = false ∧ Up w wr) (fun i _ => n - (intOf i).toNat)
  case atStart => exact ⟨0, Nat.zero_le _, rfl, rfl, Up.refl _⟩
  case round =>
    obtain ⟨k, hk, rfl, h0, hu⟩ := hrel
    by_cases hlt : k < n
    · obtain ⟨b, off, ha, hW, hcell⟩ := HC.out k hlt
      subst ha
      have cx := hu.keep hcell
      have HK := hid (HF.out k hlt)
      have l1 : (0 : Int) ≤ (k : Int) := by omega
      have l2 : (k : Int) < (n : Int) := by omega
      have H0 := hid h0
      clear hcell h0
      cases hg : g k
      · rw [hg] at HK
        have HS := hid (Fl.anyG_step g k H0.out hg)
        clear hg
        go_wp2_with (go_at_call 18; refine (HK.out _ hu).mono ?_; rintro o w5 ⟨rfl, u5⟩)
        go_roundw
        case rel => exact ⟨k + 1, hlt, by go_num, HS.out, Up.trans hu u5⟩
        case measure => simp [intOf]; omega
      · have HT := hid (Fl.anyG_true g n k hlt hg)
        rw [hg] at HK
        clear hg
        go_wp2_with (go_at_call 18; refine (HK.out _ hu).mono ?_; rintro o w5 ⟨rfl, u5⟩)
        go_ret
        exact ⟨_, rfl, by rw [HT.out]; simp, Up.trans hu u5⟩
    · obtain rfl : k = n := by omega
      have H0 := hid h0
      clear h0
      go_wp2
      go_ret
      exact ⟨_, rfl, by rw [H0.out]; rfl, hu⟩
set_option maxHeartbeats 400000 in
theorem contains_a (v : Value) (n : Nat) (x : Nat → Nat) (g : Nat → Bool) (cp : Value) (w : World) (hv : FRow w v n x) (hf : ∀ i, i < n → ∀ W, Up w W → Calls Try.prog 18 #[.float .f64 (x i), cp] W fun e w' => e = .returned (.bool (g i)) ∧ Up W w') :
    Calls Try.prog 13 #[v, .func (.func 18) #[] #[cp]] w fun e w' => e = .returned (.bool (Fl.anyG g n)) ∧ Up w w' := by
  have HI := hid (index_a v n x g cp w hv hf)
  clear hv hf
  go_enter Try.func13, Try.ntmps13
  go_wp2_with (go_at_call 20; refine HI.out.mono ?_; rintro o w5 ⟨r, rfl, hr, u5⟩; have HR := hid hr; clear hr)
  go_ret
  exact ⟨ret_b (by rw [← HR.out]), u5⟩
set_option maxHeartbeats 1000000 in
theorem index_m (v : Value) (n : Nat) (x : Nat → Nat) (g : Nat → Bool) (cp : Value) (w : World) (hv : FRow w v n x) (hf : ∀ i, i < n → ∀ W, Up w W → Calls Try.prog 14 #[.float .f64 (x i), cp] W fun e w' => e = .returned (.bool (g i)) ∧ Up W w') :
    Calls Try.prog 20 #[v, .func (.func 14) #[] #[cp]] w fun e w' => ∃ r : Int, e = .returned (.int .i64 r) ∧ decide (0 ≤ r) = Fl.anyG g n ∧ Up w w' := by
  obtain ⟨hm, a, c, rfl, hc⟩ := hv
  have HC := hid hc
  have HF := hid hf
  have hmm := hm
  clear hc hf hm
  go_enter Try.func20, Try.ntmps20
  go_wp2
  go_loopw [8] (fun i wr => ∃ k : Nat, k ≤ n ∧ i = .int .i64 (k : Nat) ∧ Fl.anyG g k = false ∧ Up w wr) (fun i _ => n - (intOf i).toNat)
  case atStart => exact ⟨0, Nat.zero_le _, rfl, rfl, Up.refl _⟩
  case round =>
    obtain ⟨k, hk, rfl, h0, hu⟩ := hrel
    by_cases hlt : k < n
    · obtain ⟨b, off, ha, hW, hcell⟩ := HC.out k hlt
      subst ha
      have cx := hu.keep hcell
      have HK := hid (HF.out k hlt)
      have l1 : (0 : Int) ≤ (k : Int) := by omega
      have l2 : (k : Int) < (n : Int) := by omega
      have H0 := hid h0
      clear hcell h0
      cases hg : g k
      · rw [hg] at HK
        have HS := hid (Fl.anyG_step g k H0.out hg)
        clear hg
        go_wp2_with (go_at_call 14; refine (HK.out _ hu).mono ?_; rintro o w5 ⟨rfl, u5⟩)
        go_roundw
        case rel => exact ⟨k + 1, hlt, by go_num, HS.out, Up.trans hu u5⟩
        case measure => simp [intOf]; omega
      · have HT := hid (Fl.anyG_true g n k hlt hg)
        rw [hg] at HK
        clear hg
        go_wp2_with (go_at_call 14; refine (HK.out _ hu).mono ?_; rintro o w5 ⟨rfl, u5⟩)
        go_ret
        exact ⟨_, rfl, by rw [HT.out]; simp, Up.trans hu u5⟩
    · obtain rfl : k = n := by omega
      have H0 := hid h0
      clear h0
      go_wp2
      go_ret
      exact ⟨_, rfl, by rw [H0.out]; rfl, hu⟩
set_option maxHeartbeats 400000 in
theorem contains_m (v : Value) (n : Nat) (x : Nat → Nat) (g : Nat → Bool) (cp : Value) (w : World) (hv : FRow w v n x) (hf : ∀ i, i < n → ∀ W, Up w W → Calls Try.prog 14 #[.float .f64 (x i), cp] W fun e w' => e = .returned (.bool (g i)) ∧ Up W w') :
    Calls Try.prog 13 #[v, .func (.func 14) #[] #[cp]] w fun e w' => e = .returned (.bool (Fl.anyG g n)) ∧ Up w w' := by
  have HI := hid (index_m v n x g cp w hv hf)
  clear hv hf
  go_enter Try.func13, Try.ntmps13
  go_wp2_with (go_at_call 20; refine HI.out.mono ?_; rintro o w5 ⟨r, rfl, hr, u5⟩; have HR := hid hr; clear hr)
  go_ret
  exact ⟨ret_b (by rw [← HR.out]), u5⟩
set_option maxHeartbeats 400000 in
theorem among_any (v : Value) (n : Nat) (x : Nat → Nat) (k : Nat) (w : World) (hv : FRow w v n x) :
    Calls Try.prog 11 #[v, .float .f64 k] w fun e w' => e = .returned (.bool (Fl.anyG (fun i => Fl.feq (x i) k) n)) ∧ Up w w' := by
  have HC := hid (contains_a v n x (fun i => Fl.feq (x i) k) (.pointer (some ⟨w.heap.size, 0, none⟩)) (w.alloc (.cells #[.float .f64 k] 26)) (hv.up ((Up.refl w).alloc _)) (fun i hi W hW => among1_any (x i) k w.heap.size W (hW.keep (by simp))))
  obtain ⟨_, a, c, rfl, _⟩ := hv
  go_enter Try.func11, Try.ntmps11
  go_wp2_with (go_at_call 13; refine HC.out.mono ?_; rintro o w5 ⟨rfl, u5⟩)
  go_ret
  exact ⟨rfl, Up.trans ((Up.refl w).alloc _) u5⟩
set_option maxHeartbeats 1000000 in
theorem covers_any (v : Value) (n : Nat) (f : Nat → Sp) (k : Nat) (hk : Fl.W k) (w : World) (hv : SRow w v n f) :
    Calls Try.prog 12 #[v, .float .f64 k] w fun e w' => e = .returned (.bool (Fl.anyG (fun i => Fl.hasS (f i) k) n)) ∧ Up w w' := by
  obtain ⟨hm, a, c, rfl, hc⟩ := hv
  have HC := hid hc
  generalize hg : (fun i => Fl.hasS (f i) k) = g
  have HG := hid hg
  clear hc hg
  go_enter Try.func12, Try.ntmps12
  go_wp2
  go_loopw [9] (fun i wr => ∃ j : Nat, j ≤ n ∧ i = .int .i64 (j : Nat) ∧ Fl.anyG g j = false ∧ Up w wr) (fun i _ => n - (intOf i).toNat)
  case atStart => exact ⟨0, Nat.zero_le _, rfl, rfl, Up.refl _⟩
  case round =>
    obtain ⟨j, hj, rfl, h0, hu⟩ := hrel
    by_cases hlt : j < n
    · obtain ⟨b, off, ha, hW1, hW2, c0, c1, c2, c3⟩ := HC.out j hlt
      subst ha
      have x0 := hu.keep c0
      have x1 := hu.keep c1
      have x2 := hu.keep c2
      have x3 := hu.keep c3
      have HK := hid (fun W => has_any (f j).a (f j).b k hW1 hW2 hk (f j).p (f j).q W)
      have hgj : Fl.hasF (Fl.csU (f j).a (f j).b (f j).p (f j).q) (Fl.csV (f j).a (f j).b (f j).p (f j).q) (Fl.csE (f j).a (f j).b (f j).p (f j).q) k = g j := by rw [← HG.out]; rfl
      rw [hgj] at HK
      have l1 : (0 : Int) ≤ (j : Int) := by omega
      have l2 : (j : Int) < (n : Int) := by omega
      have H0 := hid h0
      clear c0 c1 c2 c3 h0 hgj hW1 hW2
      generalize (f j).a = a1 at *
      generalize (f j).b = b1 at *
      generalize (f j).p = p1 at *
      generalize (f j).q = q1 at *
      cases hg : g j
      · rw [hg] at HK
        have HS := hid (Fl.anyG_step g j H0.out hg)
        clear hg
        go_wp2_with (go_at_call 19; refine (HK.out _).mono ?_; rintro o w5 ⟨rfl, u5⟩; have U5 := hid (Up.trans (hu.alloc _) u5); clear u5)
        go_roundw
        case rel => exact ⟨j + 1, hlt, by go_num, HS.out, U5.out⟩
        case measure => simp [intOf]; omega
      · have HT := hid (Fl.anyG_true g n j hlt hg)
        rw [hg] at HK
        clear hg
        go_wp2_with (go_at_call 19; refine (HK.out _).mono ?_; rintro o w5 ⟨rfl, u5⟩; have U5 := hid (Up.trans (hu.alloc _) u5); clear u5)
        go_ret
        exact ⟨ret_b HT.out.symm, U5.out⟩
    · obtain rfl : j = n := by omega
      have H0 := hid h0
      clear h0
      go_wp2
      go_ret
      exact ⟨ret_b H0.out.symm, hu⟩
set_option maxHeartbeats 1000000 in
theorem rhas_any (v : Value) (n : Nat) (x : Nat → Nat) (k : Nat) (w : World) (hv : FRow w v n x) :
    Calls Try.prog 17 #[v, .float .f64 k] w fun e w' => e = .returned (.bool (Fl.anyG (fun i => Fl.feq (x i) k) n)) ∧ Up w w' := by
  obtain ⟨hm, a, c, rfl, hc⟩ := hv
  have HC := hid hc
  generalize hg : (fun i => Fl.feq (x i) k) = g
  have HG := hid hg
  clear hc hg
  go_enter Try.func17, Try.ntmps17
  go_wp2
  go_loopw [5] (fun i wr => ∃ j : Nat, j ≤ n ∧ i = .int .i64 (j : Nat) ∧ Fl.anyG g j = false ∧ Up w wr) (fun i _ => n - (intOf i).toNat)
  case atStart => exact ⟨0, Nat.zero_le _, rfl, rfl, Up.refl _⟩
  case round =>
    obtain ⟨j, hj, rfl, h0, hu⟩ := hrel
    by_cases hlt : j < n
    · obtain ⟨b, off, ha, hW, hcell⟩ := HC.out j hlt
      subst ha
      have cx := hu.keep hcell
      have hgj : (FloatKind.f64.format.order (x j) k == some .eq) = g j := by rw [← HG.out]; rfl
      have l1 : (0 : Int) ≤ (j : Int) := by omega
      have l2 : (j : Int) < (n : Int) := by omega
      have H0 := hid h0
      clear hcell h0
      cases hg : g j
      · rw [hg] at hgj
        have HS := hid (Fl.anyG_step g j H0.out hg)
        clear hg
        go_wp2
        go_roundw
        case rel => exact ⟨j + 1, hlt, by go_num, HS.out, hu⟩
        case measure => simp [intOf]; omega
      · have HT := hid (Fl.anyG_true g n j hlt hg)
        rw [hg] at hgj
        clear hg
        go_wp2
        go_ret
        exact ⟨ret_b HT.out.symm, hu⟩
    · obtain rfl : j = n := by omega
      have H0 := hid h0
      clear h0
      go_wp2
      go_ret
      exact ⟨ret_b H0.out.symm, hu⟩
end Go.Proofs.Ythhmojkohdaknaa
