/- Reads, Writes of package sub and of the document at a submission; conditions: its rows lie in memory. -/
import Derived.Test.YthhmojkohdaknaaKa
namespace Go.Proofs.Ythhmojkohdaknaa
open Go.RowKit
set_option linter.unusedVariables false
attribute [local go_sem] run_bits run_frombits run_store_float eqF
set_option maxHeartbeats 1000000 in
theorem reads_any (s1 s2 s3 : Int) (a1 a2 a3 : Option Addr) (n1 c1 n2 c2 n3 c3 : Nat) (x1 x3 : Nat → Nat) (f2 : Nat → Sp) (k : Nat) (hk : Fl.W k) (w : World) (h1 : FRow w (.slice a1 n1 c1) n1 x1) (h2 : SRow w (.slice a2 n2 c2) n2 f2) :
    Calls Try.prog 4 #[.agg #[.int .i64 s1, .int .i64 s2, .int .i64 s3, .slice a1 n1 c1, .slice a2 n2 c2, .slice a3 n3 c3], .float .f64 k] w fun e w' => e = .returned (.bool (Fl.anyG (fun i => Fl.feq (x1 i) k) n1 || Fl.anyG (fun i => Fl.hasS (f2 i) k) n2)) ∧ Up w w' := by
  have HA := hid (fun (W : World) (hW : Up w W) => among_any _ n1 x1 k W (h1.up hW))
  have HC := hid (fun (W : World) (hW : Up w W) => covers_any _ n2 f2 k hk W (h2.up hW))
  clear h1 h2
  generalize Fl.anyG (fun i => Fl.feq (x1 i) k) n1 = r1 at *
  generalize Fl.anyG (fun i => Fl.hasS (f2 i) k) n2 = r2 at *
  have hcs := fun (W : World) (u : Up (w.alloc (.cells #[.int .i64 s1, .int .i64 s2, .int .i64 s3, .slice a1 n1 c1, .slice a2 n2 c2, .slice a3 n3 c3] 25)) W) => u.keep (p := ⟨w.heap.size, 4, none⟩) (v := .slice a2 n2 c2) (by simp)
  have HCS := hid hcs
  clear hcs
  cases r1
  all_goals
    go_enter Try.func4, Try.ntmps4
    go_wp2_with (first | (go_at_call 11; refine (HA.out _ ((Up.refl w).alloc _)).mono ?_; rintro o w5 ⟨rfl, u5⟩; have y5 := HCS.out _ u5; have U5 := hid (Up.trans ((Up.refl w).alloc _) u5); clear u5) | (go_at_call 12; refine (HC.out _ U5.out).mono ?_; rintro o w6 ⟨rfl, u6⟩; have U6 := hid (Up.trans U5.out u6); clear u6))
    go_ret
  · exact ⟨ret_b (by simp), U6.out⟩
  · exact ⟨ret_b (by simp), U5.out⟩
set_option maxHeartbeats 1000000 in
theorem writes_any (s1 s2 s3 : Int) (a1 a2 a3 : Option Addr) (n1 c1 n2 c2 n3 c3 : Nat) (x1 x3 : Nat → Nat) (f2 : Nat → Sp) (k : Nat) (w : World) (h3 : FRow w (.slice a3 n3 c3) n3 x3) :
    Calls Try.prog 6 #[.agg #[.int .i64 s1, .int .i64 s2, .int .i64 s3, .slice a1 n1 c1, .slice a2 n2 c2, .slice a3 n3 c3], .float .f64 k] w fun e w' => e = .returned (.bool (Fl.anyG (fun i => Fl.feq (x3 i) k) n3)) ∧ Up w w' := by
  have HA := hid (fun (W : World) (hW : Up w W) => among_any _ n3 x3 k W (h3.up hW))
  clear h3
  go_enter Try.func6, Try.ntmps6
  go_wp2_with (first | (go_at_call 11; refine (HA.out _ ((Up.refl w).alloc _)).mono ?_; rintro o w5 ⟨rfl, u5⟩; have U5 := hid (Up.trans ((Up.refl w).alloc _) u5); clear u5))
  go_ret
  exact ⟨rfl, U5.out⟩
set_option maxHeartbeats 1000000 in
theorem rwrites_any (s1 s2 s3 : Int) (a1 a2 a3 : Option Addr) (n1 c1 n2 c2 n3 c3 : Nat) (x1 x3 : Nat → Nat) (f2 : Nat → Sp) (k : Nat) (w : World) (h3 : FRow w (.slice a3 n3 c3) n3 x3) :
    Calls Try.prog 9 #[.agg #[.int .i64 s1, .int .i64 s2, .int .i64 s3, .slice a1 n1 c1, .slice a2 n2 c2, .slice a3 n3 c3], .float .f64 k] w fun e w' => e = .returned (.bool (Fl.anyG (fun i => Fl.feq (x3 i) k) n3)) ∧ Up w w' := by
  have HA := hid (fun (W : World) (hW : Up w W) => rhas_any _ n3 x3 k W (h3.up hW))
  clear h3
  go_enter Try.func9, Try.ntmps9
  go_wp2_with (first | (go_at_call 17; refine (HA.out _ ((Up.refl w).alloc _)).mono ?_; rintro o w5 ⟨rfl, u5⟩; have U5 := hid (Up.trans ((Up.refl w).alloc _) u5); clear u5))
  go_ret
  exact ⟨rfl, U5.out⟩
/-- A submission in a block. -/
abbrev SubAt (m : Nat) (s1 s2 s3 : Int) (v1 v2 v3 : Value) (w : World) : Prop := w.cell? ⟨m, 0, none⟩ = some (.int .i64 s1) ∧ w.cell? ⟨m, 1, none⟩ = some (.int .i64 s2) ∧ w.cell? ⟨m, 2, none⟩ = some (.int .i64 s3) ∧ w.cell? ⟨m, 3, none⟩ = some v1 ∧ w.cell? ⟨m, 4, none⟩ = some v2 ∧ w.cell? ⟨m, 5, none⟩ = some v3
theorem SubAt.up {m : Nat} {s1 s2 s3 : Int} {v1 v2 v3 : Value} {w w' : World} (u : Up w w') (h : SubAt m s1 s2 s3 v1 v2 v3 w) : SubAt m s1 s2 s3 v1 v2 v3 w' := ⟨u.keep h.1, u.keep h.2.1, u.keep h.2.2.1, u.keep h.2.2.2.1, u.keep h.2.2.2.2.1, u.keep h.2.2.2.2.2⟩
set_option maxHeartbeats 1000000 in
theorem rreads_any (s1 s2 s3 : Int) (a1 a2 a3 : Option Addr) (n1 c1 n2 c2 n3 c3 : Nat) (x1 x3 : Nat → Nat) (f2 : Nat → Sp) (k : Nat) (hk : Fl.W k) (w : World) (h1 : FRow w (.slice a1 n1 c1) n1 x1) (h2 : SRow w (.slice a2 n2 c2) n2 f2) :
    Calls Try.prog 8 #[.agg #[.int .i64 s1, .int .i64 s2, .int .i64 s3, .slice a1 n1 c1, .slice a2 n2 c2, .slice a3 n3 c3], .float .f64 k] w fun e w' => e = .returned (.bool (Fl.anyG (fun i => Fl.feq (x1 i) k) n1 || Fl.anyG (fun i => Fl.hasS (f2 i) k) n2)) ∧ Up w w' := by
  have HA := hid (fun (W : World) (hW : Up w W) => rhas_any _ n1 x1 k W (h1.up hW))
  obtain ⟨hm, a, c, hv, hc⟩ := h2
  cases hv
  have HC := hid hc
  clear hc h1
  generalize Fl.anyG (fun i => Fl.feq (x1 i) k) n1 = r1 at *
  generalize hg : (fun i => Fl.hasS (f2 i) k) = g
  have HG := hid hg
  clear hg
  have s0 : SubAt w.heap.size s1 s2 s3 (.slice a1 n1 c1) (.slice a2 n2 c2) (.slice a3 n3 c3) (w.alloc (.cells #[.int .i64 s1, .int .i64 s2, .int .i64 s3, .slice a1 n1 c1, .slice a2 n2 c2, .slice a3 n3 c3] 25)) := by simp [SubAt]
  have HS0 := hid s0
  clear s0
  go_enter Try.func8, Try.ntmps8
  go_wp2
  go_loopw [5] (fun i wr => ∃ j : Nat, j ≤ n2 ∧ i = .int .i64 (j : Nat) ∧ Fl.anyG g j = false ∧ Up w wr ∧ SubAt w.heap.size s1 s2 s3 (.slice a1 n1 c1) (.slice a2 n2 c2) (.slice a3 n3 c3) wr) (fun i _ => n2 - (intOf i).toNat)
  case atStart => exact ⟨0, Nat.zero_le _, rfl, rfl, (Up.refl w).alloc _, HS0.out⟩
  case round =>
    obtain ⟨j, hj, rfl, h0, hu, hs⟩ := hrel
    by_cases hlt : j < n2
    · obtain ⟨b, off, ha, hW1, hW2, d0, d1, d2, d3⟩ := HC.out j hlt
      subst ha
      have y0 := hu.keep d0
      have y1 := hu.keep d1
      have y2 := hu.keep d2
      have y3 := hu.keep d3
      have HO := hid (fun W => rOf_any (f2 j).a (f2 j).b hW1 hW2 (f2 j).p (f2 j).q W)
      have HH0 := fun W => rHas_any (Fl.rL (f2 j).a (f2 j).b (f2 j).p (f2 j).q) (Fl.rH (f2 j).a (f2 j).b (f2 j).p (f2 j).q) k hk W
      rw [Fl.rHas_eq (f2 j).a (f2 j).b k (f2 j).p (f2 j).q hW1 hW2] at HH0
      have hgj : Fl.hasF (Fl.csU (f2 j).a (f2 j).b (f2 j).p (f2 j).q) (Fl.csV (f2 j).a (f2 j).b (f2 j).p (f2 j).q) (Fl.csE (f2 j).a (f2 j).b (f2 j).p (f2 j).q) k = g j := by rw [← HG.out]; rfl
      rw [hgj] at HH0
      have HH := hid HH0
      have l1 : (0 : Int) ≤ (j : Int) := by omega
      have l2 : (j : Int) < (n2 : Int) := by omega
      have H0 := hid h0
      clear d0 d1 d2 d3 h0 hgj hW1 hW2 HH0
      generalize Fl.rL (f2 j).a (f2 j).b (f2 j).p (f2 j).q = RL at *
      generalize Fl.rH (f2 j).a (f2 j).b (f2 j).p (f2 j).q = RH at *
      generalize (f2 j).a = a1' at *
      generalize (f2 j).b = b1 at *
      generalize (f2 j).p = p1 at *
      generalize (f2 j).q = q1 at *
      cases hg : g j
      · rw [hg] at HH
        have HS := hid (Fl.anyG_step g j H0.out hg)
        clear hg
        go_wp2_with (first | (go_at_call 16; refine (HO.out _).mono ?_; rintro o w5 ⟨rfl, u5⟩; have U5 := hid u5; clear u5) | (go_at_call 15; refine (HH.out _).mono ?_; rintro o w6 ⟨rfl, u6⟩; have U6 := hid (Up.trans U5.out u6); clear u6))
        go_roundw
        case rel => exact ⟨j + 1, hlt, by go_num, HS.out, Up.trans hu U6.out, SubAt.up U6.out hs⟩
        case measure => simp [intOf]; omega
      · have HT := hid (Fl.anyG_true g n2 j hlt hg)
        rw [hg] at HH
        clear hg
        go_wp2_with (first | (go_at_call 16; refine (HO.out _).mono ?_; rintro o w5 ⟨rfl, u5⟩; have U5 := hid u5; clear u5) | (go_at_call 15; refine (HH.out _).mono ?_; rintro o w6 ⟨rfl, u6⟩; have U6 := hid (Up.trans U5.out u6); clear u6))
        go_ret
        exact ⟨ret_b (by rw [HT.out]; simp), Up.trans hu U6.out⟩
    · obtain rfl : j = n2 := by omega
      have H0 := hid h0
      clear h0
      go_wp2_with (go_at_call 17; refine (HA.out _ hu).mono ?_; rintro o w5 ⟨rfl, u5⟩)
      go_ret
      exact ⟨ret_b (by rw [H0.out]; simp), Up.trans hu u5⟩
set_option maxHeartbeats 1000000 in
theorem meets1_any (s1 s2 s3 : Int) (a1 a2 a3 : Option Addr) (n1 c1 n2 c2 n3 c3 : Nat) (x1 x3 : Nat → Nat) (f2 : Nat → Sp) (k m : Nat) (hk : Fl.W k) (w : World) (h1 : FRow w (.slice a1 n1 c1) n1 x1) (h2 : SRow w (.slice a2 n2 c2) n2 f2) (hs : SubAt m s1 s2 s3 (.slice a1 n1 c1) (.slice a2 n2 c2) (.slice a3 n3 c3) w) :
    Calls Try.prog 14 #[.float .f64 k, .pointer (some ⟨m, 0, none⟩)] w fun e w' => e = .returned (.bool (Fl.anyG (fun i => Fl.feq (x1 i) k) n1 || Fl.anyG (fun i => Fl.hasS (f2 i) k) n2)) ∧ Up w w' := by
  have HR := hid (reads_any s1 s2 s3 a1 a2 a3 n1 c1 n2 c2 n3 c3 x1 x3 f2 k hk w h1 h2)
  clear h1 h2
  go_enter Try.func14, Try.ntmps14
  go_wp2_with (go_at_call 4; refine HR.out.mono ?_; rintro o w5 ⟨rfl, u5⟩)
  go_ret
  exact ⟨rfl, u5⟩
set_option maxHeartbeats 1000000 in
theorem meets_any (s1 s2 s3 : Int) (a1 a2 a3 : Option Addr) (n1 c1 n2 c2 n3 c3 : Nat) (x1 x3 : Nat → Nat) (f2 : Nat → Sp) (t1 t2 t3 : Int) (b1 b2 b3 : Option Addr) (m1 d1 m2 d2 m3 d3 : Nat) (y3 : Nat → Nat) (w : World) (h1 : FRow w (.slice a1 n1 c1) n1 x1) (h2 : SRow w (.slice a2 n2 c2) n2 f2) (h3 : FRow w (.slice b3 m3 d3) m3 y3) :
    Calls Try.prog 7 #[.agg #[.int .i64 s1, .int .i64 s2, .int .i64 s3, .slice a1 n1 c1, .slice a2 n2 c2, .slice a3 n3 c3], .agg #[.int .i64 t1, .int .i64 t2, .int .i64 t3, .slice b1 m1 d1, .slice b2 m2 d2, .slice b3 m3 d3]] w fun e w' => e = .returned (.bool (Fl.anyG (fun j => (Fl.anyG (fun i => Fl.feq (x1 i) (y3 j)) n1 || Fl.anyG (fun i => Fl.hasS (f2 i) (y3 j)) n2)) m3)) ∧ Up w w' := by
  have hWy : ∀ j, j < m3 → Fl.W (y3 j) := fun j hj => by obtain ⟨_, a, c, _, hc⟩ := h3; obtain ⟨_, _, _, q, _⟩ := hc j hj; exact q
  have HC := hid (fun (W : World) (hW : Up w W) (hs : SubAt w.heap.size s1 s2 s3 (.slice a1 n1 c1) (.slice a2 n2 c2) (.slice a3 n3 c3) W) => contains_m (.slice b3 m3 d3) m3 y3 (fun j => (Fl.anyG (fun i => Fl.feq (x1 i) (y3 j)) n1 || Fl.anyG (fun i => Fl.hasS (f2 i) (y3 j)) n2)) (.pointer (some ⟨w.heap.size, 0, none⟩)) W (h3.up hW) (fun i hi V hV => meets1_any s1 s2 s3 a1 a2 a3 n1 c1 n2 c2 n3 c3 x1 x3 f2 (y3 i) w.heap.size (hWy i hi) V (h1.up (Up.trans hW hV)) (h2.up (Up.trans hW hV)) (SubAt.up hV hs)))
  clear h1 h2 h3 hWy
  generalize (Fl.anyG (fun j => (Fl.anyG (fun i => Fl.feq (x1 i) (y3 j)) n1 || Fl.anyG (fun i => Fl.hasS (f2 i) (y3 j)) n2)) m3) = R at *
  go_enter Try.func7, Try.ntmps7
  go_wp2_with (go_at_call 13; refine (HC.out _ (((Up.refl w).alloc _).alloc _) (by simp [SubAt])).mono ?_; rintro o w5 ⟨rfl, u5⟩)
  go_ret
  exact ⟨rfl, Up.trans (((Up.refl w).alloc _).alloc _) u5⟩
end Go.Proofs.Ythhmojkohdaknaa
