/- Rows of values in memory, and what pack.Put does with them, by what appendVal does; conditions: the rows lie in memory, the lengths fit. -/
import Derived.Test.YtpofccnifecpfaaEn
namespace Go.Proofs.Ytpofccnifecpfaa
open Go.RowKit
set_option linter.unusedVariables false
/-- A value as it lies in memory. -/
structure PV where
  k : Int
  n : Int
  x : Nat
  b : Value
  bn : Nat
  bx : Nat → Nat
  on : Bool
def PV.agg (p : PV) : Value := .agg #[.int .i64 p.k, .int .i64 p.n, .float .f64 p.x, p.b, .bool p.on]
structure PV.In (w : World) (p : PV) : Prop where
  kin : -9223372036854775808 ≤ p.k ∧ p.k ≤ 9223372036854775807
  nin : -9223372036854775808 ≤ p.n ∧ p.n ≤ 9223372036854775807
  xin : p.x < 18446744073709551616
  row : ByRow w p.b p.bn p.bx
structure PV.At (w : World) (blk o : Nat) (p : PV) : Prop where
  c0 : w.cell? ⟨blk, o, none⟩ = some (.int .i64 p.k)
  c1 : w.cell? ⟨blk, o + 1, none⟩ = some (.int .i64 p.n)
  c2 : w.cell? ⟨blk, o + 2, none⟩ = some (.float .f64 p.x)
  c3 : w.cell? ⟨blk, o + 3, none⟩ = some p.b
  c4 : w.cell? ⟨blk, o + 4, none⟩ = some (.bool p.on)
def VRow (w : World) (v : Value) (n : Nat) (f : Nat → PV) : Prop :=
  (n = 0 ∧ ∃ a c, v = .slice a 0 c ∧ (a = none → c = 0)) ∨ (0 < n ∧ ∃ b off cap, v = .slice (some ⟨b, off, none⟩) n cap ∧ (∀ i, i < n → PV.At w b (off + i * 5) (f i) ∧ PV.In w (f i)) ∧ n ≤ cap ∧ cap ≤ maxLen)
theorem PV.In.up {w w' : World} {p : PV} (h : PV.In w p) (u : Up w w') : PV.In w' p := ⟨h.kin, h.nin, h.xin, h.row.up u⟩
theorem PV.At.up {w w' : World} {b o : Nat} {p : PV} (h : PV.At w b o p) (u : Up w w') : PV.At w' b o p := ⟨u.keep h.c0, u.keep h.c1, u.keep h.c2, u.keep h.c3, u.keep h.c4⟩
theorem PV.slice {w : World} {p : PV} (h : PV.In w p) : ∃ a c, p.b = .slice a p.bn c := by
  rcases h.row with ⟨e, a, c, hb, _⟩ | ⟨_, _, b, off, cap, hb, _⟩
  · exact ⟨a, c, by rw [hb, e]⟩
  · exact ⟨_, _, hb⟩
/-- The error's number of a value. -/
def pvE (p : PV) : Nat := if p.k < 1 ∨ 4 < p.k then 1 else if p.k = 3 ∧ 4096 < p.bn then 2 else 0
theorem run_store_float {P : Program} (w : World) (a : Addr) (m : Mode) (k : FloatKind) (b : Nat) : (store a (.float k b) m).run P w = stored P w a (.float k b) m := run_store P w a _ m rfl
attribute [local go_sem] run_store_float
set_option maxHeartbeats 400000 in
theorem unknown_any (k : Int) (w : World) :
    Calls Try.prog 26 #[.int .i64 k] w fun e w' => e = .returned (.bool (decide (k < 1 ∨ 4 < k))) ∧ w' = w := by
  by_cases h1 : k < 1
  · rw [show decide (k < 1 ∨ 4 < k) = true by simp; omega]
    go_enter Try.func26, Try.ntmps26
    go_wp2
    go_ret
    exact ⟨rfl, rfl⟩
  · by_cases h2 : 4 < k
    · rw [show decide (k < 1 ∨ 4 < k) = true by simp; omega]
      go_enter Try.func26, Try.ntmps26
      go_wp2
      go_ret
      exact ⟨ret_b (by first | (simp; done) | (simp; omega)), rfl⟩
    · rw [show decide (k < 1 ∨ 4 < k) = false by simp; omega]
      go_enter Try.func26, Try.ntmps26
      go_wp2
      go_ret
      exact ⟨ret_b (by first | (simp; done) | (simp; omega)), rfl⟩
set_option maxHeartbeats 400000 in
theorem fault_any (p : PV) (w : World) (h : PV.In w p) :
    Calls Try.prog 29 #[p.agg] w fun e w' => e = .returned (.int .i64 (pvE p : Nat)) ∧ Up w w' := by
  obtain ⟨a, c, hb⟩ := PV.slice h
  obtain ⟨k, n, x, b, bn, bx, on⟩ := p
  have hmx := h.row.max
  simp only at hb hmx
  subst hb
  clear h
  unfold maxLen at hmx
  unfold PV.agg pvE
  simp only
  by_cases h1 : k < 1 ∨ 4 < k
  · rw [if_pos h1]
    have hd : decide (k < 1 ∨ 4 < k) = true := by simp; exact h1
    have HU := hid (unknown_any k)
    rw [hd] at HU
    clear h1 hd
    go_enter Try.func29, Try.ntmps29
    go_wp2_with (go_at_call 26; refine (HU.out _).mono ?_; rintro e w' ⟨rfl, rfl⟩)
    go_ret
    exact ⟨rfl, (Up.refl w).alloc _⟩
  · rw [if_neg h1]
    have hd : decide (k < 1 ∨ 4 < k) = false := by simp; omega
    have HU := hid (unknown_any k)
    rw [hd] at HU
    clear h1 hd
    by_cases h3 : k = 3
    · subst h3
      by_cases h4 : 4096 < bn
      · rw [if_pos ⟨rfl, h4⟩]
        go_enter Try.func29, Try.ntmps29
        go_wp2_with (go_at_call 26; refine (HU.out _).mono ?_; rintro e w' ⟨rfl, rfl⟩)
        go_ret
        exact ⟨rfl, (Up.refl w).alloc _⟩
      · rw [if_neg (by omega)]
        go_enter Try.func29, Try.ntmps29
        go_wp2_with (go_at_call 26; refine (HU.out _).mono ?_; rintro e w' ⟨rfl, rfl⟩)
        go_ret
        exact ⟨rfl, (Up.refl w).alloc _⟩
    · rw [if_neg (by omega)]
      have t3 : (k == 3) = false := by rw [beq_eq_false_iff_ne]; exact h3
      clear h3
      go_enter Try.func29, Try.ntmps29
      go_wp2_with (go_at_call 26; refine (HU.out _).mono ?_; rintro e w' ⟨rfl, rfl⟩)
      go_ret
      exact ⟨rfl, (Up.refl w).alloc _⟩
set_option maxHeartbeats 400000 in
theorem appendVal_num (base : Nat) (v : Value) (L : List Nat) (p : PV) (hk : p.k = 1) (hn : L.length ≤ 70368744177664) (w : World) (hp : PV.In w p) (hown : OwnL base w v L) (hbase : base ≤ w.heap.size) :
    Calls Try.prog 30 #[v, p.agg] w fun e w' => ∃ v', e = .returned v' ∧ OwnL base w' v' (L ++ numL p.n) ∧ Grew w v w' v' := by
  obtain ⟨a, c, hb⟩ := PV.slice hp
  have HN := hid (fun (W : World) (hW : OwnL base W v L) (hb : base ≤ W.heap.size) => appendNum_any base v L p.n hp.nin.1 hp.nin.2 hn W hW hb)
  obtain ⟨k, n, x, b, bn, bx, on⟩ := p
  simp only at hb hk
  subst hb hk
  have HO := hid hown
  clear hp hown hn
  unfold PV.agg
  simp only at HN ⊢
  go_enter Try.func30, Try.ntmps30
  go_wp2_with (go_at_call 44; refine (HN.out _ (HO.out.alloc _) (by simp; omega)).mono ?_; rintro e w1 ⟨v1, rfl, o1, g1⟩; have H1 := hid o1; clear o1)
  go_ret
  exact ⟨_, rfl, H1.out, ((Grew.refl _ _).alloc _).trans g1⟩
set_option maxHeartbeats 400000 in
theorem appendVal_flag (base : Nat) (v : Value) (L : List Nat) (p : PV) (hk : p.k = 4) (fl : Nat) (hfl : fl = if p.on then 1 else 0) (hn : L.length ≤ 70368744177664) (w : World) (hp : PV.In w p) (hown : OwnL base w v L) (hbase : base ≤ w.heap.size) :
    Calls Try.prog 30 #[v, p.agg] w fun e w' => ∃ v', e = .returned v' ∧ OwnL base w' v' (L ++ [fl]) ∧ Grew w v w' v' := by
  obtain ⟨a, c, hb⟩ := PV.slice hp
  have HN := hid (fun (W : World) (hW : OwnL base W v L) (hb : base ≤ W.heap.size) => appendFlag_any base v L p.on fl hfl hn W hW hb)
  obtain ⟨k, n, x, b, bn, bx, on⟩ := p
  simp only at hb hk
  subst hb hk
  have HO := hid hown
  clear hp hown hn hfl
  unfold PV.agg
  simp only at HN ⊢
  go_enter Try.func30, Try.ntmps30
  go_wp2_with (go_at_call 46; refine (HN.out _ (HO.out.alloc _) (by simp; omega)).mono ?_; rintro e w1 ⟨v1, rfl, o1, g1⟩; have H1 := hid o1; clear o1)
  go_ret
  exact ⟨_, rfl, H1.out, ((Grew.refl _ _).alloc _).trans g1⟩
/-- The bytes of the first k values, each by its own list. -/
def putL (enc : PV → List Nat) (f : Nat → PV) : Nat → List Nat | 0 => [] | k + 1 => putL enc f k ++ enc (f k)
set_option maxHeartbeats 1000000 in
/-- Put of values none of which is wrong, by what appendVal does at each of them. -/
theorem put_ok (enc : PV → List Nat) (b off n cap : Nat) (f : Nat → PV) (hnc : n ≤ 1000000) (w : World) (hc : ∀ i, i < n → PV.At w b (off + i * 5) (f i) ∧ PV.In w (f i)) (h0 : ∀ i, i < n → pvE (f i) = 0)
    (hlen : ∀ k, k ≤ n → (putL enc f k).length ≤ 70368744177664)
    (HA : ∀ i, i < n → ∀ (v : Value) (L : List Nat) (W : World), L.length ≤ 70368744177664 → PV.In W (f i) → OwnL w.heap.size W v L → w.heap.size ≤ W.heap.size → Calls Try.prog 30 #[v, (f i).agg] W fun e w' => ∃ v', e = .returned v' ∧ OwnL w.heap.size w' v' (L ++ enc (f i)) ∧ Grew W v w' v') :
    Calls Try.prog 10 #[.slice (some ⟨b, off, none⟩) n cap] w fun e w' => ∃ v', e = .returned (.tuple #[v', .int .i64 0]) ∧ OwnL w.heap.size w' v' (putL enc f n) ∧ Up w w' := by
  have HC := hid hc
  have H0 := hid h0
  have HL := hid hlen
  have HAA := hid HA
  clear hc h0 hlen HA
  go_enter Try.func10, Try.ntmps10
  go_wp2
  go_loopw [4, 10] (fun o i wr => ∃ k : Nat, k ≤ n ∧ i = .int .i64 (k : Nat) ∧ OwnL w.heap.size wr o (putL enc f k) ∧ Up w wr) (fun _ i _ => n - (intOf i).toNat)
  case atStart => exact ⟨0, Nat.zero_le _, rfl, OwnB.nil _ _ _, Up.refl _⟩
  case round =>
    obtain ⟨k, hk, rfl, ho, hu⟩ := hrel
    by_cases hlt : k < n
    · obtain ⟨hat, hin⟩ := HC.out k hlt
      have hat2 := hat.up hu
      obtain ⟨x0, x1, x2, x3, x4⟩ := hat2
      have hin2 := hid (hin.up hu)
      have HF := hid (fun (W : World) (hW : Up wr W) => fault_any (f k) W (hin2.out.up hW))
      rw [H0.out k hlt] at HF
      have HOk := hid ho
      obtain ⟨a, c, hb⟩ := PV.slice hin
      have HB := hid hb
      have HAk := hid (HAA.out k hlt)
      have hAgg := hid (show (f k).agg = .agg #[.int .i64 (f k).k, .int .i64 (f k).n, .float .f64 (f k).x, .slice a (f k).bn c, .bool (f k).on] by unfold PV.agg; rw [hb])
      rw [hAgg.out] at HF HAk
      have HLk := hid (HL.out k (by omega))
      have HP : Hid (putL enc f (k + 1) = putL enc f k ++ enc (f k)) := rfl
      rw [hb] at x3
      clear ho hin hat hb HC HL HAA H0
      generalize (f k).k = k1 at *
      generalize (f k).n = k2 at *
      generalize (f k).x = k3 at *
      generalize (f k).bn = k4 at *
      generalize (f k).on = k5 at *
      go_wp2_with (first | (go_at_call 29; refine (HF.out _ ((Up.refl wr).alloc _)).mono ?_; rintro e w1 ⟨rfl, u1⟩; have hcells := fun j u (h : (#[.int .i64 k1, .int .i64 k2, .float .f64 k3, .slice a k4 c, .bool k5] : Array Value)[j]? = some u) => u1.keep (cell_new wr #[.int .i64 k1, .int .i64 k2, .float .f64 k3, .slice a k4 c, .bool k5] 35 (0, 0) j u h); have y0 := hcells 0 _ rfl; have y1 := hcells 1 _ rfl; have y2 := hcells 2 _ rfl; have y3 := hcells 3 _ rfl; have y4 := hcells 4 _ rfl; clear hcells; have HU1 := hid (Up.trans ((Up.refl wr).alloc _) u1); clear u1))
      refine (HAk.out _ (putL enc f k) w1 HLk.out (hin2.out.up HU1.out) (OwnB.up HOk.out HU1.out) (Nat.le_trans hu.size HU1.out.size)).mono ?_
      rintro e w2 ⟨v2, rfl, o2, g2⟩
      have H2 := hid o2
      have u2 : Up w w2 := Below.trans (Up.trans hu HU1.out) (g2.below (OwnB.up HOk.out HU1.out) (Nat.le_trans hu.size HU1.out.size))
      clear o2 g2 y0 y1 y2 y3 y4 x0 x1 x2 x3 x4
      go_wp2
      go_roundw
      case rel => exact ⟨k + 1, hlt, by go_num, by rw [HP.out]; exact H2.out, u2⟩
      case measure => simp [intOf]; omega
    · obtain rfl : k = n := by omega
      have HOk := hid ho
      clear ho
      go_wp2
      go_ret2
      exact ⟨_, rfl, HOk.out, hu⟩
end Go.Proofs.Ytpofccnifecpfaa
