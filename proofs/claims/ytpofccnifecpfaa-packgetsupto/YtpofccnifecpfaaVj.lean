/- What Put returns at any row of values: the bytes, or the first wrong one's error; conditions: at most 4194304 values. -/
import Derived.Test.YtpofccnifecpfaaEb
namespace Go.Proofs.Ytpofccnifecpfaa
open Go.RowKit
set_option linter.unusedVariables false
attribute [local go_sem] run_bits run_frombits run_store_float
/-- A value's bytes. -/
def encV (p : PV) : List Nat := if p.k = 1 then numL p.n else if p.k = 2 then keyL (Fl.code p.x) 8 else if p.k = 3 then numL p.bn ++ byL p.bn p.bx else [if p.on then 1 else 0]
theorem encV_len (p : PV) (h : pvE p = 0) (hn : -9223372036854775808 ≤ p.n ∧ p.n ≤ 9223372036854775807) : (encV p).length ≤ 4106 := by
  unfold encV
  unfold pvE at h
  split
  · have := (num_len p.n hn.1 hn.2).2; omega
  · split
    · rw [keyL_len]; omega
    · split
      · have hb : p.bn ≤ 4096 := by
          by_cases hb : 4096 < p.bn
          · simp [*] at h
          · omega
        have := (num_len (p.bn : Int) (by omega) (by omega)).2
        rw [List.length_append, byL_len]; omega
      · simp
/-- The first wrong value's error, of the first k ones. -/
def firstE (f : Nat → PV) : Nat → Nat | 0 => 0 | k + 1 => if firstE f k = 0 then pvE (f k) else firstE f k
theorem firstE_stop (f : Nat → PV) (k : Nat) (h : firstE f k ≠ 0) : ∀ n, k ≤ n → firstE f n = firstE f k := by
  intro n hn
  induction n with
  | zero => obtain rfl : k = 0 := by omega
            rfl
  | succ n ih =>
    by_cases e : k = n + 1
    · rw [e]
    · have := ih (by omega)
      simp [firstE, this, h]
theorem putL_len (f : Nat → PV) (n : Nat) (hn : ∀ i, i < n → -9223372036854775808 ≤ (f i).n ∧ (f i).n ≤ 9223372036854775807) : ∀ k, k ≤ n → firstE f k = 0 → (putL encV f k).length ≤ 4106 * k := by
  intro k hk
  induction k with
  | zero => intro _; simp [putL]
  | succ k ih =>
    intro he
    have h0 : firstE f k = 0 := by
      by_cases h : firstE f k = 0
      · exact h
      · rw [firstE_stop f k h _ (Nat.le_succ k)] at he; exact absurd he h
    have h1 : pvE (f k) = 0 := by simpa [firstE, h0] using he
    have := ih (by omega) h0
    have := encV_len (f k) h1 (hn k (by omega))
    simp [putL]; omega
set_option maxHeartbeats 400000 in
theorem appendVal_any (w0 : World) (v : Value) (L : List Nat) (p : PV) (he : pvE p = 0) (hn : L.length ≤ 70368744177664) (w : World) (hp : PV.In w0 p) (hu : Up w0 w) (hown : OwnL w0.heap.size w v L) :
    Calls Try.prog 30 #[v, p.agg] w fun e w' => ∃ v', e = .returned v' ∧ OwnL w0.heap.size w' v' (L ++ encV p) ∧ Grew w v w' v' := by
  have hcase : (p.k = 1 ∨ p.k = 2 ∨ p.k = 3 ∨ p.k = 4) ∧ (p.k = 3 → p.bn ≤ 4096) := by
    unfold pvE at he
    by_cases h1 : p.k < 1 ∨ 4 < p.k
    · simp [h1] at he
    · refine ⟨by omega, fun h3 => ?_⟩
      by_cases hb : 4096 < p.bn
      · simp [h3, hb] at he
      · omega
  obtain ⟨h | h | h | h, hb⟩ := hcase
  · rw [show encV p = numL p.n by simp [encV, h]]
    exact appendVal_num w0.heap.size v L p h hn w (hp.up hu) hown hu.size
  · rw [show encV p = keyL (Fl.code p.x) 8 by simp [encV, h]]
    exact appendVal_key w0.heap.size v L p h hn w (hp.up hu) hown hu.size
  · rw [show encV p = numL p.bn ++ byL p.bn p.bx by simp [encV, h]]
    exact appendVal_bytes w0 v L p h (hb h) hn w hp hu hown
  · rw [show encV p = [if p.on then 1 else 0] by simp [encV, h]]
    exact appendVal_flag w0.heap.size v L p h _ rfl hn w (hp.up hu) hown hu.size
set_option maxHeartbeats 2000000 in
theorem put_row (a : Option Addr) (n cap : Nat) (f : Nat → PV) (hnc : n ≤ 4194304) (w : World) (hc : ∀ i, i < n → ∃ b off, a = some ⟨b, off, none⟩ ∧ PV.At w b (off + i * 5) (f i) ∧ PV.In w (f i)) :
    Calls Try.prog 10 #[.slice a n cap] w fun e w' => ∃ v' L', e = .returned (.tuple #[v', .int .i64 (firstE f n : Nat)]) ∧ OwnL w.heap.size w' v' L' ∧ (firstE f n = 0 → L' = putL encV f n) ∧ (firstE f n ≠ 0 → L' = []) ∧ Up w w' := by
  have HC := hid hc
  have HL := hid (putL_len f n (fun i hi => by obtain ⟨b, off, _, _, h⟩ := hc i hi; exact h.nin))
  clear hc
  generalize hE : firstE f n = E
  have HE := hid hE
  clear hE
  go_enter Try.func10, Try.ntmps10
  go_wp2
  go_loopw [4, 10] (fun o i wr => ∃ k : Nat, k ≤ n ∧ i = .int .i64 (k : Nat) ∧ OwnL w.heap.size wr o (putL encV f k) ∧ Up w wr ∧ firstE f k = 0) (fun _ i _ => n - (intOf i).toNat)
  case atStart => exact ⟨0, Nat.zero_le _, rfl, OwnB.nil _ _ _, Up.refl _, rfl⟩
  case round =>
    obtain ⟨k, hk, rfl, ho, hu, h0⟩ := hrel
    by_cases hlt : k < n
    · obtain ⟨b, off, ha, hat, hin⟩ := HC.out k hlt
      subst ha
      have hat2 := hat.up hu
      obtain ⟨x0, x1, x2, x3, x4⟩ := hat2
      have hin2 := hid (hin.up hu)
      have HF := hid (fun (W : World) (hW : Up wr W) => fault_any (f k) W (hin2.out.up hW))
      have HOk := hid ho
      obtain ⟨a, c, hb⟩ := PV.slice hin
      have HB := hid hb
      have HLk := hid (HL.out k (by omega) h0)
      have hS : firstE f (k + 1) = pvE (f k) := by simp [firstE, h0]
      have hAgg := hid (show (f k).agg = .agg #[.int .i64 (f k).k, .int .i64 (f k).n, .float .f64 (f k).x, .slice a (f k).bn c, .bool (f k).on] by unfold PV.agg; rw [hb])
      have HP : Hid (putL encV f (k + 1) = putL encV f k ++ encV (f k)) := rfl
      by_cases hz : pvE (f k) = 0
      · have HAk := hid (fun (W : World) (hW : Up w W) (v : Value) (hv : OwnL w.heap.size W v (putL encV f k)) => appendVal_any w v (putL encV f k) (f k) hz (by have := HLk.out; omega) W hin hW hv)
        have HS := hid (hS.trans hz)
        rw [hz] at HF
        rw [hAgg.out] at HF HAk
        rw [hb] at x3
        clear ho hin hat hb HC HL hz hS h0 HE
        generalize (f k).k = k1 at *
        generalize (f k).n = k2 at *
        generalize (f k).x = k3 at *
        generalize (f k).bn = k4 at *
        generalize (f k).on = k5 at *
        go_wp2_with (first | (go_at_call 29; refine (HF.out _ ((Up.refl wr).alloc _)).mono ?_; rintro e w1 ⟨rfl, u1⟩; have hcells := fun j u (h : (#[.int .i64 k1, .int .i64 k2, .float .f64 k3, .slice a k4 c, .bool k5] : Array Value)[j]? = some u) => u1.keep (cell_new wr #[.int .i64 k1, .int .i64 k2, .float .f64 k3, .slice a k4 c, .bool k5] 35 (0, 0) j u h); have y0 := hcells 0 _ rfl; have y1 := hcells 1 _ rfl; have y2 := hcells 2 _ rfl; have y3 := hcells 3 _ rfl; have y4 := hcells 4 _ rfl; clear hcells; have HU1 := hid (Up.trans ((Up.refl wr).alloc _) u1); clear u1))
        refine (HAk.out w1 (Up.trans hu HU1.out) _ (OwnB.up HOk.out HU1.out)).mono ?_
        rintro e w2 ⟨v2, rfl, o2, g2⟩
        have H2 := hid o2
        have u2 : Up w w2 := Below.trans (Up.trans hu HU1.out) (g2.below (OwnB.up HOk.out HU1.out) (Nat.le_trans hu.size HU1.out.size))
        clear o2 g2 y0 y1 y2 y3 y4 x0 x1 x2 x3 x4
        go_wp2
        go_roundw
        case rel => exact ⟨k + 1, hlt, by go_num, by rw [HP.out]; exact H2.out, u2, HS.out⟩
        case measure => simp [intOf]; omega
      · have hEk : E = pvE (f k) := by rw [← HE.out, ← hS]; exact firstE_stop f (k + 1) (by rw [hS]; exact hz) n hlt
        rw [← hEk] at HF hz
        rw [hAgg.out] at HF
        rw [hb] at x3
        have hEz := hid hz
        have hEb : ((E : Int) != 0) = true := by simp; omega
        clear ho hin hat hb HC HL hz hS h0 HE hEk
        generalize (f k).k = k1 at *
        generalize (f k).n = k2 at *
        generalize (f k).x = k3 at *
        generalize (f k).bn = k4 at *
        generalize (f k).on = k5 at *
        go_wp2_with (first | (go_at_call 29; refine (HF.out _ ((Up.refl wr).alloc _)).mono ?_; rintro e w1 ⟨rfl, u1⟩; have HU1 := hid (Up.trans ((Up.refl wr).alloc _) u1); clear u1))
        go_ret2
        exact ⟨_, [], rfl, OwnB.nil _ _ _, fun h => absurd h hEz.out, fun _ => rfl, Up.trans hu HU1.out⟩
    · obtain rfl : k = n := by omega
      have HOk := hid ho
      obtain rfl : 0 = E := by rw [← HE.out, h0]
      clear ho HC HL HE
      go_wp2
      go_ret2
      exact ⟨_, rfl, _, HOk.out, rfl, hu⟩
end Go.Proofs.Ytpofccnifecpfaa
